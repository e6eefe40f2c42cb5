import PyProof.Rows.All
import Wide.All
import OpenK.AllK
import Wide.FinOn
import Lean
import PyProof.EqAt
import PyProof.EqKinds
import PyProof.TupleCall
import PyProof.ListRange
import PyProof.TupleOfGen
import PyProof.Rows.StrKeys3
import PyProof.ZipIter
import PyProof.FactsAll.set
import PySem.Challenge.RW_labelways_k39_plans_judged
set_option Elab.async false
set_option linter.all false
set_option maxRecDepth 100000
section
open PySem PySem.Spec PyProof.Rows
abbrev zA:=@wpAny_bind
abbrev zB:=@List.length_append
abbrev zD:=@wpAny_pure
abbrev zE:=@List.length_map
abbrev zF:=@List.getElem?_eq_getElem
abbrev zH:=@Nat.le_refl
abbrev zI:=@Heap.get?_push_of_some
abbrev zJ:=@List.mem_append
abbrev zM:=@List.getElem?_eq_some_iff
abbrev zN:=@List.mem_cons_of_mem
abbrev zO:=@Heap.get?_push_size
abbrev zP:=@List.size_toArray
abbrev zQ:=@decide_eq_true
abbrev zR:=@List.mem_cons
abbrev zS:=@decide_eq_false
abbrev zT:=@List.mem_cons_self
abbrev zU:=@List.getD_eq_getElem?_getD
abbrev zW:=@Heap.lt_size
abbrev zY:=@List.length_cons
abbrev zZ:=@List.getElem?_map
abbrev za:=@List.take_of_length_le
abbrev zb:=@Nat.zero_le
abbrev zd:=@List.length_take
abbrev zh:=@Nat.ne_of_lt
abbrev zi:=@List.mem_of_getElem?
abbrev zj:=@List.map_append
abbrev zk:=@List.mem_singleton
abbrev zm:=@Option.some.inj
abbrev zp:=@Nat.lt_of_lt_of_le
abbrev zr:=@List.append_nil
abbrev zt:=@Bool.false_ne_true
abbrev zv:=@Heap.get?_update_self
abbrev zw:=@wpAny_newObj_type
abbrev zx:=@wpAny_holding
abbrev zz:=@Nat.le_trans
abbrev zAA:=@List.mem_append_right
abbrev zAB:=@List.getElem?_eq_none
abbrev zAC:=@Bool.and_eq_true
abbrev zAG:=@List.map_cons
abbrev zAJ:=@wpAny_mono
abbrev zAO:=@wpAny_call_entry
abbrev zAQ:=@List.length_range
abbrev zAR:=@List.length_drop
abbrev zAS:=@List.getElem_mem
abbrev zAT:=@Int.toNat_natCast
abbrev zAV:=@List.pairwise_iff_getElem
abbrev zAW:=@List.getElem_of_mem
abbrev zAY:=@List.mem_map
abbrev zAa:=@wpAny_loadPart_at
abbrev zAb:=@List.take_add_one
abbrev zAc:=@List.append_assoc
abbrev zAd:=@List.take_append_drop
abbrev zAe:=@List.getElem?_toArray
abbrev zAh:=@wpAny_callSpecial?_slot
abbrev zAi:=@List.length_pos_iff
abbrev zAk:=@List.getElem?_append_left
abbrev zAl:=@Nat.le_of_lt
abbrev zAn:=@Heap.get?_update_other
abbrev zAr:=@Heap.SameBut.update
abbrev zAt:=@List.nodup_append
abbrev zAu:=@List.getElem?_append_right
abbrev zAx:=@Nat.lt_of_le_of_lt
abbrev zA0:=@Heap.size_push
abbrev zA1:=@wpAny_Call_Name_kw
abbrev zA2:=@List.nodup_cons
abbrev zA3:=@List.length_nil
abbrev zA6:=@List.not_mem_nil
abbrev zA7:=@List.all_eq_true
abbrev zA9:=@List.filterMap_cons
abbrev zBA:=@List.take_zero
abbrev zBC:=@wpAny_isInstance
abbrev zBF:=@List.length_eq_zero_iff
abbrev zBG:=@Int.eq_ofNat_of_zero_le
abbrev zBH:=@wpAny_typeOf
abbrev zBI:=@List.drop_zero
abbrev zBJ:=@wpAny_truthy_bool
abbrev zBK:=@wpAny_setState_of
abbrev zBM:=@Nat.lt_succ_of_lt
abbrev zBN:=@List.flatten_cons
abbrev zBT:=@Option.map_some
abbrev zBU:=@List.length_reverse
abbrev zBV:=@Option.map_eq_some_iff
abbrev zBb:=@List.nodup_iff_pairwise_ne
abbrev zBd:=@List.lookup_cons
abbrev zBf:=@Nat.lt_irrefl
abbrev zBg:=@Nat.le_of_ble_eq_true
abbrev zBh:=@List.pairwise_cons
abbrev zBi:=@Bool.false_eq_true
abbrev zBl:=@Nat.le_succ
abbrev zBm:=@List.mem_range
abbrev zBn:=@Classical.byContradiction
abbrev zBo:=@Bool.false_and
abbrev zBs:=@wpAny_updateSeq
abbrev zBt:=@Option.isSome_iff_exists
abbrev zBu:=@Nat.not_lt_zero
abbrev zBv:=@List.reverse_cons
abbrev zB4:=@wpAny_typeNameOfWhole_keyiter
abbrev zB5:=@List.cons_append
abbrev zB6:=@wpAny_setField
abbrev zB7:=@wpAny_call
abbrev zCD:=@List.Perm.refl
end
namespace L2
open PySem PySem.Spec PyProof.Rows
noncomputable abbrev Key:=Sum Int Str
noncomputable def zIf:Key->Value->Bool
 | .inl k,v=>Value.isInt k v
 | .inr x,v=>Value.isStrOf x v
noncomputable def keyH (w:World):Key->Int
 | .inl k=>hashInt k
 | .inr x=>hashStr w x
theorem zBQ:∀{k:Key}{v:Value},zIf k v=true->(∃i t,k=Sum.inl i/\v=Value.int i t)\/(∃x t,k=Sum.inr x/\v=Value.str x t)
 | .inl i,v,h=>by
  obtain⟨t,e⟩:=Value.isInt_shape (k:=i) (v:=v) h
  exact .inl ⟨i,t,rfl,e⟩
 | .inr x,v,h=>by
  obtain⟨t,e⟩:=Value.isStrOf_shape (x:=x) (v:=v) h
  exact .inr ⟨x,t,rfl,e⟩
theorem zJx (i:Int)(t:Tok):zIf (.inl i) (.int i t)=true:=by simp[zIf,Value.isInt]
theorem zJw (x:Str)(t:Tok):zIf (.inr x) (.str x t)=true:=by simp[zIf,Value.isStrOf]
theorem key_ll (a b:Int):decide ((Sum.inl a:Key)=Sum.inl b)=(a==b):=by
 by_cases e:a=b
 . subst e;simp
 . have h:¬ (Sum.inl a:Key)=Sum.inl b:=fun q=>e (Sum.inl.inj q)
   rw[zS h]
   exact (beq_eq_false_iff_ne.mpr e).symm
theorem key_rr (a b:Str):decide ((Sum.inr a:Key)=Sum.inr b)=decide (a=b):=by
 by_cases e:a=b
 . subst e;simp
 . have h:¬ (Sum.inr a:Key)=Sum.inr b:=fun q=>e (Sum.inr.inj q)
   rw[zS h,zS e]
theorem key_lr (a:Int)(b:Str):decide ((Sum.inl a:Key)=Sum.inr b)=false:=zS (fun q=>nomatch q)
theorem key_rl (a:Str)(b:Int):decide ((Sum.inr a:Key)=Sum.inl b)=false:=zS (fun q=>nomatch q)
noncomputable def zBE (prog:Program)(w:World):PySem.KeyKind prog w Key where
 is:=zIf
 hash:=keyH w
 inj:=fun v a b ha hb=>by
  rcases zBQ ha with ⟨i,t,rfl,rfl⟩ | ⟨x,t,rfl,rfl⟩
  . rcases zBQ hb with ⟨j,u,rfl,e⟩ | ⟨y,u,rfl,e⟩
    . injection e with e1 _;rw[e1]
    . exact nomatch e
  . rcases zBQ hb with ⟨j,u,rfl,e⟩ | ⟨y,u,rfl,e⟩
    . exact nomatch e
    . injection e with e1 _;rw[e1]
 byValue:=fun k v h=>by
  rcases zBQ h with ⟨i,t,rfl,rfl⟩ | ⟨x,t,rfl,rfl⟩ <;> rfl
 pyHash:=fun hv h=>by
  rcases zBQ hv with ⟨i,t,rfl,rfl⟩ | ⟨x,t,rfl,rfl⟩
  . exact wpAny_pyHash_int h
  . exact wpAny_pyHash_str h
 eqBool:=fun hu hv h=>by
  rcases zBQ hu with ⟨i,t,rfl,rfl⟩ | ⟨x,t,rfl,rfl⟩
  . rcases zBQ hv with ⟨j,u,rfl,rfl⟩ | ⟨y,u,rfl,rfl⟩
    . rw[key_ll] at h;exact wpAny_eqBool_int h
    . rw[key_lr] at h;exact SeqAt.EqAt.int_str i t y u _ _ _ _ h
  . rcases zBQ hv with ⟨j,u,rfl,rfl⟩ | ⟨y,u,rfl,rfl⟩
    . rw[key_rl] at h;exact SeqAt.EqAt.str_int x t j u _ _ _ _ h
    . rw[key_rr] at h;exact wpAny_eqBool_str h
 «strs» := fun k x t v h=>by
  rcases zBQ h with ⟨i,u,rfl,e⟩ | ⟨y,u,rfl,e⟩
  . exact nomatch e
  . injection e with e1 _
    subst e1
    cases v <;> rfl
theorem zHE (prog:Program)(w:World)(i:Int)(t:Tok):(zBE prog w).is (.inl i) (.int i t)=true:=zJx i t
theorem zHD (prog:Program)(w:World)(x:Str)(t:Tok):(zBE prog w).is (.inr x) (.str x t)=true:=zJw x t
end L2
namespace L2
open PySem PySem.Spec PyProof.Rows
inductive V where
 | non | bl (b:Bool) | int (i:Int) | str (x:Str) | byt (b:Array UInt8) | flt (b:UInt64) | ref (a:Addr) | ty (n:String)
 deriving DecidableEq
noncomputable def zBe:V->Value->Prop
 | .non,u=>u=Value.none
 | .bl b,u=>u=Value.bool b
 | .int i,u=>∃t,u=Value.int i t
 | .str x,u=>∃t,u=Value.str x t
 | .byt b,u=>∃t,u=Value.bytes b t
 | .flt b,u=>∃t,u=Value.float b t
 | .ref a,u=>u=Value.ref a
 | .ty n,u=>u=Value.type n
noncomputable abbrev zBB:List V->List Value->Prop:=Paired zBe
theorem zBB.length {xs:List V}{us:List Value}(r:zBB xs us):xs.length=us.length:=Paired.length r
theorem zBB.get:∀{xs:List V}{us:List Value}{i:Nat}{x:V},zBB xs us->xs[i]? = some x->∃u,us[i]? = some u/\zBe x u
 | _,_,_,_,.nil,e=>by simp at e
 | _,_,0,_,.cons r _,e=>by simp at e;subst e;exact⟨_,rfl,r⟩
 | _,_,i+1,x,.cons _ t,e=>by
  obtain⟨u,h1,h2⟩:=zBB.get (i:=i) (x:=x) t (by simpa using e)
  exact⟨u,by simpa using h1,h2⟩
theorem zBB.set {x:V}{u:Value}(r:zBe x u):∀{xs:List V}{us:List Value}(i:Nat),zBB xs us->zBB (xs.set i x) (us.set i u)
 | _,_,_,.nil=>.nil
 | _,_,0,.cons _ t=>.cons r t
 | _,_,i+1,.cons q t=>.cons q (zBB.set r i t)
theorem zBB.append:∀{xs ys:List V}{us ws:List Value},zBB xs us->zBB ys ws->zBB (xs++ys) (us++ws)
 | _,_,_,_,.nil,s=>s
 | _,_,_,_,.cons r t,s=>.cons r (zBB.append t s)
theorem zBB.take:∀{xs:List V}{us:List Value}(n:Nat),zBB xs us->zBB (xs.take n) (us.take n)
 | _,_,0,_=>.nil
 | _,_,_+1,.nil=>.nil
 | _,_,n+1,.cons r t=>.cons r (zBB.take n t)
theorem zBB.drop:∀{xs:List V}{us:List Value}(n:Nat),zBB xs us->zBB (xs.drop n) (us.drop n)
 | _,_,0,r=>r
 | _,_,_+1,.nil=>.nil
 | _,_,n+1,.cons _ t=>zBB.drop n t
noncomputable def zF9:Option V->Option Value->Prop
 | some v,some u=>zBe v u
 | none,none=>True
 | _,_=>False
noncomputable def KV {κ:Type}:List (κ×V)->List (κ×Value)->Prop:=Paired fun (p:κ×V)(q:κ×Value)=>p.1=q.1/\zBe p.2 q.2
noncomputable def kV:Key->V
 | .inl i=>.int i
 | .inr x=>.str x
inductive HO where
 /-- a list -/
 | lst (xs:List V)
 /-- a tuple (never changes) -/
 | tup (xs:List V)
 /-- a dict whose keys are ints and texts;one whose keys are tuples of ints and texts (the empty one is both) -/
 | dK (kvs:List (Key×V)) | dT (kvs:List (List Key×V))
 /-- a set of ints: its members,its size -/
 | set (S:Int->Bool)(n:Nat)
 /-- an instance of the class at C,its dict at dx,its attributes -/
 | ins (C dx:Addr)(fs:List (Str×V))
 /-- the dict of the instance at x -/
 | own (x:Addr)
 /-- the dict of an exception -/
 | xd (fs:List (Str×V))
 /-- a bound method,f of x -/
 | met (f x:Addr)
 /-- a range object lo,lo+1,.. below hi -/
 | rng (lo hi:Int)
 /-- a thing that is known to the object (the script;a dict while a loop walks it): read,never written while it is so -/
 | frz (o:Obj)(u:HO)
 /-- a code object's table -/
 | tbl (ps:Array Value)
 /-- any other thing,by what is true of its one object (a def of one's own: SetO a S n:=HO.ext fun h=>..) -/
 | ext (φ:Heap->Prop)
noncomputable abbrev Hp:=Addr->Option HO
noncomputable def upd (H:Hp)(a:Addr)(o:HO):Hp:=fun b=>if b=a then some o else H b
theorem zK {H:Hp}{a:Addr}{o:HO}:upd H a o a=some o:=by unfold upd;rw[if_pos rfl]
theorem zf {H:Hp}{a b:Addr}{o:HO}(h:b≠a):upd H a o b=H b:=by unfold upd;rw[if_neg h]
theorem zCt {H:Hp}{a:Addr}{o u:HO}:upd (upd H a o) a u=upd H a u:=by
 funext b;unfold upd;split <;> rfl
theorem zDe {H:Hp}{a b:Addr}{o u:HO}(h:H a=some o)(h':H b=some u)(d:o≠u):a≠b:=by
 intro e;subst e;rw[h] at h';exact d (zm h')
theorem zo {H:Hp}{a b:Addr}{o:HO}(h:H a=some o)(h':H b=none):a≠b:=by
 intro e;subst e;rw[h] at h';cases h'
section
variable (P:Program)(w:World)
noncomputable def zBY (H:Hp)(h:Heap)(a:Addr):HO->Prop
 | .lst xs=>xs.length<=sizeLine/\∃(its:List Value)(n:Nat),zBB xs its/\h.get? a=some { cls:=.type "list",data:=.seq its.toArray n }
 | .tup xs=>(xs.length<=sizeLine/\∃o,h.get? a=some o/\o.dict=none)/\∃its:List Value,zBB xs its/\IsTup h a its.toArray
 | .dK kvs=>kvs.length<=sizeLine/\(a==sysModules)=false/\∃vs,KV kvs vs/\h.DictOf (zBE P w) a vs
 | .dT kvs=>kvs.length<=sizeLine/\(a==sysModules)=false/\∃xs:List (List Key×Addr×Value),
  Paired (fun (p:List Key×V)(q:List Key×Addr×Value)=>p.1=q.1/\H q.2.1=some (.tup (p.1.map kV))/\zBe p.2 q.2.2) kvs xs /\
  ∃o es ep,h.get? a=some o/\o.ExactDict/\o.data = .dict es ep/\es.toList=xs.map (entryOfKey (tupleKind (zBE P w)))/\(xs.map (·.1)).Nodup
 | .set S n=>h.SetOf (intKind P w) a S n
 | .ins C dx fs=>H dx=some (.own a)/\fs.length<=1000/\dx≠a/\h.get? a=some (PySem.W.instObj C dx) /\
  ∃mA,h.Ns1 dx mA/\(∀f,zF9 (fs.lookup f) (mA f))/\PySem.Within mA (fs.map (·.1))
 | .own _=>∃o,h.get? a=some o
 | .xd fs=>∃mA,h.Ns1 a mA/\∀f,zF9 (fs.lookup f) (mA f)
 | .rng lo hi=>∃t u v,h.get? a=some { cls:=.type "range",data:=.fields #[.int lo t,.int hi u,.int 1 v] }
 | .frz o u=>h.get? a=some o/\zBY H h a u
 | .tbl ps=>h.get? a=some { cls:=.none,data:=.fields ps }
 | .met f x=>h.get? a=some (PySem.W.methodObj (.ref f) (.ref x))
 | .ext φ=>φ h/\(∃o,h.get? a=some o)/\∀h1 h2:Heap,φ h1->(∀o,h1.get? a=some o->h2.get? a=some o)->φ h2
noncomputable def HOk (H:Hp)(h:Heap):Prop:=∀a o,H a=some o->zBY P w H h a o
end
section
variable {P:Program}{w:World}{H H':Hp}{h h':Heap}{a:Addr}{o:HO}
theorem zBY.lt (x:zBY P w H h a o):a<h.objs.size:=by
 cases o with
 | lst xs=>obtain⟨_,_,_,_,e⟩:=x;exact zW e
 | tup xs=>obtain⟨_,_,_,p⟩:=x;exact p.lt
 | dK kvs=>obtain⟨_,_,_,_,o,_,_,e,_⟩:=x;exact zW e
 | dT kvs=>obtain⟨_,_,_,_,o,_,_,e,_⟩:=x;exact zW e
 | set S n=>obtain⟨o,_,_,_,e,_⟩:=x;exact zW e
 | ins C dx fs=>obtain⟨_,_,_,e,_⟩:=x;exact zW e
 | own y=>obtain⟨_,e⟩:=x;exact zW e
 | xd fs=>obtain⟨_,⟨_,_,_,e,_⟩,_⟩:=x;exact zW e
 | rng lo hi=>obtain⟨_,_,_,e⟩:=x;exact zW e
 | frz ob u=>obtain⟨e,_⟩:=x;exact zW e
 | tbl ps=>exact zW (show h.get? a=some _ from x)
 | met f y=>exact zW (show h.get? a=some _ from x)
 | ext φ=>obtain⟨_,⟨_,e⟩,_⟩:=x;exact zW e
theorem Paired.mapP {α β:Type}{F G:α->β->Prop}:∀{l₁:List α}{l₂:List β},Paired F l₁ l₂->(∀a b,F a b->G a b)->Paired G l₁ l₂
 | _,_,.nil,_=>.nil
 | _,_,.cons r t,f=>.cons (f _ _ r) (Paired.mapP t f)
theorem zBY.stay (x:zBY P w H h a o)(k:∀b u,(b=a\/H b=some (.own a))->h.get? b=some u->h'.get? b=some u)
 (ho:∀b,H b=some (.own a)->H' b=some (.own a))(ht:∀b xs,H b=some (.tup xs)->H' b=some (.tup xs)):zBY P w H' h' a o:=by
 induction o with
 | lst xs=>obtain⟨z,its,n,r,e⟩:=x;exact⟨z,its,n,r,k _ _ (.inl rfl) e⟩
 | tup xs=>obtain⟨⟨z,o2,e2,d2⟩,its,r,ob,e,c⟩:=x;exact⟨⟨z,o2,k _ _ (.inl rfl) e2,d2⟩,its,r,ob,k _ _ (.inl rfl) e,c⟩
 | dK kvs=>obtain⟨z,y,vs,r,ob,es,ep,e,c⟩:=x;exact⟨z,y,vs,r,ob,es,ep,k _ _ (.inl rfl) e,c⟩
 | dT kvs=>
  obtain⟨z,y,xs,r,ob,es,ep,e,c⟩:=x
  exact⟨z,y,xs,Paired.mapP r fun p q z=>⟨z.1,ht _ _ z.2.1,z.2.2⟩,ob,es,ep,k _ _ (.inl rfl) e,c⟩
 | set S n=>obtain⟨ob,es,ep,t,e,c⟩:=x;exact⟨ob,es,ep,t,k _ _ (.inl rfl) e,c⟩
 | ins C dx fs=>
  obtain⟨d,z,ne,e,mA,⟨od,es,ep,e2,c⟩,r⟩:=x
  exact⟨ho _ d,z,ne,k _ _ (.inl rfl) e,mA,⟨od,es,ep,k _ _ (.inr d) e2,c⟩,r⟩
 | own y=>obtain⟨ob,e⟩:=x;exact⟨ob,k _ _ (.inl rfl) e⟩
 | xd fs=>obtain⟨mA,⟨od,es,ep,e,c⟩,r⟩:=x;exact⟨mA,⟨od,es,ep,k _ _ (.inl rfl) e,c⟩,r⟩
 | rng lo hi=>obtain⟨t,u,v,e⟩:=x;exact⟨t,u,v,k _ _ (.inl rfl) e⟩
 | frz ob u ih=>obtain⟨e,q⟩:=x;exact⟨k _ _ (.inl rfl) e,ih q⟩
 | tbl ps=>
  have e:h.get? a=some { cls:=.none,data:=.fields ps }:=x
  show h'.get? a=some { cls:=.none,data:=.fields ps }
  exact k a _ (.inl rfl) e
 | met f y=>
  have e:h.get? a=some (PySem.W.methodObj (.ref f) (.ref y)):=x
  show h'.get? a=some (PySem.W.methodObj (.ref f) (.ref y))
  exact k a _ (.inl rfl) e
 | ext φ=>obtain⟨p,⟨o,e⟩,st⟩:=x;exact⟨st _ _ p fun o q=>k _ _ (.inl rfl) q,⟨o,k _ _ (.inl rfl) e⟩,st⟩
theorem HOk.lt (x:HOk P w H h)(e:H a=some o):a<h.objs.size:=(x a o e).lt
theorem HOk.fresh (x:HOk P w H h)(e:h.objs.size<=a):H a=none:=by
 cases q:H a with
 | none=>rfl
 | some u=>exact absurd (zp (x.lt q) e) (zBf _)
theorem HOk.kept (x:HOk P w H h)(k:∀b u,h.get? b=some u->h'.get? b=some u):HOk P w H h':=fun a o e=>
 (x a o e).stay (fun b u _ q=>k b u q) (fun _ q=>q) fun _ _ q=>q
theorem HOk.laid (x:HOk P w H h)(k:∀b u,h.get? b=some u->h'.get? b=some u)(hp:h.objs.size<=a)(new:zBY P w (upd H a o) h' a o):HOk P w (upd H a o) h':=fun b u e=>by
 have hn:=x.fresh hp
 by_cases hb:b=a
 . subst hb;rw[zK] at e;cases e;exact new
 . rw[zf hb] at e
   exact (x b u e).stay (fun c v _ q=>k c v q) (fun c q=>by rw[zf (zo q hn)];exact q) fun c xs q=>by rw[zf (zo q hn)];exact q
end
noncomputable def Rd (H:Hp)(a:Addr)(u:HO):Prop:=H a=some u\/∃o,H a=some (.frz o u)
theorem Rd.ok {P:Program}{w:World}{H:Hp}{h:Heap}{a:Addr}{u:HO}(r:Rd H a u)(x:HOk P w H h):zBY P w H h a u:=by
 rcases r with r | ⟨o,r⟩
 . exact x a u r
 . obtain⟨_,q⟩:=x a _ r
   exact q
noncomputable def Mut:Option HO->Prop
 | some (.lst _)=>True
 | some (.dK _)=>True
 | some (.dT _)=>True
 | some (.set _ _)=>True
 | some (.ins _ _ _)=>True
 | some (.ext _)=>True
 | _=>False
section
variable {P:Program}{w:World}{H:Hp}{h h':Heap}{x e:Addr}{o':HO}
theorem HOk.write (ok:HOk P w H h)(mu:Mut (H x))(he:e=x\/H e=some (.own x))(k:∀b u,b≠e->h.get? b=some u->h'.get? b=some u)(heo:∃u,h'.get? e=some u)
 (new:zBY P w (upd H x o') h' x o'):HOk P w (upd H x o') h':=fun b u q=>by
 have nown:∀c y,H c=some (.own y)->c≠x:=fun c y r z=>by subst z;rw[r] at mu;exact mu
 have ntup:∀c xs,H c=some (.tup xs)->c≠x:=fun c xs r z=>by subst z;rw[r] at mu;exact mu
 by_cases hb:b=x
 . subst hb;rw[zK] at q;cases q;exact new
 . rw[zf hb] at q
   by_cases hbe:b=e
   . have q':H b=some (.own x):=by
      rcases he with z | z
      . exact absurd (hbe.trans z) hb
      . rw[hbe];exact z
     rw[q] at q';cases q'
     obtain⟨v,hv⟩:=heo
     exact⟨v,by rw[hbe];exact hv⟩
   . refine (ok b u q).stay (fun c v hc r=>k c v ?_ r) (fun c r=>by rw[zf (nown c b r)];exact r) fun c xs r=>by rw[zf (ntup c xs r)];exact r
     rcases hc with rfl | hc
     . exact hbe
     . rintro rfl
       rcases he with z | z
       . exact nown c b hc z
       . rw[hc] at z;cases z;exact hb rfl
end
structure Un (fs ex:List Addr)(H H':Hp)(h h':Heap):Prop where
 keep:∀b o,h.get? b=some o->H b=none->b∉fs->b∉ex->h'.get? b=some o
 slot:∀b o,h.get? b=some o->H b=none->b∈fs->b∉ex->∃sl,h'.get? b=some { o with slots:=sl }
 free:∀b o,h.get? b=some o->H b=none->b∉ex->H' b=none
 there:∀b o,h.get? b=some o->b∉ex->∃o',h'.get? b=some o'
 tups:∀b xs,H b=some (.tup xs)->H' b=some (.tup xs)
 frzs:∀b o u,H b=some (.frz o u)->H' b=some (.frz o u)
 tbls:∀b ps,H b=some (.tbl ps)->∃more,H' b=some (.tbl (ps++more))
section
variable {fs fs' ex ex':List Addr}{H H1 H2:Hp}{h h1 h2 h':Heap}{a x e:Addr}{o:HO}
theorem Un.any (u:Un fs ex H H1 h h1){b:Addr}{ob:Obj}(q:h.get? b=some ob)(n:H b=none)(hx:b∉ex):∃sl,h1.get? b=some { ob with slots:=sl }:=by
 by_cases hb:b∈fs
 . exact u.slot b ob q n hb hx
 . exact⟨ob.slots,u.keep b ob q n hb hx⟩
theorem Un.trans (a:Un fs ex H H1 h h1)(b:Un fs ex H1 H2 h1 h2):Un fs ex H H2 h h2 where
 keep:=fun c ob q n hc hx=>b.keep c ob (a.keep c ob q n hc hx) (a.free c ob q n hx) hc hx
 slot:=fun c ob q n hc hx=>by
  obtain⟨sl,e1⟩:=a.slot c ob q n hc hx
  obtain⟨sl',e2⟩:=b.slot c _ e1 (a.free c ob q n hx) hc hx
  exact⟨sl',e2⟩
 free:=fun c ob q n hx=>by
  obtain⟨o',e1⟩:=a.there c ob q hx
  exact b.free c o' e1 (a.free c ob q n hx) hx
 there:=fun c ob q hx=>by
  obtain⟨o',e1⟩:=a.there c ob q hx
  exact b.there c o' e1 hx
 tups:=fun c xs q=>b.tups c xs (a.tups c xs q)
 frzs:=fun c ob xs q=>b.frzs c ob xs (a.frzs c ob xs q)
 tbls:=fun c ps q=>by
  obtain⟨m1,e1⟩:=a.tbls c ps q
  obtain⟨m2,e2⟩:=b.tbls c _ e1
  exact⟨m1++m2,by rw[e2,Array.append_assoc]⟩
theorem Un.kept (k:∀b u,h.get? b=some u->h'.get? b=some u):Un fs ex H H h h':=
 ⟨fun b ob q _ _ _=>k b ob q,fun b ob q _ _ _=>⟨ob.slots,k b ob q⟩,fun _ _ _ n _=>n,fun b ob q _=>⟨ob,k b ob q⟩,fun _ _ q=>q,fun _ _ _ q=>q,fun _ ps q=>⟨#[],by rw[q];simp⟩⟩
theorem Un.refl:Un fs ex H H h h:=Un.kept fun _ _ q=>q
theorem Un.laid (k:∀b u,h.get? b=some u->h'.get? b=some u)(hp:h.objs.size<=a)(hn:H a=none):Un fs ex H (upd H a o) h h' where
 keep:=fun b u q _ _ _=>k b u q
 slot:=fun b u q _ _ _=>⟨u.slots,k b u q⟩
 free:=fun b u q n _=>by rw[zf (zh (zp (zW q) hp))];exact n
 there:=fun b u q _=>⟨u,k b u q⟩
 tups:=fun b xs q=>by rw[zf (zo q hn)];exact q
 frzs:=fun b u xs q=>by rw[zf (zo q hn)];exact q
 tbls:=fun b ps q=>⟨#[],by rw[zf (zo q hn),q];simp⟩
theorem Un.write (mu:Mut (H x))(he:e=x\/H e=some (.own x))(k:∀b u,b≠e->h.get? b=some u->h'.get? b=some u)(heo:∃u,h'.get? e=some u):Un fs ex H (upd H x o) h h':=by
 have hx:∀b,H b=none->b≠x:=fun b n z=>by subst z;rw[n] at mu;exact mu
 have hb:∀b,H b=none->b≠e:=fun b n z=>by
  subst z
  rcases he with r | r
  . exact hx b n r
  . rw[n] at r;cases r
 have hm:∀b u,H b=some u->¬ Mut (some u)->b≠x:=fun b u q nm z=>by subst z;rw[q] at mu;exact nm mu
 refine⟨fun b u q n _ _=>k b u (hb b n) q,fun b u q n _ _=>⟨u.slots,k b u (hb b n) q⟩,fun b u q n _=>by rw[zf (hx b n)];exact n,fun b u q _=>?_,
  fun b xs q=>by rw[zf (hm b _ q fun z=>z)];exact q,fun b u xs q=>by rw[zf (hm b _ q fun z=>z)];exact q,fun b ps q=>⟨#[],by rw[zf (hm b _ q fun z=>z),q];simp⟩⟩
 by_cases hbe:b=e
 . subst hbe;exact heo
 . exact⟨u,k b u hbe q⟩
end
noncomputable def trk (h:Heap)(H:Hp):List Addr:=(List.range h.objs.size).filter fun a=>(H a).isSome
noncomputable def zLH (h:Heap)(H:Hp):Heap:=PySem.W.hideAll h (trk h H)
theorem zJ6 (h:Heap)(H:Hp):(zLH h H).objs.size=h.objs.size:=PySem.W.hideAll_size _ _
theorem zLG {h:Heap}{H:Hp}{b:Addr}{o:Obj}(e:h.get? b=some o)(n:H b=none):(zLH h H).get? b=some o:=
 PySem.W.hideAll_get _ e fun hm=>by
  have q:(H b).isSome=true:=(List.mem_filter.mp hm).2
  rw[n] at q;simp at q
theorem zMe {h:Heap}{H:Hp}{b:Addr}{o:Obj}(e:(zLH h H).get? b=some o):h.get? b=some o/\H b=none:=by
 have e':h.get? b=some o:=PySem.W.of_hideAll (trk h H) e
 refine⟨e',?_⟩
 cases q:H b with
 | none=>rfl
 | some x=>
  have hm:b∈trk h H:=List.mem_filter.mpr ⟨zBm.mpr (zW e'),by simp[q]⟩
  have z:(zLH h H).get? b=none:=PySem.W.hideAll_none (trk h H) hm
  rw[z] at e;cases e
end L2
namespace L2
open PySem PySem.Spec PyProof.Rows
structure Mod (K:PySem.W.Frag)(mg:Str->Option Value)(base:Heap):Prop where
 kin:K.In base
 glob:base.Ns mainGlobals mg
 blt:∃mb,base.Ns builtinsNs mb/\∀x:Str,x ≠ "__name__" -> mb x=bootBuiltins x
 nolimit:base.NoLimit
structure Cx where
 prog:Program
 w:World
 K:PySem.W.Frag
 mg:Str->Option Value
 base:Heap
 A:Around
 N:List Str
 s₀:Shared
 H₀:Hp
 env:Env
 outer:List Env
 stack:List Env
 ex:List Addr
 fn:Str->Bool
 calm:Bool
 pn:List (Addr×Obj)
 xe:Value->Shared->Prop
noncomputable def frs (l:List Env):List Addr:=l.filterMap (·.frame)
noncomputable abbrev Cx.fs (X:Cx):List Addr:=frs X.outer
noncomputable def Vis (sc:Scope)(x:Str):Prop:=sc.names.lookup x=some .local\/sc.names.lookup x=some .cell\/sc.names.lookup x=some .free
noncomputable def Loc (sc:Scope)(x:Str):Prop:=sc.names.lookup x=some .local\/sc.names.lookup x=some .cell
noncomputable def Look (env:Env)(h:Heap)(m:Str->Option Value)(x:Str)(u:Value):Prop:=
 (env.kindOf x=some .local/\m x=some u)\/((env.kindOf x=some .cell\/env.kindOf x=some .free)/\∃c,env.cells.lookup x=some c/\h.IsCell c (some u))
structure Cx.Ok (X:Cx):Prop where
 mod:Mod X.K X.mg X.base
 kind:X.env.scope.kind = .function
 glob:X.env.globals=mainGlobals
 blt:X.env.builtins=builtinsNs
 above:X.s₀.heap.objs.size<=X.env.locals
 inj:∀x y c,X.env.cells.lookup x=some c->X.env.cells.lookup y=some c->x=y
 has:∀x,(X.env.kindOf x=some .cell\/X.env.kindOf x=some .free)->∃c,X.env.cells.lookup x=some c
 cab:∀x c,X.fn x=true->X.env.cells.lookup x=some c->X.s₀.heap.objs.size<=c
 hd:X.calm=true->X.A.handled=none
 frames:X.A.frames=some X.stack
 stk:X.stack=X.outer\/(X.stack=X.env::X.outer/\X.env.frame=some X.env.locals)
 exf:∀b∈X.ex,b≠X.env.locals/\∀x c,X.env.cells.lookup x=some c->c≠b
 bs:∀b o,X.base.get? b=some o->X.s₀.heap.get? b=some o/\X.H₀ b=none
 bsz:X.base.objs.size<=X.s₀.heap.objs.size
 noex:∀b o,X.base.get? b=some o->b∉X.ex
 exfs:∀b∈X.ex,b∉X.fs
 funs:X.s₀.heap.FunFrames X.base X.outer
 frf:∀b∈X.fs,X.H₀ b=none
structure Inv (X:Cx)(pins:List (Addr×Obj))(σ:List (Option V))(H:Hp)(s:Shared):Prop where
 ok:X.Ok
 os:s.os=X.s₀.os
 bare:AllBare s.gens
 base:Un X.fs X.ex X.H₀ H X.s₀.heap s.heap
 loc:∃m,s.heap.Ns X.env.locals m/\∀(i:Nat)(x:Str)(v:V),X.N[i]? = some x->σ[i]? = some (some v)->Vis X.env.scope x->∃u,zBe v u/\Look X.env s.heap m x u
 cell:∀x c,X.env.cells.lookup x=some c->∃v,s.heap.IsCell c v
 free:H X.env.locals=none
 freeC:∀x c,X.env.cells.lookup x=some c->H c=none
 pin:∀p∈X.pn++pins,s.heap.get? p.1=some p.2/\H p.1=none/\p.1≠X.env.locals/\p.1∉X.fs/\∀v,p.2.data ≠ .cell v
 hok:HOk X.prog X.w H s.heap
 len:σ.length=X.N.length
section
variable {X:Cx}{pins:List (Addr×Obj)}{σ:List (Option V)}{H H':Hp}{s:Shared}{h':Heap}
theorem Cx.Ok.nofr (ok:X.Ok){b:Addr}{o:Obj}(e:X.base.get? b=some o):b∉X.fs:=fun hb=>by
 have:=(ok.funs.mem hb).1
 rw[e] at this;cases this
theorem Inv.bs (I:Inv X pins σ H s):∀b o,X.base.get? b=some o->s.heap.get? b=some o/\H b=none:=fun b o e=>
 ⟨I.base.keep b o (I.ok.bs b o e).1 (I.ok.bs b o e).2 (I.ok.nofr e) (I.ok.noex b o e),I.base.free b o (I.ok.bs b o e).1 (I.ok.bs b o e).2 (I.ok.noex b o e)⟩
theorem Inv.bk (I:Inv X pins σ H s):∀b o,X.base.get? b=some o->s.heap.get? b=some o:=fun b o e=>(I.bs b o e).1
theorem Inv.mod (I:Inv X pins σ H s):Mod X.K X.mg X.base:=I.ok.mod
theorem Inv.kIn (I:Inv X pins σ H s):X.K.In s.heap:=I.ok.mod.kin.keeps I.bk
theorem Inv.lt (I:Inv X pins σ H s):X.env.locals<s.heap.objs.size:=let ⟨_,hn,_⟩:=I.loc;hn.lt
theorem Inv.sz (I:Inv X pins σ H s):X.s₀.heap.objs.size<=s.heap.objs.size:=zz I.ok.above (zAl I.lt)
theorem Inv.nofs (I:Inv X pins σ H s){a:Addr}(h:s.heap.objs.size<=a):a∉X.fs:=fun hb=>by
 obtain⟨_,o,ho,_⟩:=I.ok.funs.mem hb
 exact absurd (zp (zW ho) (zz I.sz h)) (zBf _)
theorem Inv.cne (I:Inv X pins σ H s):∀x c,X.env.cells.lookup x=some c->c≠X.env.locals:=fun x c e z=>by
 obtain⟨v,o,ho,hd⟩:=I.cell x c e
 obtain⟨m,⟨o',es,ep,ho',hd',_⟩,_⟩:=I.loc
 rw[z,ho'] at ho;cases ho;rw[hd'] at hd;cases hd
theorem Inv.funs (I:Inv X pins σ H s):s.heap.FunFrames X.base X.outer:=by
 have all:∀(l:List Env),(∀b∈frs l,b∈X.fs)->X.s₀.heap.FunFrames X.base l->s.heap.FunFrames X.base l:=by
  intro l
  induction l with
  | nil=>intro _ _;trivial
  | cons env r ih=>
   intro hs hl
   obtain⟨hk,⟨L,o,hf,hn,ho,hd⟩,hr⟩:=hl
   have hL:L∈X.fs:=hs L (by unfold frs;rw[zA9,hf];exact zT)
   obtain⟨sl,e⟩:=I.base.slot L o ho (I.ok.frf L hL) hL fun z=>I.ok.exfs L z hL
   exact⟨hk,⟨L,_,hf,hn,e,hd⟩,ih (fun b hb=>hs b (by unfold frs;rw[zA9,hf];exact zN _ hb)) hr⟩
 exact all X.outer (fun _ hb=>hb) I.ok.funs
theorem Inv.stack (I:Inv X pins σ H s):s.heap.FunFrames X.base X.stack:=by
 rcases I.ok.stk with e | ⟨e,hf⟩
 . rw[e];exact I.funs
 . rw[e]
   obtain⟨m,hn,_⟩:=I.loc
   refine .cons (by rw[I.ok.kind];decide) hf hn ?_ I.funs
   exact Heap.get?_none_of_le (zz I.ok.bsz I.ok.above)
theorem Inv.stkSub (I:Inv X pins σ H s):∀b∈frs X.stack,b∈X.env.locals::X.fs:=fun b hb=>by
 rcases I.ok.stk with e | ⟨e,hf⟩
 . rw[e] at hb;exact zN _ hb
 . rw[e] at hb
   unfold frs at hb
   rw[zA9,hf] at hb
   exact hb
theorem Inv.stkFree (I:Inv X pins σ H s):∀b∈frs X.stack,H b=none:=fun b hb=>by
 rcases zR.mp (I.stkSub b hb) with e | hb
 . rw[e];exact I.free
 . obtain⟨_,o,ho,_⟩:=I.ok.funs.mem hb
   exact I.base.free b o ho (I.ok.frf b hb) fun z=>I.ok.exfs b z hb
theorem Inv.step {g':Array GenState}{t':Nat}{d':Drawn}{ch:List Addr}(I:Inv X pins σ H s)
 (hch:∀b∈ch,(b∈X.ex\/X.s₀.heap.objs.size<=b)/\b≠X.env.locals/\(∀x c,X.env.cells.lookup x=some c->c≠b)/\∀p∈X.pn++pins,p.1≠b)
 (keep:∀b o,b≠X.env.locals->b∉X.fs->b∉ch->s.heap.get? b=some o->H b=none->h'.get? b=some o)
 (slot:∀b o,b≠X.env.locals->b∈X.fs->b∉ch->s.heap.get? b=some o->H b=none->∃sl,h'.get? b=some { o with slots:=sl })(free:∀b o,b∉ch->s.heap.get? b=some o->H b=none->H' b=none)
 (there:∀b o,b∉ch->s.heap.get? b=some o->∃o',h'.get? b=some o')
 (tups:∀b xs,H b=some (.tup xs)->H' b=some (.tup xs))(frzs:∀b o u,H b=some (.frz o u)->H' b=some (.frz o u))(tbls:∀b ps,H b=some (.tbl ps)->∃more,H' b=some (.tbl (ps++more)))
 (ns:∀m,s.heap.Ns X.env.locals m->h'.Ns X.env.locals m)(hok:HOk X.prog X.w H' h')(hg:AllBare g') :
 Inv X pins σ H' { s with heap:=h',gens:=g',drawn:=d',toks:=t' }:=by
 have neL:∀b o,X.s₀.heap.get? b=some o->b≠X.env.locals:=fun b o e=>zh (zp (zW e) I.ok.above)
 have neC:∀b o,X.s₀.heap.get? b=some o->b∉X.ex->b∉ch:=fun b o e hx hb=>by
  rcases (hch b hb).1 with z | z
  . exact hx z
  . exact absurd (zp (zW e) z) (zBf _)
 have cellK:∀x c,X.env.cells.lookup x=some c->∀v,s.heap.IsCell c v->h'.IsCell c v:=fun x c e v ⟨o,ho,hd⟩=>by
  have nch:c∉ch:=fun z=>(hch c z).2.2.1 x c e rfl
  by_cases hc:c∈X.fs
  . obtain⟨sl,q⟩:=slot c o (I.cne x c e) hc nch ho (I.freeC x c e)
    exact⟨_,q,hd⟩
  . exact⟨o,keep c o (I.cne x c e) hc nch ho (I.freeC x c e),hd⟩
 refine⟨I.ok,I.os,hg,⟨fun b o e n hb hx=>?_,fun b o e n hb hx=>?_,fun b o e n hx=>?_,fun b o e hx=>?_,fun b xs e=>tups b xs (I.base.tups b xs e),fun b o xs e=>frzs b o xs (I.base.frzs b o xs e),fun b ps e=>?_⟩,?_,fun x c e=>?_,?_,fun x c e=>?_,fun p hp=>?_,hok,I.len⟩
 . exact keep b o (neL b o e) hb (neC b o e hx) (I.base.keep b o e n hb hx) (I.base.free b o e n hx)
 . obtain⟨sl,e1⟩:=I.base.slot b o e n hb hx
   obtain⟨sl',e2⟩:=slot b _ (neL b o e) hb (neC b o e hx) e1 (I.base.free b o e n hx)
   exact⟨sl',e2⟩
 . obtain⟨o',e1⟩:=I.base.there b o e hx
   exact free b o' (neC b o e hx) e1 (I.base.free b o e n hx)
 . obtain⟨o',e1⟩:=I.base.there b o e hx
   exact there b o' (neC b o e hx) e1
 . obtain⟨m1,e1⟩:=I.base.tbls b ps e
   obtain⟨m2,e2⟩:=tbls b _ e1
   exact⟨m1++m2,by rw[e2,Array.append_assoc]⟩
 . obtain⟨m,hn,hl⟩:=I.loc
   refine⟨m,ns m hn,fun i x v e1 e2 e3=>?_⟩
   obtain⟨u,r,l⟩:=hl i x v e1 e2 e3
   refine⟨u,r,?_⟩
   rcases l with l | ⟨k,c,e,z⟩
   . exact .inl l
   . exact .inr ⟨k,c,e,cellK x c e _ z⟩
 . obtain⟨v,z⟩:=I.cell x c e
   exact⟨v,cellK x c e v z⟩
 . obtain⟨m,⟨o,_,_,ho,_⟩,_⟩:=I.loc
   exact free _ o (fun z=>(hch _ z).2.1 rfl) ho I.free
 . obtain⟨v,o,ho,hd⟩:=I.cell x c e
   exact free c o (fun z=>(hch c z).2.2.1 x c e rfl) ho (I.freeC x c e)
 . obtain⟨e,n,ne,nf,d⟩:=I.pin p hp
   have nch:p.1∉ch:=fun z=>(hch p.1 z).2.2.2 p hp rfl
   exact⟨keep p.1 p.2 ne nf nch e n,free p.1 p.2 nch e n,ne,nf,d⟩
theorem Inv.un {t':Nat}(I:Inv X pins σ H s)(u:Un X.fs [] H H' s.heap h')(hok:HOk X.prog X.w H' h'):Inv X pins σ H' { s with heap:=h',toks:=t' }:=by
 obtain⟨m,⟨o,es,ep,ho,r⟩,_⟩:=id I.loc
 obtain⟨sl,hL⟩:=u.any ho I.free (by simp)
 exact I.step (g':=s.gens) (d':=s.drawn) (ch:=[]) (fun _ z=>nomatch z) (fun b o _ hb _ e n=>u.keep b o e n hb (by simp)) (fun b o _ hb _ e n=>u.slot b o e n hb (by simp)) (fun b o _ e n=>u.free b o e n (by simp)) (fun b o _ e=>u.there b o e (by simp)) u.tups u.frzs u.tbls (fun m' hm=>by
  obtain⟨o',es',ep',ho',r'⟩:=hm
  rw[ho] at ho';cases ho'
  exact⟨_,es',ep',hL,r'⟩) hok I.bare
theorem Inv.call {g':Array GenState}{t':Nat}{d':Drawn}{ch:List Addr}(I:Inv X pins σ H s)(u:Un (frs X.stack) ch H H' s.heap h')(hok:HOk X.prog X.w H' h')(hg:AllBare g')
 (hch:∀b∈ch,(b∈X.ex\/X.s₀.heap.objs.size<=b)/\b≠X.env.locals/\(∀x c,X.env.cells.lookup x=some c->c≠b)/\∀p∈X.pn++pins,p.1≠b) :
 Inv X pins σ H' { s with heap:=h',gens:=g',drawn:=d',toks:=t' }:=by
 obtain⟨m,⟨o,es,ep,ho,r⟩,_⟩:=id I.loc
 obtain⟨sl,hL⟩:=u.any ho I.free fun z=>(hch _ z).2.1 rfl
 exact I.step (ch:=ch) hch (fun b o hL hb hc e n=>u.keep b o e n (fun z=>(zR.mp (I.stkSub b z)).elim hL hb) hc) (fun b o _ _ hc e n=>u.any e n hc) (fun b o hc e n=>u.free b o e n hc) (fun b o hc e=>u.there b o e hc) u.tups u.frzs u.tbls (fun m' hm=>by
  obtain⟨o',es',ep',ho',r'⟩:=hm
  rw[ho] at ho';cases ho'
  exact⟨_,es',ep',hL,r'⟩) hok hg
theorem Inv.turned {t':Nat}{it:Addr}(I:Inv X pins σ H s)(k:∀b o,b≠it->s.heap.get? b=some o->h'.get? b=some o)(hn:H it=none)(hL:it≠X.env.locals)
 (h1:it∈X.ex\/X.s₀.heap.objs.size<=it)(h2:∀x c,X.env.cells.lookup x=some c->c≠it)(h3:∀p∈X.pn++pins,p.1≠it):Inv X pins σ H { s with heap:=h',toks:=t' }:=by
 have nit:∀b u,H b=some u->b≠it:=fun b u e z=>by rw[z,hn] at e;cases e
 refine I.step (g':=s.gens) (d':=s.drawn) (ch:=[it]) (fun b hb=>?_) (fun b o _ _ hc e _=>k b o (fun z=>hc (by simp[z])) e) (fun b o _ _ hc e _=>⟨o.slots,k b o (fun z=>hc (by simp[z])) e⟩) (fun _ _ _ _ n=>n)
  (fun b o hc e=>⟨o,k b o (fun z=>hc (by simp[z])) e⟩) (fun _ _ e=>e) (fun _ _ _ e=>e) (fun b ps e=>⟨#[],by rw[e];simp⟩) (fun m hm=>?_) (fun b u e=>?_) I.bare
 . have e:b=it:=by simpa using hb
   subst e
   exact⟨h1,hL,h2,h3⟩
 . obtain⟨o,es,ep,ho,r⟩:=hm
   exact⟨o,es,ep,k _ o (Ne.symm hL) ho,r⟩
 . refine (I.hok b u e).stay (fun c v hc q=>k c v ?_ q) (fun _ q=>q) fun _ _ q=>q
   rcases hc with z | z
   . rw[z];exact nit b u e
   . exact nit c _ z
theorem Inv.tok (I:Inv X pins σ H s)(t:Nat):Inv X pins σ H { s with toks:=t }:=I.un (h':=s.heap) (t':=t) Un.refl I.hok
theorem Inv.kept {t':Nat}(I:Inv X pins σ H s)(k:∀b u,s.heap.get? b=some u->h'.get? b=some u):Inv X pins σ H { s with heap:=h',toks:=t' }:=I.un (Un.kept k) (I.hok.kept k)
theorem Inv.laid {a:Addr}{o:HO}{t':Nat}(I:Inv X pins σ H s)(k:∀b u,s.heap.get? b=some u->h'.get? b=some u)(hp:s.heap.objs.size<=a)(new:zBY X.prog X.w (upd H a o) h' a o) :
 Inv X pins σ (upd H a o) { s with heap:=h',toks:=t' }:=I.un (Un.laid k hp (I.hok.fresh hp)) (I.hok.laid k hp new)
theorem Inv.write {x e:Addr}{o:HO}{t':Nat}(I:Inv X pins σ H s)(mu:Mut (H x))(he:e=x\/H e=some (.own x))(k:∀b u,b≠e->s.heap.get? b=some u->h'.get? b=some u)(heo:∃u,h'.get? e=some u)
 (new:zBY X.prog X.w (upd H x o) h' x o):Inv X pins σ (upd H x o) { s with heap:=h',toks:=t' }:=I.un (Un.write mu he k heo) (I.hok.write mu he k heo new)
theorem Inv.weak {σ':List (Option V)}(I:Inv X pins σ H s)(hl:σ'.length=σ.length)(w:∀(i:Nat) v,σ'[i]? = some (some v)->σ[i]? = some (some v)):Inv X pins σ' H s:=
 ⟨I.ok,I.os,I.bare,I.base,let ⟨m,hn,hl'⟩:=I.loc;⟨m,hn,fun i x v e1 e2 e3=>hl' i x v e1 (w i v e2) e3⟩,I.cell,I.free,I.freeC,I.pin,I.hok,hl.trans I.len⟩
theorem Inv.pins_of {pins':List (Addr×Obj)}(I:Inv X pins σ H s)(h:∀p∈pins',s.heap.get? p.1=some p.2/\H p.1=none/\p.1≠X.env.locals/\p.1∉X.fs/\∀v,p.2.data ≠ .cell v):Inv X pins' σ H s:=
 ⟨I.ok,I.os,I.bare,I.base,I.loc,I.cell,I.free,I.freeC,fun p hp=>(zJ.mp hp).elim (fun z=>I.pin p (List.mem_append_left _ z)) (h p),I.hok,I.len⟩
theorem zFq {N:List Str}(hN:N.Nodup){i j:Nat}{x:Str}(a:N[i]? = some x)(b:N[j]? = some x):i=j:=by
 obtain⟨h1,e1⟩:=zM.mp a
 obtain⟨h2,e2⟩:=zM.mp b
 exact (List.getElem_inj hN).mp (e1.trans e2.symm)
theorem zI2 {M:Model}{A:Around}{E:Value->Shared->Prop}{i:Nat}{x:Str}{v:V}{u:Value}{Q:Unit->Shared->Prop}(I:Inv X pins σ H s)(hN:X.N.Nodup)(hi:X.N[i]? = some x)(hx:Loc X.env.scope x)(r:zBe v u)
 (h:∀s',Inv X pins (σ.set i (some v)) H s'->(∃a,Heap.SameBut a s.heap s'.heap/\(a=X.env.locals\/X.env.cells.lookup x=some a))->Q () s')(hf:X.fn x=true\/X.env.scope.names.lookup x=some .local:=by first | exact .inl rfl | exact .inr rfl | assumption):wpAny M A (storeName X.env x u) Q E s:=by
 obtain⟨m,hn,hl⟩:=id I.loc
 have hcls:(X.env.scope.kind == .class || (X.env.scope.kind == .module && X.env.locals != X.env.globals))=false:=by rw[I.ok.kind];rfl
 have hiσ:i<σ.length:=by rw[I.len];exact (zM.mp hi).1
 have cne:=I.cne
 have tracked:∀{a:Addr}{h':Heap},(∃o,s.heap.get? a=some o/\H a=none)->Heap.SameBut a s.heap h'->HOk X.prog X.w H h':=fun {a h'} ha hs b ob e=>by
  obtain⟨_,_,hfree⟩:=ha
  refine (I.hok b ob e).stay (fun c w' hc q=>(hs.2 c ?_).trans q) (fun _ q=>q) fun _ _ q=>q
  rintro rfl
  rcases hc with rfl | hc
  . rw[hfree] at e;cases e
  . rw[hfree] at hc;cases hc
 rcases hx with hk | hk
 . refine wpAny_storeName_local hk hn (fun h' hn' hs=>?_) hcls
   obtain⟨oL,_,_,hoL,_⟩:=id hn
   refine h _ ⟨I.ok,I.os,I.bare,⟨fun b o e n hb hx=>?_,fun b o e n hb hx=>?_,I.base.free,fun b o e hx=>?_,I.base.tups,I.base.frzs,I.base.tbls⟩,⟨_,hn',fun j y v' e1 e2 e3=>?_⟩,fun y c e=>?_,I.free,I.freeC,fun p hp=>?_,tracked ⟨oL,hoL,I.free⟩ hs,by simpa using I.len⟩ ⟨_,hs,.inl rfl⟩
   . exact (hs.2 b (zh (zp (zW e) I.ok.above))).trans (I.base.keep b o e n hb hx)
   . obtain⟨sl,e1⟩:=I.base.slot b o e n hb hx
     exact⟨sl,(hs.2 b (zh (zp (zW e) I.ok.above))).trans e1⟩
   . obtain⟨o',e1⟩:=I.base.there b o e hx
     exact⟨o',(hs.2 b (zh (zp (zW e) I.ok.above))).trans e1⟩
   . by_cases hj:j=i
     . subst hj
       rw[hi] at e1;cases e1
       rw[List.getElem?_set_self hiσ] at e2
       cases e2
       exact⟨u,r,.inl ⟨hk,by simp⟩⟩
     . rw[List.getElem?_set_ne (Ne.symm hj)] at e2
       obtain⟨u',r',q⟩:=hl j y v' e1 e2 e3
       refine⟨u',r',?_⟩
       rcases q with ⟨k,e⟩ | ⟨k,c,e,z⟩
       . refine .inl ⟨k,?_⟩
         have:y≠x:=fun e=>hj (zFq hN e1 (e ▸ hi))
         simp[this,e]
       . exact .inr ⟨k,c,e,z.sameBut hs (cne y c e)⟩
   . obtain⟨w',z⟩:=I.cell y c e
     exact⟨w',z.sameBut hs (cne y c e)⟩
   . obtain⟨e,n,ne,nf,d⟩:=I.pin p hp
     exact⟨(hs.2 p.1 ne).trans e,n,ne,nf,d⟩
 . have hfn:X.fn x=true:=by
    rcases hf with z | z
    . exact z
    . rw[z] at hk;cases hk
   obtain⟨c,hc⟩:=I.ok.has x (.inl hk)
   obtain⟨w',z⟩:=I.cell x c hc
   refine wpAny_storeName_cell I.ok.kind hk hc z (fun h' hc' hs=>?_)
   obtain⟨oc,hoc,hocd⟩:=id z
   refine h { s with heap:=h' } ⟨I.ok,I.os,I.bare,⟨fun b o e n hb hx=>?_,fun b o e n hb hx=>?_,I.base.free,fun b o e hx=>?_,I.base.tups,I.base.frzs,I.base.tbls⟩,⟨m,hn.sameBut hs (Ne.symm (cne x c hc)),fun j y v' e1 e2 e3=>?_⟩,fun y c' e=>?_,I.free,I.freeC,fun p hp=>?_,tracked ⟨oc,hoc,I.freeC x c hc⟩ hs,by simpa using I.len⟩ ⟨c,hs,.inr hc⟩
   . exact (hs.2 b (zh (zp (zW e) (I.ok.cab x c hfn hc)))).trans (I.base.keep b o e n hb hx)
   . obtain⟨sl,e1⟩:=I.base.slot b o e n hb hx
     exact⟨sl,(hs.2 b (zh (zp (zW e) (I.ok.cab x c hfn hc)))).trans e1⟩
   . obtain⟨o',e1⟩:=I.base.there b o e hx
     exact⟨o',(hs.2 b (zh (zp (zW e) (I.ok.cab x c hfn hc)))).trans e1⟩
   . by_cases hj:j=i
     . subst hj
       rw[hi] at e1;cases e1
       rw[List.getElem?_set_self hiσ] at e2
       cases e2
       exact⟨u,r,.inr ⟨.inl hk,c,hc,hc'⟩⟩
     . rw[List.getElem?_set_ne (Ne.symm hj)] at e2
       obtain⟨u',r',q⟩:=hl j y v' e1 e2 e3
       refine⟨u',r',?_⟩
       rcases q with q | ⟨k,c',e,z'⟩
       . exact .inl q
       . refine .inr ⟨k,c',e,z'.sameBut hs ?_⟩
         rintro rfl
         exact hj (zFq hN e1 (I.ok.inj _ _ _ e hc ▸ hi))
   . by_cases hcc:c'=c
     . subst hcc;exact⟨_,hc'⟩
     . obtain⟨w2,z2⟩:=I.cell y c' e
       exact⟨w2,z2.sameBut hs hcc⟩
   . obtain⟨e,n,ne,nf,d⟩:=I.pin p hp
     refine⟨(hs.2 p.1 ?_).trans e,n,ne,nf,d⟩
     intro q
     rw[q,hoc] at e
     have q':oc=p.2:=zm e
     exact d w' (by rw[<-q'];exact hocd)
theorem zDA {M:Model}{A:Around}{E:Value->Shared->Prop}{i:Nat}{x:Str}{v:V}{u:Value}{Q:Unit->Shared->Prop}(I:Inv X pins σ H s)(hN:X.N.Nodup)(hi:X.N[i]? = some x)(hx:Loc X.env.scope x)(r:zBe v u)
 (h:∀s',Inv X pins (σ.set i (some v)) H s'->Q () s')(hf:X.fn x=true\/X.env.scope.names.lookup x=some .local:=by first | exact .inl rfl | exact .inr rfl | assumption):wpAny M A (storeName X.env x u) Q E s:=
 zI2 I hN hi hx r (fun s' I' _=>h s' I') hf
theorem Inv.call' {s':Shared}{ch:List Addr}(I:Inv X pins σ H s)(ho:s'.os=s.os)(u:Un (frs X.stack) ch H H' s.heap s'.heap)(hok:HOk X.prog X.w H' s'.heap)(hg:AllBare s'.gens)
 (hch:∀b∈ch,(b∈X.ex\/X.s₀.heap.objs.size<=b)/\b≠X.env.locals/\(∀x c,X.env.cells.lookup x=some c->c≠b)/\∀p∈X.pn++pins,p.1≠b):Inv X pins σ H' s':=by
 obtain⟨h',g',d',t',o'⟩:=s'
 have e:o'=s.os:=ho
 subst e
 exact I.call (g':=g') (t':=t') (d':=d') u hok hg hch
end
noncomputable abbrev XK:=Value->Option Addr->Hp->Prop
noncomputable abbrev St:=List (Option V)
noncomputable abbrev VK:=V->Hp->Prop
noncomputable abbrev TE:=St->Hp->VK->Prop
noncomputable abbrev TT:=St->Hp->(Bool->Hp->Prop)->Prop
noncomputable abbrev TA:=St->Hp->(List V->Hp->Prop)->Prop
structure zIv where
 nx:St->Hp->Prop
 rt:VK
 bk:St->Hp->Prop:=fun _ _=>False
 ct:St->Hp->Prop:=fun _ _=>False
noncomputable abbrev TS:=zIv->St->Hp->Prop
noncomputable def EP (X:Cx)(pins:List (Addr×Obj))(σ:St)(Q:VK)(u:Value)(s':Shared):Prop:=∃v H',Inv X pins σ H' s'/\zBe v u/\Q v H'
noncomputable def TP (X:Cx)(pins:List (Addr×Obj))(σ:St)(Q:Bool->Hp->Prop)(b:Bool)(s':Shared):Prop:=∃H',Inv X pins σ H' s'/\Q b H'
noncomputable def AP (X:Cx)(pins:List (Addr×Obj))(σ:St)(Q:List V->Hp->Prop)(us:List Value)(s':Shared):Prop:=∃vs H',Inv X pins σ H' s'/\zBB vs us/\Q vs H'
noncomputable def SP (X:Cx)(pins:List (Addr×Obj))(D:zIv)(f:Flow)(s':Shared):Prop:=
 match f with
 | .next=>∃ σ' H',Inv X pins σ' H' s'/\D.nx σ' H'
 | .brk=>∃ σ' H',Inv X pins σ' H' s'/\D.bk σ' H'
 | .cont=>∃ σ' H',Inv X pins σ' H' s'/\D.ct σ' H'
 | .ret u=>∃v σ' H',Inv X pins σ' H' s'/\zBe v u/\D.rt v H'
noncomputable def PE (X:Cx)(e:Expr)(t:TE):Prop:=
 ∀(pins:List (Addr×Obj))(s:Shared)(σ:St)(H:Hp)(Q:VK),Inv X pins σ H s->t σ H Q->wpAny (model X.prog X.w) X.A (eval e X.env) (EP X pins σ Q) X.xe s
noncomputable def PT (X:Cx)(e:Expr)(t:TT):Prop:=
 ∀(pins:List (Addr×Obj))(s:Shared)(σ:St)(H:Hp)(Q:Bool->Hp->Prop),Inv X pins σ H s->t σ H Q->wpAny (model X.prog X.w) X.A (isTrue e X.env (eval e X.env)) (TP X pins σ Q) X.xe s
noncomputable def PW (X:Cx)(e:Expr)(t:TT):Prop:=
 ∀(whole:Sem Value)(pins:List (Addr×Obj))(s:Shared)(σ:St)(H:Hp)(Q:Bool->Hp->Prop),Inv X pins σ H s->t σ H Q->wpAny (model X.prog X.w) X.A (isTrue e X.env whole) (TP X pins σ Q) X.xe s
theorem PW.pt {X:Cx}{e:Expr}{t:TT}(h:PW X e t):PT X e t:=h _
noncomputable def PA (X:Cx)(es:List Expr)(t:TA):Prop:=
 ∀(pos:Pos)(pins:List (Addr×Obj))(s:Shared)(σ:St)(H:Hp)(Q:List V->Hp->Prop),Inv X pins σ H s->t σ H Q->wpAny (model X.prog X.w) X.A (spliced (backTo pos (starEach es X.env))) (AP X pins σ Q) X.xe s
noncomputable def PS (X:Cx)(st:Stmt)(t:TS):Prop:=
 ∀(pins:List (Addr×Obj))(s:Shared)(σ:St)(H:Hp)(D:zIv),Inv X pins σ H s->t D σ H->wpAny (model X.prog X.w) X.A (exec st X.env) (SP X pins D) X.xe s
noncomputable def PSs (X:Cx)(st:List Stmt)(t:TS):Prop:=
 ∀(pins:List (Addr×Obj))(s:Shared)(σ:St)(H:Hp)(D:zIv),Inv X pins σ H s->t D σ H->wpAny (model X.prog X.w) X.A (execs st X.env) (SP X pins D) X.xe s
theorem thn {α:Type}{t:Sem α}{Q Q':α->Shared->Prop}{M:Model}{A:Around}{E:Value->Shared->Prop}{s:Shared}(h:wpAny M A t Q E s)(hQ:∀a s,Q a s->Q' a s):wpAny M A t Q' E s:=zAJ h hQ fun _ _ x=>x
end L2
namespace L2
open PySem PySem.Spec PyProof.Rows
section
variable {X:Cx}
theorem bin {a b:Expr}{ta tb:TE}(ha:PE X a ta)(hb:PE X b tb){pins:List (Addr×Obj)}{s:Shared}{σ:St}{H:Hp}{R:V->V->Hp->Prop}(I:Inv X pins σ H s)(h:ta σ H fun x H1=>tb σ H1 fun y H2=>R x y H2)
 {α:Type}{Q:α->Shared->Prop}{f:Value->Value->Sem α}
 (hf:∀v u s2 x y H2,Inv X pins σ H2 s2->zBe x v->zBe y u->R x y H2->wpAny (model X.prog X.w) X.A (f v u) Q X.xe s2) :
 wpAny (model X.prog X.w) X.A (eval a X.env) (fun v s₁=>wpAny (model X.prog X.w) X.A (eval b X.env) (fun u s₂=>wpAny (model X.prog X.w) X.A (f v u) Q X.xe s₂) X.xe s₁) X.xe s:=by
 refine thn (ha pins s σ H _ I h) fun v s1 ⟨x,H1,I1,r1,q1⟩=>?_
 refine thn (hb pins s1 σ H1 _ I1 q1) fun u s2 ⟨y,H2,I2,r2,q2⟩=>?_
 exact hf v u s2 x y H2 I2 r1 r2 q2
noncomputable def tVar (i:Nat):TE:=fun σ H Q=>∃v,σ[i]? = some (some v)/\Q v H
noncomputable def tC (v:V):TE:=fun _ H Q=>Q v H
theorem pe_var {i:Nat}{x:Str}{pos:Pos}(hN:X.N[i]? = some x)(hv:Vis X.env.scope x)(hd:(x==("__debug__" : Str))=false:=by decide) (hcd:(x==("__classdict__" : Str))=false:=by decide):PE X (.Name x pos) (tVar i):=by
 intro pins s σ H Q I h
 obtain⟨v,e,h⟩:=h
 obtain⟨m,hn,hl⟩:=I.loc
 obtain⟨u,r,l⟩:=hl i x v hN e hv
 have fin:EP X pins σ Q u s:=⟨v,H,I,r,h⟩
 rcases l with ⟨hk,hm⟩ | ⟨hk,c,hc,hcell⟩
 . exact wpAny_Name (wpAny_loadName_local I.ok.kind hk hn hm fin) hd
 . rcases hk with hk | hk
   . exact wpAny_Name (wpAny_loadName_cell I.ok.kind hk hc hcell fin) hd
   . exact wpAny_Name (wpAny_loadName_free I.ok.kind hk hc hcell fin hcd) hd
theorem zX {i j pos}:PE X (.Constant (.int i) j pos) (tC (.int i)):=fun _ _ _ H _ I h=>wpAny_Constant_int ⟨.int i,H,I.tok _,⟨_,rfl⟩,h⟩
theorem zDw {b j pos}:PE X (.Constant (.bool b) j pos) (tC (.bl b)):=fun _ _ _ H _ I h=>Constant_bool ⟨.bl b,H,I,rfl,h⟩
theorem zDM {j pos}:PE X (.Constant .none j pos) (tC .non):=fun _ _ _ H _ I h=>Constant_none ⟨.non,H,I,rfl,h⟩
theorem zC3 {x j pos}:PE X (.Constant (.str x) j pos) (tC (.str x)):=fun _ _ _ H _ I h=>Calls.Constant_str ⟨.str x,H,I.tok _,⟨_,rfl⟩,h⟩
noncomputable def Gl (X:Cx)(x:Str):Prop:=X.env.kindOf x=some .globalImplicit
theorem zEn {E:Value->Shared->Prop}{pins:List (Addr×Obj)}{s:Shared}{σ:St}{H:Hp}{x:Str}{u:Value}{pos:Pos}{Q:Value->Shared->Prop}(I:Inv X pins σ H s)(hg:Gl X x)(hm:X.mg x=some u)(h:Q u s)
 (hd:(x==("__debug__" : Str))=false:=by decide):wpAny (model X.prog X.w) X.A (eval (.Name x pos) X.env) Q E s:=
 Calls.Name_function_global I.ok.kind hg (Calls.loadGlobal_global (by rw[I.ok.glob];exact I.mod.glob.keeps I.bk) hm h) hd
theorem zCz {E:Value->Shared->Prop}{pins:List (Addr×Obj)}{s:Shared}{σ:St}{H:Hp}{x:Str}{u:Value}{pos:Pos}{Q:Value->Shared->Prop}(I:Inv X pins σ H s)(hg:Gl X x)(hm:X.mg x=none)(hv:bootBuiltins x=some u)(h:Q u s)
 (hn:x ≠ "__name__" := by decide) (hd:(x==("__debug__" : Str))=false:=by decide):wpAny (model X.prog X.w) X.A (eval (.Name x pos) X.env) Q E s:=by
 obtain⟨mb,h1,h2⟩:=I.mod.blt
 exact Calls.Name_function_global I.ok.kind hg (Calls.loadGlobal_builtin (by rw[I.ok.glob];exact I.mod.glob.keeps I.bk) hm (by rw[I.ok.blt];exact h1.keeps I.bk) ((h2 x hn).trans hv) h) hd
theorem zCG {x:Str}{v:V}{u:Value}{pos:Pos}(hg:Gl X x)(hm:X.mg x=some u)(r:zBe v u)(hd:(x==("__debug__" : Str))=false:=by decide):PE X (.Name x pos) (tC v):=
 fun _ _ _ H _ I h=>zEn I hg hm ⟨v,H,I,r,h⟩ hd
noncomputable def t2I (ta tb:TE)(k:Int->Int->Hp->Prop):St->Hp->Prop:=fun σ H=>ta σ H fun x H1=>tb σ H1 fun y H2=>∃i j,x = .int i/\y = .int j/\k i j H2
variable {a b:Expr}{ta tb:TE}{pos:Pos}
noncomputable def PC (X:Cx)(op:CmpOp)(a b:Expr)(t:TE):Prop:=
 ∀(pins:List (Addr×Obj))(s:Shared)(σ:St)(H:Hp)(Q:VK),Inv X pins σ H s->t σ H Q ->
  wpAny (model X.prog X.w) X.A (eval a X.env) (fun v s₁=>wpAny (model X.prog X.w) X.A (eval b X.env) (fun u s₂=>wpAny (model X.prog X.w) X.A (compareOp op v u) (EP X pins σ Q) X.xe s₂) X.xe s₁) X.xe s
theorem zK9 (b:Expr){op:CmpOp}(h:op ≠ .In)(h2:op ≠ .NotIn):behindInMarks op b=false:=by
 have e1:(op==CmpOp.In)=false:=by cases op <;> first | rfl | exact absurd rfl h
 have e2:(op==CmpOp.NotIn)=false:=by cases op <;> first | rfl | exact absurd rfl h2
 cases b <;> simp[behindInMarks,e1,e2]
noncomputable def tCmp (p:Int->Int->Bool)(ta tb:TE):TE:=fun σ H Q=>t2I ta tb (fun i j H2=>Q (.bl (p i j)) H2) σ H
noncomputable abbrev tNeI:TE->TE->TE:=tCmp fun i j=>!decide (i=j)
theorem pc_int {op:CmpOp}{p:Int->Int->Bool}(ha:PE X a ta)(hb:PE X b tb)
 (rule:∀(i j:Int)(t u:Tok)(Q:Value->Shared->Prop)(s:Shared),Q (.bool (p i j)) s->wpAny (model X.prog X.w) X.A (compareOp op (.int i t) (.int j u)) Q X.xe s):PC X op a b (tCmp p ta tb):=by
 intro pins s σ H Q I h
 refine bin ha hb I h fun v u s2 x y H2 I2 rx ry q=>?_
 obtain⟨i,j,rfl,rfl,q⟩:=q
 obtain⟨t,rfl⟩:=rx
 obtain⟨t',rfl⟩:=ry
 exact rule i j t t' _ s2 ⟨.bl _,H2,I2,rfl,q⟩
theorem zLj (ha:PE X a ta)(hb:PE X b tb):PC X .NotEq a b (tNeI ta tb):=pc_int ha hb fun _ _ _ _ _ _ h=>ne_int (by rw[bne,Bool.beq_eq_decide_eq];exact h)
noncomputable def tB (t:TE):TT:=fun σ H Q=>t σ H fun x H1=>∃c,x = .bl c/\Q c H1
theorem zJP {op:CmpOp}{t:TE}(h:PC X op a b t)(h1:behindInMarks op b=false:=by first | exact zK9 _ (by decide) (by decide) | rfl):PT X (.Compare a [op] [b] pos) (tB t):=by
 intro pins s σ H Q I hw
 refine wpAny_isTrue_Compare1 (thn (h pins s σ H _ I hw) fun v s1 h1=>thn h1 fun u s2 h2=>thn h2 fun c s3 ⟨x,H1,I1,r1,q1⟩=>?_) h1
 obtain⟨d,rfl,q⟩:=q1
 cases r1
 exact zBJ ⟨H1,I1,q⟩
theorem zBL {e:Expr}{t:TE}(h:PE X e t)(he:∀whole,isTrue e X.env whole=(do let v <-whole;standAt e.pos;holding [v] (truthy v)):=by intro _;rfl):PT X e (tB t):=by
 intro pins s σ H Q I hw
 refine isTrue_plain (thn (h pins s σ H _ I hw) fun v s1 ⟨x,H1,I1,r1,q1⟩=>?_) (he _)
 obtain⟨d,rfl,q⟩:=q1
 cases r1
 exact zBJ ⟨H1,I1,q⟩
variable {tA tB':TT}{rest:List Expr}
noncomputable def tAnd (t u:TT):TT:=fun σ H Q=>t σ H fun c H1=>if c=true then u σ H1 Q else Q false H1
noncomputable def tOr (t u:TT):TT:=fun σ H Q=>t σ H fun c H1=>if c=true then Q true H1 else u σ H1 Q
noncomputable def tNot (t:TT):TT:=fun σ H Q=>t σ H fun c H1=>Q (!c) H1
theorem zCF (ha:PT X a tA):PW X (.BoolOp .And [a] pos) tA:=by
 intro wh pins s σ H Q I h
 refine isTrue_and (thn (ha pins s σ H Q I h) fun c s1 e=>?_)
 cases c with
 | true=>exact isTrue_and_nil e
 | false=>exact e
theorem zDK (ha:PT X a tA):PW X (.BoolOp .Or [a] pos) tA:=by
 intro wh pins s σ H Q I h
 refine isTrue_or (thn (ha pins s σ H Q I h) fun c s1 e=>?_)
 cases c with
 | false=>exact isTrue_or_nil e
 | true=>exact e
theorem zCV (ha:PT X a tA)(hb:PW X (.BoolOp .And (b::rest) pos) tB'):PW X (.BoolOp .And (a::b::rest) pos) (tAnd tA tB'):=by
 intro wh pins s σ H Q I h
 refine isTrue_and (thn (ha pins s σ H _ I h) fun c s1 ⟨H1,I1,q1⟩=>?_)
 cases c with
 | true=>exact hb wh pins s1 σ H1 Q I1 q1
 | false=>exact⟨H1,I1,q1⟩
theorem zDF (ha:PT X a tA)(hb:PW X (.BoolOp .Or (b::rest) pos) tB'):PW X (.BoolOp .Or (a::b::rest) pos) (tOr tA tB'):=by
 intro wh pins s σ H Q I h
 refine isTrue_or (thn (ha pins s σ H _ I h) fun c s1 ⟨H1,I1,q1⟩=>?_)
 cases c with
 | true=>exact⟨H1,I1,q1⟩
 | false=>exact hb wh pins s1 σ H1 Q I1 q1
theorem zB0 (ha:PT X a tA):PT X (.UnaryOp .Not a pos) (tNot tA):=by
 intro pins s σ H Q I h
 exact isTrue_not (ha pins s σ H (fun c H1=>Q (!c) H1) I h)
noncomputable def tAndV (ta tb:TE):TE:=fun σ H Q=>ta σ H fun x H1=>∃c,x = .bl c/\if c=true then tb σ H1 Q else Q (.bl false) H1
noncomputable def tOrV (ta tb:TE):TE:=fun σ H Q=>ta σ H fun x H1=>∃c,x = .bl c/\if c=true then Q (.bl true) H1 else tb σ H1 Q
noncomputable def tNotV (ta:TE):TE:=fun σ H Q=>ta σ H fun x H1=>∃c,x = .bl c/\Q (.bl (!c)) H1
theorem zDL {op} {t:TE}(h:PE X a t):PE X (.BoolOp op [a] pos) t:=fun pins s σ H Q I hw=>BoolOp_one (h pins s σ H Q I hw)
theorem zDN (ha:PE X a ta)(hb:PE X (.BoolOp .And (b::rest) pos) tb):PE X (.BoolOp .And (a::b::rest) pos) (tAndV ta tb):=by
 intro pins s σ H Q I h
 refine BoolOp_and (thn (ha pins s σ H _ I h) fun v s1 ⟨x,H1,I1,r1,q1⟩=>?_)
 obtain⟨c,rfl,q1⟩:=q1
 cases r1
 refine zBJ ?_
 cases c with
 | true=>exact hb pins s1 σ H1 Q I1 q1
 | false=>exact⟨.bl false,H1,I1,rfl,q1⟩
theorem pe_or (ha:PE X a ta)(hb:PE X (.BoolOp .Or (b::rest) pos) tb):PE X (.BoolOp .Or (a::b::rest) pos) (tOrV ta tb):=by
 intro pins s σ H Q I h
 refine BoolOp_or (thn (ha pins s σ H _ I h) fun v s1 ⟨x,H1,I1,r1,q1⟩=>?_)
 obtain⟨c,rfl,q1⟩:=q1
 cases r1
 refine zBJ ?_
 cases c with
 | false=>exact hb pins s1 σ H1 Q I1 q1
 | true=>exact⟨.bl true,H1,I1,rfl,q1⟩
theorem pe_not (ha:PE X a ta):PE X (.UnaryOp .Not a pos) (tNotV ta):=by
 intro pins s σ H Q I h
 refine UnaryOp_ (thn (ha pins s σ H _ I h) fun v s1 ⟨x,H1,I1,r1,q1⟩=>?_)
 obtain⟨c,rfl,q1⟩:=q1
 cases r1
 exact not_of (zBJ ⟨.bl (!c),H1,I1,rfl,q1⟩)
noncomputable def tIf (t:TT)(ta tb:TE):TE:=fun σ H Q=>t σ H fun c H1=>if c=true then ta σ H1 Q else tb σ H1 Q
theorem zHl {c:Expr}(hc:PT X c tA)(ha:PE X a ta)(hb:PE X b tb):PE X (.IfExp c a b pos) (tIf tA ta tb):=by
 intro pins s σ H Q I h
 refine wpAny_IfExp (thn (hc pins s σ H _ I h) fun d s1 ⟨H1,I1,q1⟩=>?_)
 cases d with
 | true=>exact ha pins s1 σ H1 Q I1 q1
 | false=>exact hb pins s1 σ H1 Q I1 q1
end
end L2
namespace L2
open PySem PySem.Spec PyProof.Rows
noncomputable def SqL (K:PySem.W.Frag)(H:Hp)(a:Addr)(xs:List V):Prop:=
 Rd H a (.lst xs) \/
  ∃(o:Obj)(its:Array Value)(n:Nat),K.lookup a=some o/\o.cls = .type "list" /\ o.dict=none/\o.data = .seq its n/\its.size<=sizeLine/\zBB xs its.toList
noncomputable def SqT (K:PySem.W.Frag)(H:Hp)(a:Addr)(xs:List V):Prop:=
 Rd H a (.tup xs) \/
  ∃(o:Obj)(its:Array Value)(n:Nat),K.lookup a=some o/\o.cls = .type "tuple" /\ o.data = .seq its n/\its.size<=sizeLine/\zBB xs its.toList
noncomputable def absV:Value->Option V
 | .none=>some .non
 | .bool b=>some (.bl b)
 | .int i _=>some (.int i)
 | .str x _=>some (.str x)
 | .bytes b _=>some (.byt b)
 | .float b _=>some (.flt b)
 | .ref a=>some (.ref a)
 | .type n=>some (.ty n)
 | _=>none
theorem zBe.abs {x:V}{u:Value}(r:zBe x u):absV u=some x:=by
 cases x with
 | non=>cases r;rfl
 | bl _=>cases r;rfl
 | int _=>obtain⟨t,rfl⟩:=r;rfl
 | str _=>obtain⟨t,rfl⟩:=r;rfl
 | byt _=>obtain⟨t,rfl⟩:=r;rfl
 | flt _=>obtain⟨t,rfl⟩:=r;rfl
 | ref _=>cases r;rfl
 | ty _=>cases r;rfl
theorem zBe.inj {x y:V}{u:Value}(r:zBe x u)(q:zBe y u):x=y:=zm (r.abs.symm.trans q.abs)
theorem zBB.inj:∀{xs ys:List V}{us:List Value},zBB xs us->zBB ys us->xs=ys
 | _,_,_,.nil,.nil=>rfl
 | _,_,_,.cons r t,.cons r' t'=>by rw[r.inj r',zBB.inj t t']
section
variable {X:Cx}{pins:List (Addr×Obj)}{σ:St}{H:Hp}{s:Shared}{a:Addr}{xs ys:List V}
theorem SqL.of {K:PySem.W.Frag}(h:H a=some (.lst xs)):SqL K H a xs:=.inl (.inl h)
theorem SqT.of {K:PySem.W.Frag}(h:H a=some (.tup xs)):SqT K H a xs:=.inl (.inl h)
theorem Inv.list (I:Inv X pins σ H s)(h:SqL X.K H a xs):∃its:List Value,zBB xs its/\PlainL s.heap a its.toArray/\xs.length<=sizeLine:=by
 rcases h with h | ⟨o,its,n,hk,hc,hd,hs,hz,r⟩
 . obtain⟨z,its,n,r,e⟩:=h.ok I.hok
   exact⟨its,r,⟨_,n,e,rfl,rfl,rfl⟩,z⟩
 . refine⟨its.toList,r,⟨o,n,I.kIn a o hk,hc,hd,by simpa using hs⟩,?_⟩
   have e:=r.length
   simp only[Array.length_toList] at e
   omega
theorem Inv.tuple (I:Inv X pins σ H s)(h:SqT X.K H a xs):∃its:List Value,zBB xs its/\IsTup s.heap a its.toArray/\xs.length<=sizeLine:=by
 rcases h with h | ⟨o,its,n,hk,hc,hs,hz,r⟩
 . obtain⟨⟨z,_⟩,its,r,p⟩:=h.ok I.hok
   exact⟨its,r,p,z⟩
 . refine⟨its.toList,r,⟨o,I.kIn a o hk,hc,n,by simpa using hs⟩,?_⟩
   have e:=r.length
   simp only[Array.length_toList] at e
   omega
theorem Inv.list_inj (I:Inv X pins σ H s)(h:SqL X.K H a xs)(h':SqL X.K H a ys):xs=ys:=by
 obtain⟨its,r,⟨o,n,e,_,_,d⟩,_⟩:=I.list h
 obtain⟨its',r',⟨o',n',e',_,_,d'⟩,_⟩:=I.list h'
 rw[e] at e';cases e'
 rw[d] at d'
 injection d' with d1 _
 have:its=its':=by simpa using congrArg Array.toList d1
 subst this
 exact r.inj r'
theorem Inv.tuple_inj (I:Inv X pins σ H s)(h:SqT X.K H a xs)(h':SqT X.K H a ys):xs=ys:=by
 obtain⟨its,r,⟨o,e,_,n,d⟩,_⟩:=I.tuple h
 obtain⟨its',r',⟨o',e',_,n',d'⟩,_⟩:=I.tuple h'
 rw[e] at e';cases e'
 rw[d] at d'
 injection d' with d1 _
 have:its=its':=by simpa using congrArg Array.toList d1
 subst this
 exact r.inj r'
end
noncomputable abbrev Cx.wish (X:Cx)(E:Value->Shared->Prop):Cx:={ X with xe:=E }
noncomputable abbrev Cx.nox (X:Cx):Cx:=X.wish fun _ _=>False
theorem Cx.Ok.wish {X:Cx}(ok:X.Ok)(E:Value->Shared->Prop):(X.wish E).Ok:=
 ⟨ok.mod,ok.kind,ok.glob,ok.blt,ok.above,ok.inj,ok.has,ok.cab,ok.hd,ok.frames,ok.stk,ok.exf,ok.bs,ok.bsz,ok.noex,ok.exfs,ok.funs,ok.frf⟩
theorem Cx.Ok.unwish {X:Cx}{E:Value->Shared->Prop}(ok:(X.wish E).Ok):X.Ok:=
 ⟨ok.mod,ok.kind,ok.glob,ok.blt,ok.above,ok.inj,ok.has,ok.cab,ok.hd,ok.frames,ok.stk,ok.exf,ok.bs,ok.bsz,ok.noex,ok.exfs,ok.funs,ok.frf⟩
section
variable {X:Cx}{pins:List (Addr×Obj)}{σ:St}{H:Hp}{s:Shared}{E:Value->Shared->Prop}
theorem Inv.wish (I:Inv X pins σ H s)(E:Value->Shared->Prop):Inv (X.wish E) pins σ H s:=⟨I.ok.wish E,I.os,I.bare,I.base,I.loc,I.cell,I.free,I.freeC,I.pin,I.hok,I.len⟩
theorem Inv.unwish (I:Inv (X.wish E) pins σ H s):Inv X pins σ H s:=⟨I.ok.unwish,I.os,I.bare,I.base,I.loc,I.cell,I.free,I.freeC,I.pin,I.hok,I.len⟩
theorem SP.unwish {D:zIv}{f:Flow}{s':Shared}(h:SP (X.wish E) pins D f s'):SP X pins D f s':=by
 cases f with
 | next=>obtain⟨σ',H',I,q⟩:=h;exact⟨σ',H',I.unwish,q⟩
 | brk=>obtain⟨σ',H',I,q⟩:=h;exact⟨σ',H',I.unwish,q⟩
 | cont=>obtain⟨σ',H',I,q⟩:=h;exact⟨σ',H',I.unwish,q⟩
 | ret u=>obtain⟨v,σ',H',I,r,q⟩:=h;exact⟨v,σ',H',I.unwish,r,q⟩
theorem PSs.nox {st:List Stmt}{t:TS}(h:PSs X.nox st t):PSs X st t:=fun pins s σ H D I hw=>
 zAJ (h pins s σ H D (I.wish _) hw) (fun _ _ q=>q.unwish) fun _ _ z=>False.elim z
end
section
variable {X:Cx}{st:Stmt}{rest:List Stmt}{t u:TS}{e:Expr}{te:TE}{pos:Pos}
noncomputable def tNext:TS:=fun D σ H=>D.nx σ H
noncomputable def tSeq (t u:TS):TS:=fun D σ H=>t { D with nx:=u D } σ H
theorem zAZ:PSs X [] tNext:=fun _ _ σ H _ I h=>wpAny_execs_nil ⟨σ,H,I,h⟩
theorem zV (h1:PS X st t)(h2:PSs X rest u):PSs X (st::rest) (tSeq t u):=by
 intro pins s σ H D I h
 refine wpAny_execs_cons (thn (h1 pins s σ H { D with nx:=u D } I h) fun f s1 q=>?_)
 cases f with
 | next=>
  obtain⟨σ',H',I',q⟩:=q
  exact h2 pins s1 σ' H' D I' q
 | ret v=>exact q
 | brk=>exact q
 | cont=>exact q
theorem ze (h1:PS X st t):PSs X [st] t:=by
 intro pins s σ H D I h
 refine wpAny_execs_cons (thn (h1 pins s σ H D I h) fun f s1 q=>?_)
 cases f with
 | next=>exact wpAny_execs_nil q
 | ret v=>exact q
 | brk=>exact q
 | cont=>exact q
theorem Inv.quiet {pins:List (Addr×Obj)}{σ:St}{H:Hp}{s:Shared}(I:Inv X pins σ H s):interactive X.env=false:=by simp[interactive,I.ok.kind]
noncomputable def tDrop (te:TE):TS:=fun D σ H=>te σ H fun _ H1=>D.nx σ H1
theorem zCW (he:PE X e te)(hs:swapsWith e none pos.line X.env=pure false:=by rfl):PS X (.Expr e pos) (tDrop te):=by
 intro pins s σ H D I h
 exact wpAny_Expr_any (thn (he pins s σ H _ I h) fun v s1 ⟨x,H1,I1,r1,q1⟩=>⟨σ,H1,I1,q1⟩) I.quiet hs
noncomputable def tRet (te:TE):TS:=fun D σ H=>te σ H D.rt
theorem zAH (he:PE X e te):PS X (.Return (some e) pos) (tRet te):=by
 intro pins s σ H D I h
 exact wpAny_Return_some (thn (he pins s σ H _ I h) fun v s1 ⟨x,H1,I1,r1,q1⟩=>⟨x,σ,H1,I1,r1,q1⟩)
noncomputable def tIfS (c:TT)(t u:TS):TS:=fun D σ H=>c σ H fun b H1=>if b=true then t D σ H1 else u D σ H1
theorem zBc {c:Expr}{a b:List Stmt}{tc:TT}(hc:PT X c tc)(ha:PSs X a t)(hb:PSs X b u):PS X (.If c a b pos) (tIfS tc t u):=by
 intro pins s σ H D I h
 refine wpAny_If (thn (hc pins s σ H _ I h) fun d s1 ⟨H1,I1,q1⟩=>?_)
 cases d with
 | true=>exact ha pins s1 σ H1 D I1 q1
 | false=>exact hb pins s1 σ H1 D I1 q1
end
noncomputable abbrev TG:=V->St->Hp->(St->Hp->Prop)->Prop
noncomputable abbrev TGs:=List V->St->Hp->(St->Hp->Prop)->Prop
noncomputable def PG (X:Cx)(target:Expr)(t:TG):Prop:=
 ∀(pins:List (Addr×Obj))(s:Shared)(σ:St)(H:Hp)(v:V)(u:Value)(Q:St->Hp->Prop),Inv X pins σ H s->zBe v u->t v σ H Q ->
  wpAny (model X.prog X.w) X.A (assign target X.env u) (fun _ s'=>∃ σ' H',Inv X pins σ' H' s'/\Q σ' H') X.xe s
noncomputable def PGs (X:Cx)(ts:List Expr)(t:TGs):Prop:=
 ∀(pins:List (Addr×Obj))(s:Shared)(σ:St)(H:Hp)(vs:List V)(us:List Value)(Q:St->Hp->Prop),Inv X pins σ H s->zBB vs us->t vs σ H Q ->
  wpAny (model X.prog X.w) X.A (assignInOrder ((assignEach ts X.env).map (·.2)) us) (fun _ s'=>∃ σ' H',Inv X pins σ' H' s'/\Q σ' H') X.xe s
noncomputable abbrev TSet:=V->V->V->Hp->(Hp->Prop)->Prop
noncomputable def PSet (X:Cx)(t:TSet):Prop:=
 ∀(pins:List (Addr×Obj))(s:Shared)(σ:St)(H:Hp)(o i v:V)(ov iv u:Value)(Q:Hp->Prop),Inv X pins σ H s->zBe o ov->zBe i iv->zBe v u->t o i v H Q ->
  wpAny (model X.prog X.w) X.A (setItem ov iv u) (fun _ s'=>∃H',Inv X pins σ H' s'/\Q H') X.xe s
section
variable {X:Cx}{pos:Pos}
noncomputable def zIk (i:Nat):TG:=fun v σ H Q=>Q (σ.set i (some v)) H
theorem zAX {i:Nat}{x:Str}(hN:X.N.Nodup)(hi:X.N[i]? = some x)(hx:Loc X.env.scope x)(hf:X.fn x=true\/X.env.scope.names.lookup x=some .local:=by first | exact .inl rfl | exact .inr rfl | assumption):PG X (.Name x pos) (zIk i):=by
 intro pins s σ H v u Q I r h
 exact wpAny_assign_Name (zDA I hN hi hx r (fun s' I'=>⟨_,H,I',h⟩) hf)
noncomputable def gNil:TGs:=fun vs σ H Q=>vs=[]/\Q σ H
noncomputable def gCons (t:TG)(u:TGs):TGs:=fun vs σ H Q=>∃v r,vs=v::r/\t v σ H fun σ' H'=>u r σ' H' Q
theorem zG8:PGs X [] gNil:=by
 intro pins s σ H vs us Q I r h
 obtain⟨e,h⟩:=h
 subst e
 cases r
 exact assignInOrder_nil ⟨σ,H,I,h⟩
theorem zCR {e:Expr}{es:List Expr}{t:TG}{u:TGs}(h1:PG X e t)(h2:PGs X es u)
 (hs:(assignEach (e::es) X.env).map (·.2)=assign e X.env::(assignEach es X.env).map (·.2):=by rfl):PGs X (e::es) (gCons t u):=by
 intro pins s σ H vs us Q I r h
 obtain⟨v,vr,e1,h⟩:=h
 subst e1
 cases r with
 | cons r rr=>
  rw[hs]
  refine assignInOrder_cons (thn (h1 pins s σ H _ _ _ I r h) fun _ s1 ⟨σ1,H1,I1,q1⟩=>?_)
  exact h2 pins s1 σ1 H1 _ _ Q I1 rr q1
noncomputable def gTup (K:PySem.W.Frag)(n:Nat)(t:TGs):TG:=fun v σ H Q=>∃a xs,v = .ref a/\SqT K H a xs/\xs.length=n/\t xs σ H Q
theorem zJX {es:List Expr}{k:Nat}{t:TGs}{n:Nat}(hc:X.calm=true)(h:PGs X es t)
 (hn:(assignEach es X.env).length=n:=by rfl)(hst:(assignEach es X.env).findIdx? (·.1)=none:=by rfl):PG X (.Tuple es k pos) (gTup X.K n t):=by
 intro pins s σ H v u Q I r hw
 obtain⟨a,xs,e1,hq,hl,hw⟩:=hw
 subst e1
 cases r
 obtain⟨its,rv,ht,hz⟩:=I.tuple hq
 refine assign_Tuple_tuple (I.ok.hd hc) ht (by simp[hn,<-hl,rv.length]) hst fun h' hx=>?_
 have I1:Inv X pins σ H { s with heap:=h' }:=I.kept (t':=s.toks) fun b o e=>hx b o (zh (zW e)) e
 exact h pins _ σ H xs _ Q I1 (by simpa using rv) hw
noncomputable def gSub (to ti:TE)(t:TSet):TG:=fun v σ H Q=>to σ H fun o H1=>ti σ H1 fun i H2=>t o i v H2 fun H3=>Q σ H3
theorem zJY {o i:Expr}{to ti:TE}{t:TSet}(ho:PE X o to)(hi:PE X i ti)(hs:PSet X t)
 (ha:∀v,assign (.Subscript o i pos) X.env v=(do
  let ov <-holding [v] (eval o X.env)
  let iv <-holding [v,ov] (eval i X.env)
  standAt pos
  holding [v,ov,iv] (setItem ov iv v)
  release [v,ov,iv] []):=by intro _;rfl):PG X (.Subscript o i pos) (gSub to ti t):=by
 intro pins s σ H v u Q I r h
 rw[ha]
 refine zA (zx (thn (ho pins s σ H _ I h) fun ov s1 ⟨x,H1,I1,r1,q1⟩=>?_))
 refine zA (zx (thn (hi pins s1 σ H1 _ I1 q1) fun iv s2 ⟨y,H2,I2,r2,q2⟩=>?_))
 refine zA (wpAny_standAt (zA (zx (thn (hs pins s2 σ H2 x y v ov iv u _ I2 r1 r2 r q2) fun _ s3 ⟨H3,I3,q3⟩=>?_))))
 exact wpAny_release ⟨σ,H3,I3,q3⟩
noncomputable def tAsg (te:TE)(g:TG):TS:=fun D σ H=>te σ H fun x H1=>g x σ H1 D.nx
theorem zJR {tg e:Expr}{te:TE}{g:TG}(he:PE X e te)(hg:PG X tg g)(hs:swapsWithSole [tg] e pos.line X.env=pure false:=by rfl)(hw:swappedStores [tg] e X.env=pure none:=by rfl)
 (h1:(assignEach [tg] X.env).map (·.2)=[assign tg X.env]:=by rfl):PS X (.Assign [tg] e pos) (tAsg te g):=by
 intro pins s σ H D I h
 refine wpAny_Assign_stores (thn (he pins s σ H _ I h) fun v s1 ⟨x,H1,I1,r1,q1⟩=>?_) hs hw
 rw[h1]
 exact thn (hg pins s1 σ H1 x v _ I1 r1 q1) fun _ s2 q=>q
theorem zAL {i:Nat}{x:Str}{e:Expr}{te:TE}{pos':Pos}(hN:X.N.Nodup)(hi:X.N[i]? = some x)(hx:Loc X.env.scope x)(he:PE X e te)(hs:swapsWith e (some (.Name x pos')) pos.line X.env=pure false:=by rfl)(hf:X.fn x=true\/X.env.scope.names.lookup x=some .local:=by first | exact .inl rfl | exact .inr rfl | assumption) :
 PS X (.Assign [.Name x pos'] e pos) (tAsg te (zIk i)):=by
 intro pins s σ H D I h
 refine wpAny_Assign_Name (thn (he pins s σ H _ I h) fun v s1 ⟨y,H1,I1,r1,q1⟩=>?_) hs
 exact zDA I1 hN hi hx r1 (fun s2 I2=>⟨_,H1,I2,q1⟩) hf
end
section
variable {X:Cx}{pos:Pos}
noncomputable def tWhile (c:TT)(tb:TS):TS:=fun D σ H=>∃W:Nat->St->Hp->Prop,(∃m,W m σ H)/\∀m σ H,W m σ H ->
 c σ H fun b H1=>if b=true then ∃N:St->Hp->Prop,(∀ σ' H',N σ' H'->∃m',m'<m/\W m' σ' H')/\tb { D with nx:=N,ct:=N,bk:=D.nx } σ H1 else D.nx σ H1
theorem zEI {c:Expr}{body:List Stmt}{tc:TT}{tb:TS}(hp:PassesOwn (model X.prog X.w) X.A X.env X.xe)(hc:PT X c tc)(hb:PSs X body tb):PS X (.While c body [] pos) (tWhile tc tb):=by
 intro pins s σ H D I h
 obtain⟨W,⟨m0,w0⟩,turn⟩:=h
 refine wpAny_While (codeAny_whileLoop (fun n s'=>∃ σ' H',Inv X pins σ' H' s'/\W n σ' H') ?_ m0 ⟨σ,H,I,w0⟩)
 rintro n s1 ⟨σ1,H1,I1,w1⟩
 refine wpAny_passesOwn hp (thn (hc pins s1 σ1 H1 _ I1 (turn n σ1 H1 w1)) fun b s2 ⟨H2,I2,q2⟩=>?_)
 cases b with
 | true=>
  obtain⟨N,hN,q2⟩:=q2
  rw[if_pos rfl]
  refine wpAny_passesOwn hp (thn (hb pins s2 σ1 H2 _ I2 q2) fun f s3 q3=>?_)
  cases f with
  | next=>
   obtain⟨σ3,H3,I3,n3⟩:=q3
   obtain⟨m',hm,w3⟩:=hN σ3 H3 n3
   exact⟨m',hm,σ3,H3,I3,w3⟩
  | cont=>
   obtain⟨σ3,H3,I3,n3⟩:=q3
   obtain⟨m',hm,w3⟩:=hN σ3 H3 n3
   exact⟨m',hm,σ3,H3,I3,w3⟩
  | brk=>exact q3
  | ret v=>exact q3
 | false=>
  rw[if_neg zt]
  exact wpAny_execs_nil ⟨σ1,H2,I2,q2⟩
end
structure It where
 go:Nat->Hp->Prop
 yld:Nat->Hp->V->Hp->Prop
 stop:Nat->Hp->Prop
noncomputable def zKe (X:Cx)(pins:List (Addr×Obj))(H:Hp)(b:Addr):Prop:=
 H b=none/\b≠X.env.locals/\b∉X.fs/\(b∈X.ex\/X.s₀.heap.objs.size<=b)/\(∀x c,X.env.cells.lookup x=some c->c≠b)/\∀p∈X.pn++pins,p.1≠b
theorem Inv.fpOk {X:Cx}{pins:List (Addr×Obj)}{σ:St}{H H':Hp}{s:Shared}{b:Addr}(I:Inv X pins σ H s)(hb:s.heap.objs.size<=b)(hn:H' b=none):zKe X pins H' b:=by
 refine⟨hn,Nat.ne_of_gt (zp I.lt hb),I.nofs hb,.inr (zz I.sz hb),fun x c e z=>?_,fun p hp z=>?_⟩
 . obtain⟨v,q⟩:=I.cell x c e
   exact absurd (zp q.lt (by rw[z];exact hb)) (zBf _)
 . exact absurd (zp (zW (I.pin p hp).1) (by rw[z];exact hb)) (zBf _)
structure Turn (P:Program)(w:World)(K:PySem.W.Frag)(tg:Expr)(J:It)(fp:List Addr)(it:Addr)(tn:Nat->Heap->Prop):Prop where
 mem:it∈fp
 obj:∀i h,tn i h->∀b∈fp,∃o,h.get? b=some o/\∀v,o.data ≠ .cell v
 keep:∀i h h',tn i h->(∀b∈fp,∀o,h.get? b=some o->h'.get? b=some o)->tn i h'
 item:∀(X:Cx),X.prog=P->X.w=w->X.K=K->X.calm=true->∀(i:Nat)(pins:List (Addr×Obj))(s:Shared)(σ:St)(H:Hp)(E:Value->Shared->Prop),Inv X pins σ H s->(∀b∈fp,zKe X pins H b)->tn i s.heap->J.go i H ->
  wpAny (model P w) X.A (pyNext (.ref it)) (fun r s1=>∃u,r=some u /\
   wpAny (model P w) X.A (letOwnedTupleGo tg (.ref it) u) (fun _ s2=>∃x H',Inv X pins σ H' s2/\zBe x u/\J.yld i H x H'/\tn (i+1) s2.heap/\∀b∈fp,H' b=none) E s1) E s
 done:∀(X:Cx),X.prog=P->X.w=w->X.K=K->X.calm=true->∀(i:Nat)(pins:List (Addr×Obj))(s:Shared)(σ:St)(H:Hp)(E:Value->Shared->Prop),Inv X pins σ H s->(∀b∈fp,zKe X pins H b)->tn i s.heap->J.stop i H ->
  wpAny (model P w) X.A (pyNext (.ref it)) (fun r s1=>r=none/\Inv X pins σ H s1) E s
 self:∀(A:Around)(i:Nat)(s:Shared)(Q:Value->Shared->Prop)(E:Value->Shared->Prop),tn i s.heap->Q (.ref it) s->wpAny (model P w) A (pyIter (.ref it)) Q E s
noncomputable abbrev TI:=St->Hp->(It->Hp->Prop)->Prop
noncomputable def PIE (X:Cx)(pins:List (Addr×Obj))(σ:St)(tg:Expr)(R:It->Hp->Prop)(itv:Value)(s2:Shared):Prop:=
 ∃(it:Addr)(fp:List Addr)(tn:Nat->Heap->Prop)(J:It)(H':Hp),itv = .ref it/\Inv X pins σ H' s2/\Turn X.prog X.w X.K tg J fp it tn/\tn 0 s2.heap/\(∀b∈fp,zKe X pins H' b)/\R J H'
noncomputable def PI (X:Cx)(tg iter:Expr)(wi:TI):Prop:=
 ∀(pins:List (Addr×Obj))(s:Shared)(σ:St)(H:Hp)(R:It->Hp->Prop),Inv X pins σ H s->wi σ H R ->
  wpAny (model X.prog X.w) X.A (eval iter X.env) (fun v s1=>wpAny (model X.prog X.w) X.A (pyIter v) (PIE X pins σ tg R) X.xe s1) X.xe s
theorem zMq {M:Model}{A:Around}{E:Value->Shared->Prop}{s:Shared}{tg:Expr}{it:Addr}{u:Value}{o:Obj}{n:String}{vs:Array Value}{Q:Unit->Shared->Prop}(ho:s.heap.get? it=some o)(hc:o.cls = .type n)(hd:o.data = .fields vs)
 (hn:["enumerate", "zip", "dict_itemiterator", "dict_reverseitemiterator", "odict_iterator", "itertools.zip_longest", "itertools.pairwise"].contains n=false) (hQ:Q () s):wpAny M A (letOwnedTupleGo tg (.ref it) u) Q E s:=by
 unfold letOwnedTupleGo
 cases tg <;> first
  | exact zD hQ
  | (cases u <;> first
   | exact zD hQ
   | (refine zA (wpAny_load ho ?_)
      rw[hc,hd]
      show wpAny M A (if (["enumerate", "zip", "dict_itemiterator", "dict_reverseitemiterator", "odict_iterator", "itertools.zip_longest", "itertools.pairwise"].contains n && vs[0]? == some (rawInt _))=true then _ else _) Q E s
      rw[if_neg (by intro h;rw[hn,zBo] at h;cases h)]
      exact zD hQ))
noncomputable def Itl (K:PySem.W.Frag)(a:Addr):It:=
 ⟨fun i H=>∃xs x,SqL K H a xs/\xs[i]? = some x,fun i H x H'=>H'=H/\∀xs,SqL K H a xs->xs[i]? = some x,fun i H=>∃xs,SqL K H a xs/\xs.length<=i⟩
noncomputable def Itt (K:PySem.W.Frag)(a:Addr):It:=
 ⟨fun i H=>∃xs x,SqT K H a xs/\xs[i]? = some x,fun i H x H'=>H'=H/\∀xs,SqT K H a xs->xs[i]? = some x,fun i H=>∃xs,SqT K H a xs/\xs.length<=i⟩
noncomputable def Itr (lo:Int)(n:Nat):It:=⟨fun i _=>i<n,fun i H x H'=>H'=H/\x = .int (lo+i),fun i _=>n<=i⟩
theorem zIy {P:Program}{w:World}{K:PySem.W.Frag}{tg:Expr}(a it:Addr):Turn P w K tg (Itl K a) [it] it (fun i h=>h.IsListIter it a i) where
 mem:=by simp
 obj:=fun i h st b hb=>by
  have e:b=it:=by simpa using hb
  subst e
  obtain⟨o,e,c,d⟩:=st
  exact⟨o,e,fun v z=>by rw[d] at z;cases z⟩
 keep:=fun i h h' st k=>st.at fun o e=>k it (by simp) o e
 item:=by
  intro X hP hw hK hc i pins s σ H E I hf st hg
  subst hP hw hK
  obtain⟨xs,x,hq,hx⟩:=hg
  obtain⟨its,rv,p,hz⟩:=I.list hq
  obtain⟨u,hu,ru⟩:=rv.get hx
  obtain⟨f0,f1,f2,f3,f4,f5⟩:=hf it (by simp)
  refine wpAny_pyNext_list_item st p.isList (x:=u) (by simpa using hu) fun h' st' sb=>?_
  have I1:Inv X pins σ H { s with heap:=h' }:=I.turned (t':=s.toks) (fun b o hb e=>(sb.2 b hb).trans e) f0 f1 f3 f4 f5
  obtain⟨o,e,c,d⟩:=id st'
  exact⟨u,rfl,zMq (s:={ s with heap:=h' }) e c d (by decide) ⟨x,H,I1,ru,⟨rfl,fun ys hy=>by rw[I.list_inj hy hq];exact hx⟩,st',fun b hb=>(hf b hb).1⟩⟩
 done:=by
  intro X hP hw hK hc i pins s σ H E I hf st hg
  subst hP hw hK
  obtain⟨xs,hq,hx⟩:=hg
  obtain⟨its,rv,p,hz⟩:=I.list hq
  obtain⟨f0,f1,f2,f3,f4,f5⟩:=hf it (by simp)
  have hl:=rv.length
  exact wpAny_pyNext_list_end (I.ok.hd hc) st p.isList (by simp;omega) fun h' eb=>⟨rfl,I.turned (t':=s.toks) (fun b o hb e=>eb b o hb e) f0 f1 f3 f4 f5⟩
 self:=fun _ _ _ _ _ st h=>wpAny_pyIter_listiter st h
theorem zIL {P:Program}{w:World}{K:PySem.W.Frag}{tg:Expr}(a it:Addr):Turn P w K tg (Itt K a) [it] it (fun i h=>h.IsTupleIter it a i) where
 mem:=by simp
 obj:=fun i h st b hb=>by
  have e:b=it:=by simpa using hb
  subst e
  obtain⟨o,e,c,d⟩:=st
  exact⟨o,e,fun v z=>by rw[d] at z;cases z⟩
 keep:=fun i h h' st k=>st.at fun o e=>k it (by simp) o e
 item:=by
  intro X hP hw hK hc i pins s σ H E I hf st hg
  subst hP hw hK
  obtain⟨xs,x,hq,hx⟩:=hg
  obtain⟨its,rv,p,hz⟩:=I.tuple hq
  obtain⟨u,hu,ru⟩:=rv.get hx
  obtain⟨f0,f1,f2,f3,f4,f5⟩:=hf it (by simp)
  refine wpAny_pyNext_tuple_item st (show s.heap.IsTuple a its.toArray from p) (x:=u) (by simpa using hu) fun h' st' sb=>?_
  have I1:Inv X pins σ H { s with heap:=h' }:=I.turned (t':=s.toks) (fun b o hb e=>(sb.2 b hb).trans e) f0 f1 f3 f4 f5
  obtain⟨o,e,c,d⟩:=id st'
  exact⟨u,rfl,zMq (s:={ s with heap:=h' }) e c d (by decide) ⟨x,H,I1,ru,⟨rfl,fun ys hy=>by rw[I.tuple_inj hy hq];exact hx⟩,st',fun b hb=>(hf b hb).1⟩⟩
 done:=by
  intro X hP hw hK hc i pins s σ H E I hf st hg
  subst hP hw hK
  obtain⟨xs,hq,hx⟩:=hg
  obtain⟨its,rv,p,hz⟩:=I.tuple hq
  obtain⟨f0,f1,f2,f3,f4,f5⟩:=hf it (by simp)
  have hl:=rv.length
  exact wpAny_pyNext_tuple_end (I.ok.hd hc) st (show s.heap.IsTuple a its.toArray from p) (by simp;omega) fun h' eb=>⟨rfl,I.turned (t':=s.toks) (fun b o hb e=>eb b o hb e) f0 f1 f3 f4 f5⟩
 self:=fun _ _ _ _ _ st h=>wpAny_pyIter_tupleiter st h
theorem zIM {P:Program}{w:World}{K:PySem.W.Frag}{tg:Expr}(it:Addr)(lo:Int)(n:Nat):Turn P w K tg (Itr lo n) [it] it (fun i h=>IsRangeIter h it (lo+(i:Nat)*1) ((n:Int)-(i:Nat)) 1) where
 mem:=by simp
 obj:=fun i h st b hb=>by
  have e:b=it:=by simpa using hb
  subst e
  exact⟨_,st,fun v z=>by
   have z':Data.fields _=Data.cell v:=z
   cases z'⟩
 keep:=fun i h h' st k=>k it (by simp) _ st
 item:=by
  intro X hP hw hK hc i pins s σ H E I hf st hg
  subst hP hw hK
  obtain⟨f0,f1,f2,f3,f4,f5⟩:=hf it (by simp)
  have W:=Walks.range (prog:=X.prog) (w:=X.w) (I.ok.hd hc) it lo 1 n
  refine W.item i s _ _ hg st fun v h' tk hv st' kk=>?_
  obtain⟨t,rfl⟩:=hv
  have I1:Inv X pins σ H { s with heap:=h',toks:=tk }:=I.turned (fun b o hb e=>kk b o (by simpa using hb) e) f0 f1 f3 f4 f5
  refine⟨_,rfl,zMq (s:={ s with heap:=h',toks:=tk }) (n := "range_iterator") st' rfl rfl (by decide) ⟨.int (lo+i),H,I1,⟨t,?_⟩,⟨rfl,rfl⟩,st',fun b hb=>(hf b hb).1⟩⟩
  rw[Int.mul_one]
 done:=by
  intro X hP hw hK hc i pins s σ H E I hf st hg
  subst hP hw hK
  obtain⟨f0,f1,f2,f3,f4,f5⟩:=hf it (by simp)
  exact wpAny_pyNext_range_end (I.ok.hd hc) st (by have:n<=i:=hg;omega) fun h' eb=>⟨rfl,I.turned (t':=s.toks) (fun b o hb e=>eb b o hb e) f0 f1 f3 f4 f5⟩
 self:=fun _ _ _ _ _ st h=>wpAny_pyIter_rangeiter st h
end L2
namespace L2
open PySem PySem.Spec PyProof.Rows
section
variable {X:Cx}{tg:Expr}
noncomputable def iList (K:PySem.W.Frag)(tl:TE):TI:=fun σ H R=>tl σ H fun x H1=>∃a,x = .ref a/\(∃xs,SqL K H1 a xs)/\R (Itl K a) H1
noncomputable def iTup (K:PySem.W.Frag)(tl:TE):TI:=fun σ H R=>tl σ H fun x H1=>∃a,x = .ref a/\(∃xs,SqT K H1 a xs)/\R (Itt K a) H1
theorem zDu {l:Expr}{tl:TE}(hl:PE X l tl):PI X tg l (iList X.K tl):=by
 intro pins s σ H R I h
 refine thn (hl pins s σ H _ I h) fun v s1 ⟨x,H1,I1,r1,q1⟩=>?_
 obtain⟨a,e,⟨xs,hq⟩,q⟩:=q1
 subst e
 cases r1
 obtain⟨its,rv,p,hz⟩:=I1.list hq
 refine wpAny_pyIter_list p.isList ?_
 refine⟨s1.heap.objs.size,[s1.heap.objs.size],_,_,H1,rfl,I1.kept (t':=s1.toks) fun b o e=>zI _ e,zIy a _,⟨_,zO _ rfl,rfl,rfl⟩,fun b hb=>?_,q⟩
 have e:b=s1.heap.objs.size:=by simpa using hb
 subst e
 exact I1.fpOk (zH _) (I1.hok.fresh (zH _))
theorem zCg {l:Expr}{tl:TE}(hl:PE X l tl):PI X tg l (iTup X.K tl):=by
 intro pins s σ H R I h
 refine thn (hl pins s σ H _ I h) fun v s1 ⟨x,H1,I1,r1,q1⟩=>?_
 obtain⟨a,e,⟨xs,hq⟩,q⟩:=q1
 subst e
 cases r1
 obtain⟨its,rv,p,hz⟩:=I1.tuple hq
 refine wpAny_pyIter_tuple (show s1.heap.IsTuple a its.toArray from p) ?_
 refine⟨s1.heap.objs.size,[s1.heap.objs.size],_,_,H1,rfl,I1.kept (t':=s1.toks) fun b o e=>zI _ e,zIL a _,⟨_,zO _ rfl,rfl,rfl⟩,fun b hb=>?_,q⟩
 have e:b=s1.heap.objs.size:=by simpa using hb
 subst e
 exact I1.fpOk (zH _) (I1.hok.fresh (zH _))
theorem zHd {pins:List (Addr×Obj)}{σ:St}{H:Hp}{s:Shared}{R:It->Hp->Prop}{E:Value->Shared->Prop}{lo hi:Int}{t u v:Tok}{tk:Nat}(I:Inv X pins σ H s)(h1 : -(2 ^ 62)<=lo)(h2:lo<2 ^ 62)(h3 : -(2 ^ 62)<=hi)(h4:hi<2 ^ 62)
 (q:R (Itr lo (hi-lo).toNat) H):wpAny (model X.prog X.w) X.A (pyIter (.ref s.heap.objs.size)) (PIE X pins σ tg R) E { s with heap:=s.heap.push { cls:=.type "range",data:=.fields #[.int lo t,.int hi u,.int 1 v] },toks:=tk }:=by
 refine wpAny_pyIter_range (IsRange.new ..) (small_one h1 h2 h3 h4) ?_
 have I1:Inv X pins σ H { s with heap:=s.heap.push { cls:=.type "range",data:=.fields #[.int lo t,.int hi u,.int 1 v] },toks:=tk }:=I.kept fun b o e=>zI _ e
 refine⟨(s.heap.push { cls:=.type "range",data:=.fields #[.int lo t,.int hi u,.int 1 v] }).objs.size,[(s.heap.push { cls:=.type "range",data:=.fields #[.int lo t,.int hi u,.int 1 v] }).objs.size],_,_,H,rfl,
  I1.kept (t':=tk) fun b o e=>zI _ e,zIM _ lo (hi-lo).toNat,?_,fun b hb=>?_,q⟩
 . have e1:lo+((0:Nat):Int)*1=lo:=by simp
   have e2:(((hi-lo).toNat:Nat):Int)-((0:Nat):Int)=Builtin.Range.rangeSize lo hi 1:=by rw[rangeSize_one];split <;> omega
   show IsRangeIter _ _ (lo+((0:Nat):Int)*1) ((((hi-lo).toNat:Nat):Int)-((0:Nat):Int)) 1
   rw[e1,e2]
   exact zO _ rfl
 . have e:b=(s.heap.push { cls:=.type "range",data:=.fields #[.int lo t,.int hi u,.int 1 v] }).objs.size:=by simpa using hb
   subst e
   exact I1.fpOk (zH _) (I1.hok.fresh (zH _))
noncomputable def iRng1 (ta:TA):TI:=fun σ H R=>ta σ H fun vs H1=>∃j:Int,vs=[.int j] /\ -(2 ^ 62)<=j/\j<2 ^ 62/\R (Itr 0 j.toNat) H1
noncomputable def iRng2 (ta:TA):TI:=fun σ H R=>ta σ H fun vs H1=>∃i j:Int,vs=[.int i,.int j]/\(-(2 ^ 62)<=i/\i<2 ^ 62 /\ -(2 ^ 62)<=j/\j<2 ^ 62)/\R (Itr i (j-i).toNat) H1
theorem zBw {a:Expr}{ta:TA}{p pos:Pos}(hg:Gl X "range") (hm:X.mg "range" = none) (ha:PA X [a] ta)(hs:starEach [a] X.env=[(false,eval a X.env)]:=by rfl):PI X tg (.Call (.Name "range" p) [a] [] pos) (iRng1 ta):=by
 intro pins s σ H R I h
 refine Call_ (zCz I hg hm boot_range (PyProof.Rows.callWith_type1 (thn (ha pos pins s σ H _ I h) fun us s1 ⟨vs,H1,I1,r1,q1⟩=>?_) hs rfl))
 obtain⟨j,e,q1,q2,q⟩:=q1
 subst e
 cases r1 with
 | cons r rr=>
  cases rr
  obtain⟨t,rfl⟩:=r
  exact call_range_1 (zHd I1 (by omega) (by omega) q1 q2 (by simpa using q))
theorem zGU {a b:Expr}{ta:TA}{p pos:Pos}(hg:Gl X "range") (hm:X.mg "range" = none) (ha:PA X [a,b] ta)(hs:starEach [a,b] X.env=[(false,eval a X.env),(false,eval b X.env)]:=by rfl)(hs2:starEach [b] X.env=[(false,eval b X.env)]:=by rfl) :
 PI X tg (.Call (.Name "range" p) [a,b] [] pos) (iRng2 ta):=by
 intro pins s σ H R I h
 refine Call_ (zCz I hg hm boot_range (PyProof.Rows.callWith_type1 (thn (ha pos pins s σ H _ I h) fun us s1 ⟨vs,H1,I1,r1,q1⟩=>?_) (by rw[hs,hs2]) (by rw[hs2];rfl)))
 obtain⟨i,j,e,⟨q1,q2,q3,q4⟩,q⟩:=q1
 subst e
 cases r1 with
 | cons r rr=>
  cases rr with
  | cons r' rr=>
   cases rr
   obtain⟨t,rfl⟩:=r
   obtain⟨t',rfl⟩:=r'
   exact call_range_2 (zHd I1 q1 q2 q3 q4 q)
noncomputable def tFor (wi:TI)(g:TG)(tb:TS):TS:=fun D σ H=>wi σ H fun J H1=>∃W:Nat->Nat->St->Hp->Prop,(∃m,W 0 m σ H1)/\∀i m σ H,W i m σ H ->
 (J.stop i H/\D.nx σ H)\/(J.go i H/\∃N:St->Hp->Prop,(∀ σ' H',N σ' H'->∃m',m'<m/\W (i+1) m' σ' H')/\∀x H',J.yld i H x H'->g x σ H' fun σ2 H2=>tb { D with nx:=N,ct:=N,bk:=D.nx } σ2 H2)
noncomputable def zGS (fp:List Addr)(h:Heap):List (Addr×Obj):=fp.filterMap fun b=>(h.get? b).map fun o=>(b,o)
theorem zDD {fp:List Addr}{h:Heap}{b:Addr}{o:Obj}(hb:b∈fp)(e:h.get? b=some o):(b,o)∈zGS fp h:=List.mem_filterMap.mpr ⟨b,hb,by rw[e];rfl⟩
theorem zJj {fp:List Addr}{h:Heap}{p:Addr×Obj}(hp:p∈zGS fp h):p.1∈fp/\h.get? p.1=some p.2:=by
 obtain⟨b,hb,e⟩:=List.mem_filterMap.mp hp
 cases q:h.get? b with
 | none=>rw[q] at e;cases e
 | some o=>
  rw[q] at e
  have e':(b,o)=p:=zm e
  subst e'
  exact⟨hb,q⟩
theorem Inv.pinned {pins:List (Addr×Obj)}{σ:St}{H:Hp}{s:Shared}{fp:List Addr}(I:Inv X pins σ H s)(hf:∀b∈fp,zKe X pins H b)(ho:∀b∈fp,∃o,s.heap.get? b=some o/\∀v,o.data ≠ .cell v):Inv X (pins++zGS fp s.heap) σ H s:=
 I.pins_of fun p hp=>(zJ.mp hp).elim (fun z=>I.pin p (zAA _ z)) fun z=>by
  obtain⟨hb,e⟩:=zJj z
  obtain⟨f0,f1,f2,_⟩:=hf p.1 hb
  obtain⟨o,e',d⟩:=ho p.1 hb
  rw[e] at e';cases e'
  exact⟨e,f0,f1,f2,d⟩
theorem Inv.unpinned {pins pl:List (Addr×Obj)}{σ:St}{H:Hp}{s:Shared}(I:Inv X (pins++pl) σ H s):Inv X pins σ H s:=I.pins_of fun p hp=>I.pin p (zAA _ (List.mem_append_left _ hp))
theorem zCI {iter:Expr}{body:List Stmt}{wi:TI}{g:TG}{tb:TS}{pos:Pos}(hp:PassesOwn (model X.prog X.w) X.A X.env X.xe)(hc:X.calm=true)(hi:PI X tg iter wi)(hg:PG X tg g)(hb:PSs X body tb)
 (hs:∀x,foldedSetIterable iter X.env x=pure x:=by intro _;rfl):PS X (.For tg iter body [] pos) (tFor wi g tb):=by
 intro pins s σ H D I h
 refine wpAny_For (thn (hi pins s σ H _ I h) fun v s1 h1=>thn h1 fun itv s2 h2=>?_) hs
 obtain⟨it,fp,tn,J,H2,e,I2,T,st2,f2,W,⟨m0,w0⟩,turn⟩:=h2
 subst e
 have stat:∀{H':Hp},(∀b∈fp,H' b=none)->∀b∈fp,zKe X pins H' b:=fun hn b hb=>⟨hn b hb,(f2 b hb).2⟩
 refine codeAny_forLoop_any (fun n s'=>∃i σ' H',Inv X pins σ' H' s'/\tn i s'.heap/\(∀b∈fp,H' b=none)/\W i n σ' H') ?_ m0 ⟨0,σ,H2,I2,st2,fun b hb=>(f2 b hb).1,w0⟩
 rintro n s3 ⟨i,σ3,H3,I3,st3,fr3,w3⟩
 rcases turn i n σ3 H3 w3 with ⟨stop,qn⟩ | ⟨go,N,hN,step⟩
 . refine wpAny_passesOwn hp (thn (T.done X rfl rfl rfl hc i pins s3 σ3 H3 X.xe I3 (stat fr3) st3 stop) fun r s4 ⟨hr,I4⟩=>?_)
   subst hr
   exact wpAny_execs_nil ⟨σ3,H3,I4,qn⟩
 . refine wpAny_passesOwn hp (thn (T.item X rfl rfl rfl hc i pins s3 σ3 H3 X.xe I3 (stat fr3) st3 go) fun r s4 ⟨u,hr,h4⟩=>?_)
   subst hr
   refine wpAny_passesOwn hp (thn h4 fun _ s5 ⟨x,H5,I5,r5,y5,st5,fr5⟩=>?_)
   have I5':=I5.pinned (stat fr5) (T.obj _ _ st5)
   refine wpAny_passesOwn hp (thn (hg _ s5 σ3 H5 x u _ I5' r5 (step x H5 y5)) fun _ s6 ⟨σ6,H6,I6,q6⟩=>?_)
   refine wpAny_passesOwn hp (thn (hb _ s6 σ6 H6 _ I6 q6) fun f s7 q7=>?_)
   have again:∀{σ7:St}{H7:Hp},Inv X (pins++zGS fp s5.heap) σ7 H7 s7->N σ7 H7->∃m,m<n/\∃i σ' H',Inv X pins σ' H' s7/\tn i s7.heap/\(∀b∈fp,H' b=none)/\W i m σ' H':=fun {σ7 H7} I7 n7=>by
    obtain⟨m',hm,w7⟩:=hN σ7 H7 n7
    refine⟨m',hm,i+1,σ7,H7,I7.unpinned,T.keep _ _ _ st5 fun b hb o e=>(I7.pin (b,o) (zAA _ (zAA _ (zDD hb e)))).1,fun b hb=>?_,w7⟩
    obtain⟨o,e,d⟩:=T.obj _ _ st5 b hb
    exact (I7.pin (b,o) (zAA _ (zAA _ (zDD hb e)))).2.1
   cases f with
   | next=>obtain⟨σ7,H7,I7,n7⟩:=q7;exact again I7 n7
   | cont=>obtain⟨σ7,H7,I7,n7⟩:=q7;exact again I7 n7
   | brk=>obtain⟨σ7,H7,I7,q7⟩:=q7;exact⟨σ7,H7,I7.unpinned,q7⟩
   | ret v=>obtain⟨x7,σ7,H7,I7,r7,q7⟩:=q7;exact⟨x7,σ7,H7,I7.unpinned,r7,q7⟩
end
theorem zH0 {K:PySem.W.Frag}{a:Addr}{xs:List V}{g:TG}{tb:TS}{D:zIv}{σ:St}{H:Hp}(Pv:Nat->St->Hp->Prop)(h0:Pv 0 σ H)(hl:∀i σ H,i<=xs.length->Pv i σ H->SqL K H a xs)
 (hs:∀i x σ H,xs[i]? = some x->Pv i σ H->g x σ H fun σ2 H2=>tb { D with nx:=Pv (i+1),ct:=Pv (i+1),bk:=D.nx } σ2 H2)(hd:∀ σ H,Pv xs.length σ H->D.nx σ H) :
 ∃W:Nat->Nat->St->Hp->Prop,(∃m,W 0 m σ H)/\∀i m σ H,W i m σ H ->
  ((Itl K a).stop i H/\D.nx σ H)\/((Itl K a).go i H/\∃N:St->Hp->Prop,(∀ σ' H',N σ' H'->∃m',m'<m/\W (i+1) m' σ' H')/\∀x H',(Itl K a).yld i H x H'->g x σ H' fun σ2 H2=>tb { D with nx:=N,ct:=N,bk:=D.nx } σ2 H2):=by
 refine⟨fun i m σ H=>m=xs.length-i/\i<=xs.length/\Pv i σ H,⟨xs.length,by simp,zb _,h0⟩,?_⟩
 rintro i m σ H ⟨rfl,hi,p⟩
 have q:=hl i σ H hi p
 by_cases hlt:i<xs.length
 . refine .inr ⟨⟨xs,xs[i],q,by simp[hlt]⟩,Pv (i+1),fun σ' H' p'=>⟨xs.length-(i+1),by omega,rfl,hlt,p'⟩,fun x H' y=>?_⟩
   obtain⟨e,y⟩:=y
   subst e
   exact hs i x σ _ (y xs q) p
 . have e:i=xs.length:=by omega
   subst e
   exact .inl ⟨⟨xs,q,zH _⟩,hd σ H p⟩
theorem zDW {K:PySem.W.Frag}{a:Addr}{xs:List V}{g:TG}{tb:TS}{D:zIv}{σ:St}{H:Hp}(Pv:Nat->St->Hp->Prop)(h0:Pv 0 σ H)(hl:∀i σ H,i<=xs.length->Pv i σ H->SqT K H a xs)
 (hs:∀i x σ H,xs[i]? = some x->Pv i σ H->g x σ H fun σ2 H2=>tb { D with nx:=Pv (i+1),ct:=Pv (i+1),bk:=D.nx } σ2 H2)(hd:∀ σ H,Pv xs.length σ H->D.nx σ H) :
 ∃W:Nat->Nat->St->Hp->Prop,(∃m,W 0 m σ H)/\∀i m σ H,W i m σ H ->
  ((Itt K a).stop i H/\D.nx σ H)\/((Itt K a).go i H/\∃N:St->Hp->Prop,(∀ σ' H',N σ' H'->∃m',m'<m/\W (i+1) m' σ' H')/\∀x H',(Itt K a).yld i H x H'->g x σ H' fun σ2 H2=>tb { D with nx:=N,ct:=N,bk:=D.nx } σ2 H2):=by
 refine⟨fun i m σ H=>m=xs.length-i/\i<=xs.length/\Pv i σ H,⟨xs.length,by simp,zb _,h0⟩,?_⟩
 rintro i m σ H ⟨rfl,hi,p⟩
 have q:=hl i σ H hi p
 by_cases hlt:i<xs.length
 . refine .inr ⟨⟨xs,xs[i],q,by simp[hlt]⟩,Pv (i+1),fun σ' H' p'=>⟨xs.length-(i+1),by omega,rfl,hlt,p'⟩,fun x H' y=>?_⟩
   obtain⟨e,y⟩:=y
   subst e
   exact hs i x σ _ (y xs q) p
 . have e:i=xs.length:=by omega
   subst e
   exact .inl ⟨⟨xs,q,zH _⟩,hd σ H p⟩
theorem zCL {lo:Int}{n:Nat}{g:TG}{tb:TS}{D:zIv}{σ:St}{H:Hp}(Pv:Nat->St->Hp->Prop)(h0:Pv 0 σ H)
 (hs:∀i σ H,i<n->Pv i σ H->g (.int (lo+i)) σ H fun σ2 H2=>tb { D with nx:=Pv (i+1),ct:=Pv (i+1),bk:=D.nx } σ2 H2)(hd:∀ σ H,Pv n σ H->D.nx σ H) :
 ∃W:Nat->Nat->St->Hp->Prop,(∃m,W 0 m σ H)/\∀i m σ H,W i m σ H ->
  ((Itr lo n).stop i H/\D.nx σ H)\/((Itr lo n).go i H/\∃N:St->Hp->Prop,(∀ σ' H',N σ' H'->∃m',m'<m/\W (i+1) m' σ' H')/\∀x H',(Itr lo n).yld i H x H'->g x σ H' fun σ2 H2=>tb { D with nx:=N,ct:=N,bk:=D.nx } σ2 H2):=by
 refine⟨fun i m σ H=>m=n-i/\i<=n/\Pv i σ H,⟨n,by simp,zb _,h0⟩,?_⟩
 rintro i m σ H ⟨rfl,hi,p⟩
 by_cases hlt:i<n
 . refine .inr ⟨hlt,Pv (i+1),fun σ' H' p'=>⟨n-(i+1),by omega,rfl,hlt,p'⟩,fun x H' y=>?_⟩
   obtain⟨e,y⟩:=y
   subst e y
   exact hs i σ _ hlt p
 . have e:i=n:=by omega
   subst e
   exact .inl ⟨zH _,hd σ H p⟩
end L2
namespace L2
open PySem PySem.Spec PyProof.Rows
noncomputable abbrev R2:=V->V->Hp->VK->Prop
noncomputable def OpR (X:Cx)(f:Value->Value->Sem Value)(r:R2):Prop:=
 ∀(pins:List (Addr×Obj))(s:Shared)(σ:St)(H:Hp)(x y:V)(v u:Value)(Q:VK),Inv X pins σ H s->zBe x v->zBe y u->r x y H Q ->
  wpAny (model X.prog X.w) X.A (f v u) (EP X pins σ Q) X.xe s
noncomputable def UnR (X:Cx)(f:Value->Sem Value)(r:V->Hp->VK->Prop):Prop:=
 ∀(pins:List (Addr×Obj))(s:Shared)(σ:St)(H:Hp)(x:V)(v:Value)(Q:VK),Inv X pins σ H s->zBe x v->r x H Q ->
  wpAny (model X.prog X.w) X.A (f v) (EP X pins σ Q) X.xe s
noncomputable def zDI (X:Cx)(f:Value)(r:List V->Hp->VK->Prop):Prop:=
 ∀(pins:List (Addr×Obj))(s:Shared)(σ:St)(H:Hp)(xs:List V)(us:List Value)(Q:VK),Inv X pins σ H s->zBB xs us->r xs H Q ->
  wpAny (model X.prog X.w) X.A (call f us) (EP X pins σ Q) X.xe s
noncomputable def tOp (r:R2)(ta tb:TE):TE:=fun σ H Q=>ta σ H fun x H1=>tb σ H1 fun y H2=>r x y H2 Q
noncomputable def tUn (r:V->Hp->VK->Prop)(ta:TE):TE:=fun σ H Q=>ta σ H fun x H1=>r x H1 Q
noncomputable def rI (C:Int->Int->Prop)(g:Int->Int->V):R2:=fun x y H Q=>∃i j,x = .int i/\y = .int j/\C i j/\Q (g i j) H
noncomputable def rI0 (g:Int->Int->V):R2:=fun x y H Q=>∃i j,x = .int i/\y = .int j/\Q (g i j) H
noncomputable def rU (g:Int->V):V->Hp->VK->Prop:=fun x H Q=>∃i,x = .int i/\Q (g i) H
section
variable {X:Cx}{a b c:Expr}{ta tb tc:TE}{pos:Pos}
theorem binT (ha:PE X a ta)(hb:PE X b tb){pins:List (Addr×Obj)}{s:Shared}{σ:St}{H:Hp}{R:V->V->Hp->Prop}(I:Inv X pins σ H s)
 (h:ta σ H fun x H1=>tb σ H1 fun y H2=>R x y H2){Q:Value->Shared->Prop}{f:Value->Value->Sem Value}
 (hf:∀v u s2 x y H2,Inv X pins σ H2 s2->zBe x v->zBe y u->R x y H2->wpAny (model X.prog X.w) X.A (f v u) Q X.xe s2) :
 wpAny (model X.prog X.w) X.A (eval a X.env) (fun v s₁=>wpAny (model X.prog X.w) X.A (eval b X.env) (fun u s₂=>wpAny (model X.prog X.w) X.A (f v u) Q X.xe s₂) X.xe s₁) X.xe s:=by
 refine thn (ha pins s σ H _ I h) fun v s1 ⟨x,H1,I1,r1,q1⟩=>?_
 refine thn (hb pins s1 σ H1 _ I1 q1) fun u s2 ⟨y,H2,I2,r2,q2⟩=>?_
 exact hf v u s2 x y H2 I2 r1 r2 q2
theorem zAz {op:Operator}{r:R2}(ho:OpR X (binaryOp op) r)(ha:PE X a ta)(hb:PE X b tb):PE X (.BinOp a op b pos) (tOp r ta tb):=by
 intro pins s σ H Q I h
 exact wpAny_BinOp (binT ha hb I h fun v u s2 x y H2 I2 rx ry q=>ho pins s2 σ H2 x y v u Q I2 rx ry q)
theorem pe_un {op:UnaryOp}{r:V->Hp->VK->Prop}(ho:UnR X (unaryOp op) r)(ha:PE X a ta):PE X (.UnaryOp op a pos) (tUn r ta):=by
 intro pins s σ H Q I h
 exact UnaryOp_ (thn (ha pins s σ H _ I h) fun v s1 ⟨x,H1,I1,r1,q1⟩=>ho pins s1 σ H1 x v Q I1 r1 q1)
theorem opI {f:Value->Value->Sem Value}{C:Int->Int->Prop}{g:Int->Int->Int}
 (rule:∀(i j:Int)(t u:Tok)(s:Shared)(Q:Value->Shared->Prop)(E:Value->Shared->Prop),C i j->Q (.int (g i j) s.toks) { s with toks:=s.toks+1 }->wpAny (model X.prog X.w) X.A (f (.int i t) (.int j u)) Q E s) :
 OpR X f (rI C fun i j=>.int (g i j)):=by
 intro pins s σ H x y v u Q I rx ry h
 obtain⟨i,j,rfl,rfl,hc,q⟩:=h
 obtain⟨t,rfl⟩:=rx
 obtain⟨t',rfl⟩:=ry
 exact rule i j t t' s _ _ hc ⟨.int (g i j),H,I.tok _,⟨_,rfl⟩,q⟩
theorem opI0 {f:Value->Value->Sem Value}{g:Int->Int->Int}
 (rule:∀(i j:Int)(t u:Tok)(s:Shared)(Q:Value->Shared->Prop)(E:Value->Shared->Prop),Q (.int (g i j) s.toks) { s with toks:=s.toks+1 }->wpAny (model X.prog X.w) X.A (f (.int i t) (.int j u)) Q E s) :
 OpR X f (rI0 fun i j=>.int (g i j)):=by
 intro pins s σ H x y v u Q I rx ry h
 obtain⟨i,j,rfl,rfl,q⟩:=h
 obtain⟨t,rfl⟩:=rx
 obtain⟨t',rfl⟩:=ry
 exact rule i j t t' s _ _ ⟨.int (g i j),H,I.tok _,⟨_,rfl⟩,q⟩
theorem opB0 {f:Value->Value->Sem Value}{g:Int->Int->Bool}
 (rule:∀(i j:Int)(t u:Tok)(s:Shared)(Q:Value->Shared->Prop)(E:Value->Shared->Prop),Q (.bool (g i j)) s->wpAny (model X.prog X.w) X.A (f (.int i t) (.int j u)) Q E s) :
 OpR X f (rI0 fun i j=>.bl (g i j)):=by
 intro pins s σ H x y v u Q I rx ry h
 obtain⟨i,j,rfl,rfl,q⟩:=h
 obtain⟨t,rfl⟩:=rx
 obtain⟨t',rfl⟩:=ry
 exact rule i j t t' s _ _ ⟨.bl (g i j),H,I,rfl,q⟩
noncomputable def CDiv (i j:Int):Prop:=0<j/\j<1073741824
noncomputable def CPow (i j:Int):Prop:=0<=j/\j<=1000000/\i.natAbs<2 ^ 64
noncomputable def CMul (i j:Int):Prop:=(-(2 ^ 64)<i/\i<2 ^ 64)\/(-(2 ^ 64)<j/\j<2 ^ 64)
theorem CMul.ok {i j:Int}(h:CMul i j):IntMulOk i j:=by
 rcases h with ⟨h1,h2⟩ | ⟨h1,h2⟩
 . exact .of_left (intBits_le_64 h1 h2)
 . exact .of_right (intBits_le_64 h1 h2)
theorem zCK:OpR X (binaryOp .Add) (rI0 fun i j=>.int (i+j)):=opI0 fun _ _ _ _ _ _ _ q=>add_int q
theorem zHn:OpR X (binaryOp .Sub) (rI0 fun i j=>.int (i-j)):=opI0 fun _ _ _ _ _ _ _ q=>sub_int q
theorem zGV:OpR X (binaryOp .Mult) (rI CMul fun i j=>.int (i*j)):=opI fun _ _ _ _ _ _ _ hc q=>mul_int q hc.ok
theorem zFo:OpR X (binaryOp .FloorDiv) (rI CDiv fun i j=>.int (i/j)):=opI fun i j _ _ _ _ _ hc q=>by
 have h1:(0:Int)<j:=hc.1
 have h2:j<1073741824:=hc.2
 exact floordiv_int (by omega) (by rw[Int.fdiv_eq_ediv_of_nonneg i (by omega)];exact q) (.inl (PyProof.noPylong_small (by omega)))
theorem zEd:OpR X (binaryOp .Mod) (rI (fun _ j=>0<j) fun i j=>.int (i%j)):=opI fun i j _ _ _ _ _ hc q=>by
 have h1:(0:Int)<j:=hc
 exact mod_int' (by omega) (by rw[Int.fmod_eq_emod_of_nonneg i (by omega)];exact q)
theorem op_pow:OpR X (binaryOp .Pow) (rI CPow fun i j=>.int (i ^ j.toNat)):=opI fun _ _ _ _ _ _ _ hc q=>pow_int_small hc.1 hc.2.1 hc.2.2 q
theorem unI {f:Value->Sem Value}{g:Int->Int}
 (rule:∀(i:Int)(t:Tok)(s:Shared)(Q:Value->Shared->Prop)(E:Value->Shared->Prop),Q (.int (g i) s.toks) { s with toks:=s.toks+1 }->wpAny (model X.prog X.w) X.A (f (.int i t)) Q E s) :
 UnR X f (rU fun i=>.int (g i)):=by
 intro pins s σ H x v Q I rx h
 obtain⟨i,rfl,q⟩:=h
 obtain⟨t,rfl⟩:=rx
 exact rule i t s _ _ ⟨.int (g i),H,I.tok _,⟨_,rfl⟩,q⟩
theorem un_neg:UnR X (unaryOp .USub) (rU fun i=>.int (-i)):=unI fun _ _ _ _ _ q=>neg_int q
end
noncomputable def scal:V->V->Bool
 | .non,.non=>true | .non,.int _=>true | .int _,.non=>true | .non,.bl _=>true | .bl _,.non=>true | .non,.str _=>true | .str _,.non=>true
 | .int _,.int _=>true | .bl _,.bl _=>true | .str _,.str _=>true | .byt _,.byt _=>true
 | .int _,.str _=>true | .str _,.int _=>true | .bl _,.str _=>true | .str _,.bl _=>true
 | _,_=>false
noncomputable def rEq:R2:=fun x y H Q=>scal x y=true/\Q (.bl (decide (x=y))) H
theorem zMv {i j:Int}:decide (V.int i=V.int j)=(i==j):=by
 rw[Bool.eq_iff_iff]
 simp
theorem dec_bl {i j:Bool}:decide (V.bl i=V.bl j)=(i==j):=by
 rw[Bool.eq_iff_iff]
 simp
theorem zMu {i j:Str}:decide (V.str i=V.str j)=(i==j):=by
 rw[Bool.eq_iff_iff]
 simp
theorem zMw {i j:Array UInt8}:decide (V.byt i=V.byt j)=(i.toList==j.toList):=by
 rw[Bool.eq_iff_iff]
 cases i
 cases j
 simp
section
variable {X:Cx}{a b c:Expr}{ta tb tc:TE}{pos:Pos}
theorem zCP {pins:List (Addr×Obj)}{σ:St}{H:Hp}{s:Shared}{Q:VK}{k k':Bool}(I:Inv X pins σ H s)(q:Q (.bl k) H)(e:k=k'):EP X pins σ Q (.bool k') s:=by
 subst e
 exact⟨.bl k,H,I,rfl,q⟩
theorem zDS:OpR X (compareOp .Eq) rEq:=by
 intro pins s σ H x y v u Q I rx ry h
 obtain⟨hs,q⟩:=h
 cases x with
 | non=>
  cases rx
  cases y with
  | non=>cases ry;exact PySem.EqNone.eq_none_none (zCP I q (by simp))
  | bl j=>cases ry;exact PySem.EqNone.eq_none_bool (zCP I q (by simp))
  | int j=>obtain⟨t',rfl⟩:=ry;exact PySem.EqNone.eq_none_int (zCP I q (by simp))
  | str j=>obtain⟨t',rfl⟩:=ry;exact PySem.EqNone.eq_none_str (zCP I q (by simp))
  | _=>exact absurd (show false=true from hs) zt
 | bl i=>
  cases rx
  cases y with
  | non=>cases ry;exact PySem.EqNone.eq_bool_none (zCP I q (by simp))
  | bl j=>cases ry;exact eq_bool (zCP I q dec_bl)
  | str j=>obtain⟨t',rfl⟩:=ry;exact PySem.EqMixed.eq_bool_str (zCP I q (by simp))
  | _=>exact absurd (show false=true from hs) zt
 | int i=>
  obtain⟨t,rfl⟩:=rx
  cases y with
  | non=>cases ry;exact PySem.EqNone.eq_int_none (zCP I q (by simp))
  | int j=>obtain⟨t',rfl⟩:=ry;exact eq_int (zCP I q zMv)
  | str j=>obtain⟨t',rfl⟩:=ry;exact PySem.EqMixed.eq_int_str (zCP I q (by simp))
  | _=>exact absurd (show false=true from hs) zt
 | str i=>
  obtain⟨t,rfl⟩:=rx
  cases y with
  | non=>cases ry;exact PySem.EqNone.eq_str_none (zCP I q (by simp))
  | bl j=>cases ry;exact PySem.EqMixed.eq_str_bool (zCP I q (by simp))
  | int j=>obtain⟨t',rfl⟩:=ry;exact PySem.EqMixed.eq_str_int (zCP I q (by simp))
  | str j=>obtain⟨t',rfl⟩:=ry;exact eq_str (zCP I q zMu)
  | _=>exact absurd (show false=true from hs) zt
 | byt i=>
  obtain⟨t,rfl⟩:=rx
  cases y with
  | byt j=>obtain⟨t',rfl⟩:=ry;exact PySem.W.eq_bytes (zCP I q zMw)
  | _=>exact absurd (show false=true from hs) zt
 | _=>cases y <;> exact absurd (show false=true from hs) zt
theorem zJh:OpR X (compareOp .Lt) (rI0 fun i j=>.bl (decide (i<j))):=opB0 fun _ _ _ _ _ _ _ q=>lt_int q
theorem op_le:OpR X (compareOp .LtE) (rI0 fun i j=>.bl (decide (i<=j))):=opB0 fun _ _ _ _ _ _ _ q=>le_int q
theorem zEf:OpR X (compareOp .Gt) (rI0 fun i j=>.bl (decide (j<i))):=opB0 fun _ _ _ _ _ _ _ q=>gt_int q
theorem zK6:OpR X (compareOp .GtE) (rI0 fun i j=>.bl (decide (j<=i))):=opB0 fun _ _ _ _ _ _ _ q=>ge_int q
theorem zJf:OpR X (compareOp .IsNot) (fun x y H Q=>y = .non/\Q (.bl (!decide (x = .non))) H):=by
 intro pins s σ H x y v u Q I rx ry h
 obtain⟨rfl,q⟩:=h
 cases ry
 refine isnot_none_gen (zCP I q ?_)
 cases x <;> first
  | (cases rx;rfl)
  | (obtain⟨t,rfl⟩:=rx;rfl)
theorem zAg (b:Expr){op:CmpOp}(h:op ≠ .In:=by decide)(h2:op ≠ .NotIn:=by decide):behindInMarks op b=false:=by
 have e1:(op==CmpOp.In)=false:=by cases op <;> first | rfl | exact absurd rfl h
 have e2:(op==CmpOp.NotIn)=false:=by cases op <;> first | rfl | exact absurd rfl h2
 cases b <;> simp[behindInMarks,e1,e2]
theorem zCX {op:CmpOp}{r:R2}(ho:OpR X (compareOp op) r)(ha:PE X a ta)(hb:PE X b tb)(hm:behindInMarks op b=false):PE X (.Compare a [op] [b] pos) (tOp r ta tb):=by
 intro pins s σ H Q I h
 exact wpAny_Compare1 (binT ha hb I h fun v u s2 x y H2 I2 rx ry q=>ho pins s2 σ H2 x y v u Q I2 rx ry q) hm
noncomputable def tTest (t:TE):TT:=fun σ H Q=>t σ H fun x H'=>∃k,x = .bl k/\Q k H'
theorem zAF {op:CmpOp}{r:R2}(ho:OpR X (compareOp op) r)(ha:PE X a ta)(hb:PE X b tb)(hm:behindInMarks op b=false):PT X (.Compare a [op] [b] pos) (tTest (tOp r ta tb)):=by
 intro pins s σ H Q I h
 refine wpAny_isTrue_Compare1 (thn (ha pins s σ H _ I h) fun v s1 ⟨x,H1,I1,r1,q1⟩=>thn (hb pins s1 σ H1 _ I1 q1) fun u s2 ⟨y,H2,I2,r2,q2⟩=>
  thn (ho pins s2 σ H2 x y v u _ I2 r1 r2 q2) fun c s3 ⟨z,H3,I3,r3,k,e,q3⟩=>?_) hm
 subst e
 cases r3
 exact zBJ ⟨H3,I3,q3⟩
theorem zHs:(sizeLine:Nat)<2 ^ 63:=by rw[sizeLine_eq];decide
theorem zE8 {x:V}{us:List Value}(r:zBB [x] us):∃u,us=[u]/\zBe x u:=by
 cases r with
 | cons r1 r2=>cases r2;exact⟨_,rfl,r1⟩
theorem zIw {x y:V}{us:List Value}(r:zBB [x,y] us):∃u w',us=[u,w']/\zBe x u/\zBe y w':=by
 cases r with
 | cons r1 r2=>
  cases r2 with
  | cons r3 r4=>cases r4;exact⟨_,_,rfl,r1,r3⟩
theorem zGm (hc:X.calm=true):zDI X (.builtin "min") (fun xs H Q=>∃i j,xs=[.int i,.int j]/\Q (.int (if j<i then j else i)) H):=by
 intro pins s σ H xs us Q I r h
 obtain⟨i,j,rfl,q⟩:=h
 obtain⟨u,w',rfl,⟨t,rfl⟩,⟨t',rfl⟩⟩:=zIw r
 refine min_two_ints (I.ok.hd hc) fun h' tk k=>⟨_,H,I.kept k,?_,q⟩
 by_cases hj:j<i
 . rw[if_pos hj,if_pos hj];exact⟨_,rfl⟩
 . rw[if_neg hj,if_neg hj];exact⟨_,rfl⟩
end
end L2
namespace L2
open PySem PySem.Spec PyProof.Rows
structure ObjM (h:Heap)(x dx C:Addr)(mA:Str->Option Value):Prop where
 obj:h.get? x=some (PySem.W.instObj C dx)
 ns:h.Ns1 dx mA
 ne:dx≠x
theorem zJs {h:Heap}{dx:Addr}{mA:Str->Option Value}(n:h.Ns1 dx mA):∃od,h.get? dx=some od/\∀name,PySem.W.lookIn name od=some (mA name):=by
 obtain⟨o,es,ep,ho,hd,hk,_,hm⟩:=n
 refine⟨o,ho,fun name=>?_⟩
 have e:=hm name
 unfold nsFind findBy at e
 rw[<-Array.find?_toList] at e
 unfold PySem.W.lookIn
 rw[hd]
 dsimp only
 split
 . rename_i y q
   rw[q] at e
   exact congrArg some e
 . rename_i q
   rw[q] at e
   have a:es.toList.any (·.refKey)=false:=by
    rw[List.any_eq_false]
    intro y hy
    obtain⟨z,t,hkey⟩:=hk y (Array.mem_toList_iff.mp hy)
    simp[DictEntry.refKey,hkey]
   have a':¬ es.toList.any (·.refKey)=true:=by rw[a];exact zt
   rw[if_neg a']
   exact congrArg some e
theorem ObjM.look {h:Heap}{x dx C:Addr}{mA:Str->Option Value}(I:ObjM h x dx C mA):∃od,PySem.W.InstAt h x (PySem.W.instObj C dx) C (some od)/\∀name,PySem.W.lookIn name od=some (mA name):=
 let ⟨od,ho,hl⟩:=zJs I.ns
 ⟨od,⟨I.obj,rfl,rfl,ho⟩,hl⟩
section
variable {prog:Program}{w:World}{A:Around}{E:Value->Shared->Prop}{s:Shared}{K:PySem.W.Frag}{x dx C f:Addr}{mA:Str->Option Value}{name:Str}{v:Value}
end
noncomputable def zIs (f:Str)(v:V):List (Str×V)->List (Str×V)
 | []=>[(f,v)]
 | (g,x)::r=>if g=f then (g,v)::r else (g,x)::zIs f v r
theorem zEj (f g:Str)(v:V):∀fs:List (Str×V),(zIs f v fs).lookup g=if g=f then some v else fs.lookup g
 | []=>by
  show List.lookup g [(f,v)]=_
  by_cases h:g=f
  . have hb:(g==f)=true:=beq_iff_eq.mpr h
    simp only[List.lookup,hb,if_pos h]
  . have hb:(g==f)=false:=beq_eq_false_iff_ne.mpr h
    simp only[List.lookup,hb,if_neg h]
 | (k,x)::r=>by
  have ih:=zEj f g v r
  rw[show zIs f v ((k,x)::r)=(if k=f then (k,v)::r else (k,x)::zIs f v r) from rfl]
  by_cases hk:k=f
  . rw[if_pos hk]
    by_cases h:g=k
    . have hb:(g==k)=true:=beq_iff_eq.mpr h
      simp only[List.lookup,hb,if_pos (h.trans hk)]
    . have hb:(g==k)=false:=beq_eq_false_iff_ne.mpr h
      simp only[List.lookup,hb,if_neg (fun e:g=f=>h (e.trans hk.symm))]
  . rw[if_neg hk]
    by_cases h:g=k
    . have hb:(g==k)=true:=beq_iff_eq.mpr h
      simp only[List.lookup,hb,if_neg (fun e:g=f=>hk (h.symm.trans e))]
    . have hb:(g==k)=false:=beq_eq_false_iff_ne.mpr h
      simp only[List.lookup,hb]
      exact ih
theorem zEp (f:Str)(v:V):∀fs:List (Str×V),f∈(zIs f v fs).map (·.1)/\∀g,g∈fs.map (·.1)->g∈(zIs f v fs).map (·.1)
 | []=>⟨by simp[zIs],fun g h=>by simp at h⟩
 | (k,x)::r=>by
  obtain⟨i1,i2⟩:=zEp f v r
  rw[show zIs f v ((k,x)::r)=(if k=f then (k,v)::r else (k,x)::zIs f v r) from rfl]
  by_cases hk:k=f
  . rw[if_pos hk]
    subst hk
    exact⟨by simp,fun g h=>by simpa using h⟩
  . rw[if_neg hk]
    refine⟨?_,fun g h=>?_⟩
    . rw[zAG]
      exact zN _ i1
    . rw[zAG] at h ⊢
      rcases zR.mp h with e | e
      . exact zR.mpr (.inl e)
      . exact zN _ (i2 g e)
theorem zF9.some_of {v:V}{o:Option Value}(r:zF9 (some v) o):∃u,o=some u/\zBe v u:=by
 cases o with
 | none=>exact (show False from r).elim
 | some u=>exact⟨u,rfl,r⟩
theorem zJ9 {v:V}{u:Value}(r:zBe v u):PySem.W.handedIn u=true:=by
 cases v with
 | non=>cases (show u=Value.none from r);rfl
 | bl b=>cases (show u=Value.bool b from r);rfl
 | int i=>obtain⟨t,e⟩:=(show ∃t,u=Value.int i t from r);cases e;rfl
 | str x=>obtain⟨t,e⟩:=(show ∃t,u=Value.str x t from r);cases e;rfl
 | byt b=>obtain⟨t,e⟩:=(show ∃t,u=Value.bytes b t from r);cases e;rfl
 | flt b=>obtain⟨t,e⟩:=(show ∃t,u=Value.float b t from r);cases e;rfl
 | ref a=>cases (show u=Value.ref a from r);rfl
 | ty n=>cases (show u=Value.type n from r);rfl
section
variable {P:Program}{w:World}{H H':Hp}{h h':Heap}{a C dx:Addr}{fs fs':List (Str×V)}
theorem zMn (hok:HOk P w H h)(e:H a=some (.ins C dx fs)):∃mA,ObjM h a dx C mA/\(∀f,zF9 (fs.lookup f) (mA f))/\PySem.Within mA (fs.map (·.1))/\fs.length<=1000/\H dx=some (.own a):=by
 obtain⟨d,z,ne,ob,mA,n,r,q⟩:=(show zBY P w H h a (.ins C dx fs) from hok a _ e)
 exact⟨mA,⟨ob,n,ne⟩,r,q,z,d⟩
end
structure Cls (K:PySem.W.Frag)(C:Addr):Prop where
 pg:PySem.W.plainGet K C Str.empty=true
 hd:PySem.W.hasDictIn K C=true
 po:PySem.W.plainOver K C=true
 sa:PySem.W.findIn K (.ref C) "__setattr__" = some (some (.builtin "object.__setattr__"))
theorem Cls.get {K:PySem.W.Frag}{C:Addr}(c:Cls K C)(f:Str):PySem.W.plainGet K C f=true:=c.pg
section
variable {X:Cx}{pins:List (Addr×Obj)}{σ:St}{H:Hp}{s:Shared}{a C dx:Addr}{fs:List (Str×V)}{f:Str}{v:V}{A:Around}{E:Value->Shared->Prop}
theorem zM4 {prog:Program}{w:World}{env:Env}{e:Expr}{f:Str}{pos:Pos}{s:Shared}{Q:Value->Shared->Prop}(hb:attributeBase e f env (eval e env)=eval e env)
 (h:wpAny (model prog w) A (eval e env) (fun o s₁=>wpAny (model prog w) A (getAttr o f true) Q E s₁) E s):wpAny (model prog w) A (eval (.Attribute e f pos) env) Q E s:=
 Attribute_any_ h (by rw[arm_eval_Attribute,hb])
end
section
variable {X:Cx}{o e value:Expr}{f:Str}{pos pos' tpos:Pos}{ta tv:TE}
end
section
variable {X:Cx}{pins:List (Addr×Obj)}{σ:St}{H:Hp}{s:Shared}{A:Around}{E:Value->Shared->Prop}{Q:Value->Shared->Prop}{c:Value}{b:Bool}
inductive zHQ (K:PySem.W.Frag)(H:Hp):V->Value->Prop where
 | non:zHQ K H .non (.type "NoneType")
 | bl (x:Bool):zHQ K H (.bl x) (.type "bool")
 | int (i:Int):zHQ K H (.int i) (.type "int")
 | str (x:Str):zHQ K H (.str x) (.type "str")
 | flt (x:UInt64):zHQ K H (.flt x) (.type "float")
 | lst {a:Addr}{xs:List V}(e:H a=some (.lst xs)):zHQ K H (.ref a) (.type "list")
 | frz {a:Addr}{o:Obj}{xs:List V}(e:H a=some (.frz o (.lst xs))):zHQ K H (.ref a) (.type "list")
 | tup {a:Addr}{xs:List V}(e:H a=some (.tup xs)):zHQ K H (.ref a) (.type "tuple")
 | dK {a:Addr}{kvs:List (Key×V)}(e:H a=some (.dK kvs)):zHQ K H (.ref a) (.type "dict")
 | dT {a:Addr}{kvs:List (List Key×V)}(e:H a=some (.dT kvs)):zHQ K H (.ref a) (.type "dict")
 | ins {a C dx:Addr}{fs:List (Str×V)}(e:H a=some (.ins C dx fs))(cl:Cls K C)(ha:PySem.W.findIn K (.ref C) "__class__" = some (some (.builtin "object.__class__")))
  (hn:PySem.W.specialIn K (.builtin "object.__class__") "__get__" = some (some (.builtin "getset_descriptor.__get__"))) (htk:PySem.W.takesIn K (.builtin "object.__class__")=some true)
  (hm:PySem.W.mroIn K C (.type "object")=some true):zHQ K H (.ref a) (.ref C)
theorem zJ1 {x:V}{u t:Value}(I:Inv X pins σ H s)(rx:zBe x u)(ty:zHQ X.K H x t)(e:PySem.W.kitOne X.K t c=some b)(h:∀tk,Q (.bool b) { s with toks:=tk }) :
 wpAny (model X.prog X.w) A (call (.builtin "isinstance") [u,c]) Q E s:=by
 cases ty with
 | non=>cases (show u=Value.none from rx);exact PySem.W.kia_one PySem.W.kitx_none I.kIn True.intro e (fun z=>nomatch z) h
 | bl y=>cases (show u=Value.bool y from rx);exact PySem.W.kia_one PySem.W.kitx_bool I.kIn True.intro e (fun z=>nomatch z) h
 | int i=>obtain⟨t,q⟩:=(show ∃t,u=Value.int i t from rx);cases q;exact PySem.W.kia_one PySem.W.kitx_int I.kIn True.intro e (fun z=>nomatch z) h
 | str y=>obtain⟨t,q⟩:=(show ∃t,u=Value.str y t from rx);cases q;exact PySem.W.kia_one PySem.W.kitx_str I.kIn True.intro e (fun z=>nomatch z) h
 | flt y=>obtain⟨t,q⟩:=(show ∃t,u=Value.float y t from rx);cases q;exact PySem.W.kia_one PySem.W.kitx_float I.kIn True.intro e (fun z=>nomatch z) h
 | @lst a xs ea=>
  cases (show u=Value.ref a from rx)
  obtain⟨_,_,n,_,h1⟩:=(show zBY X.prog X.w H s.heap a (.lst xs) from I.hok a _ ea)
  exact PySem.W.kia_one PySem.W.kitx_list I.kIn ⟨_,h1,rfl⟩ e (fun z=>nomatch z) h
 | @frz a ob xs ea=>
  cases (show u=Value.ref a from rx)
  obtain⟨_,_,_,n,_,h1⟩:=(show zBY X.prog X.w H s.heap a (.frz ob (.lst xs)) from I.hok a _ ea)
  exact PySem.W.kia_one PySem.W.kitx_list I.kIn ⟨_,h1,rfl⟩ e (fun z=>nomatch z) h
 | @tup a xs ea=>
  cases (show u=Value.ref a from rx)
  obtain⟨_,_,_,p⟩:=(show zBY X.prog X.w H s.heap a (.tup xs) from I.hok a _ ea)
  obtain⟨o,h1,h2,_⟩:=p
  exact PySem.W.kia_one PySem.W.kitx_tuple I.kIn ⟨o,h1,h2⟩ e (fun z=>nomatch z) h
 | @dK a kvs ea=>
  cases (show u=Value.ref a from rx)
  obtain⟨_,_,vs,_,p⟩:=(show zBY X.prog X.w H s.heap a (.dK kvs) from I.hok a _ ea)
  obtain⟨o,es,ep,h1,h2,_⟩:=p
  exact PySem.W.kia_one PySem.W.kitx_dict I.kIn ⟨o,h1,h2.1⟩ e (fun z=>nomatch z) h
 | @dT a kvs ea=>
  cases (show u=Value.ref a from rx)
  obtain⟨_,_,xs,_,o,es,ep,h1,h2,_⟩:=(show zBY X.prog X.w H s.heap a (.dT kvs) from I.hok a _ ea)
  exact PySem.W.kia_one PySem.W.kitx_dict I.kIn ⟨o,h1,h2.1⟩ e (fun z=>nomatch z) h
 | @ins a C dx fs ea cl ha hn htk hm=>
  cases (show u=Value.ref a from rx)
  obtain⟨mA,O,_⟩:=zMn I.hok ea
  obtain⟨od,J,_⟩:=O.look
  exact PySem.W.kia_one (PySem.W.kitx_own (cl.get _) cl.hd ha hn htk hm) I.kIn J e (fun z=>nomatch z) h
end
end L2
namespace L2
open PySem PySem.Spec PyProof.Rows
structure zDo (k:Nat)(A:Around):Prop where
 hd:A.handled=none
 dp:A.depth+3*k+5<recursionLimit
 un:A.units+16*k+200<cLine
 gd:A.guards=some []
theorem zDo.mono {j k:Nat}{A:Around}(r:zDo k A)(h:j<=k):zDo j A:=⟨r.hd,by have:=r.dp;omega,by have:=r.un;omega,r.gd⟩
theorem zDo.deeper {k:Nat}{A:Around}(r:zDo (k+1) A)(env:Env):zDo k (A.deeper env):=
 ⟨r.hd,by have:=r.dp;show A.depth+1+3*k+5<_;omega,by have:=r.un;show A.units+3+16*k+200<_;omega,r.gd⟩
theorem zId {A:Around}{C:Addr}{us:List Value}{kw:List (Str×Value)}:(A.under (.builtin "type.__call__" ⟨.ref C::us,kw⟩)).depth=A.depth+1:=by
 first | rfl | simp[Around.under,Code.weight,Code.isCreation,Code.isGuard,Code.isCaller,Code.frames,Code.isFrame,guardIds]
theorem zIc {A:Around}{C:Addr}{us:List Value}{kw:List (Str×Value)}:(A.under (.builtin "type.__call__" ⟨.ref C::us,kw⟩)).units=A.units+1:=by
 first | rfl | simp[Around.under,Code.cUnits,Code.frames,Code.isFrame]
theorem zDo.make {k:Nat}{A:Around}(r:zDo (k+1) A)(C:Addr)(us:List Value)(kw:List (Str×Value)):zDo k (A.under (.builtin "type.__call__" ⟨.ref C::us,kw⟩)):=
 ⟨r.hd,by have:=r.dp;rw[zId];omega,by have:=r.un;rw[zIc];omega,by first | exact r.gd | (simp[Around.under,Code.guards,Code.isGuard,guardIds,pushGuards];exact r.gd)⟩
theorem zDo.depth {k:Nat}{A:Around}(r:zDo k A):A.depth<recursionLimit:=by have:=r.dp;omega
theorem zDo.units {k:Nat}{A:Around}(r:zDo k A):A.units+64<cLine:=by have:=r.un;omega
theorem zDo.units0 {k:Nat}{A:Around}(r:zDo k A):A.units<cLine:=by have:=r.un;omega
noncomputable def tNil:TA:=fun _ H Q=>Q [] H
noncomputable def zME (ta:TE)(tr:TA):TA:=fun σ H Q=>ta σ H fun x H1=>tr σ H1 fun xs H2=>Q (x::xs) H2
section
variable {X:Cx}{e:Expr}{es:List Expr}{te:TE}{t:TA}{pos:Pos}
theorem zL:PA X [] tNil:=fun _ _ _ _ H Q I h=>Calls.spliced_nil ⟨[],H,I,.nil,h⟩
theorem zC (ha:PE X e te)(hr:PA X es t)(hs:starEach (e::es) X.env=(false,eval e X.env)::starEach es X.env:=by rfl):PA X (e::es) (zME te t):=by
 intro pos pins s σ H Q I h
 rw[hs]
 show wpAny _ _ (spliced ((false,eval e X.env)::backTo pos (starEach es X.env))) _ _ s
 refine Calls.spliced_cons (thn (ha pins s σ H _ I h) fun u s1 ⟨x,H1,I1,r1,q1⟩=>?_)
 exact thn (hr pos pins s1 σ H1 _ I1 q1) fun us s2 ⟨xs,H2,I2,r2,q2⟩=>⟨x::xs,H2,I2,.cons r1 r2,q2⟩
noncomputable def tTup (t:TA):TE:=fun σ H Q=>t σ H fun xs H1=>xs.length<=sizeLine/\∀p,H1 p=none->Q (.ref p) (upd H1 p (.tup xs))
noncomputable def tLst (t:TA):TE:=fun σ H Q=>t σ H fun xs H1=>xs.length<=sizeLine/\∀p,H1 p=none->Q (.ref p) (upd H1 p (.lst xs))
theorem zAm {x1} (h:PA X es t):PE X (.Tuple es x1 pos) (tTup t):=by
 intro pins s σ H Q I hq
 refine wpAny_Tuple_spliced (thn (h pos pins s σ H _ I hq) fun us s1 ⟨xs,H1,I1,r,z,q⟩=>⟨by rw[<-r.length];exact z,?_⟩)
 have hf:H1 s1.heap.objs.size=none:=I1.hok.fresh (zH _)
 refine⟨.ref s1.heap.objs.size,upd H1 s1.heap.objs.size (.tup xs),I1.laid (t':=s1.toks) (fun b u e=>zI _ e) (zH _) ?_,rfl,q _ hf⟩
 exact⟨⟨z,_,zO _ rfl,rfl⟩,us,r,⟨_,zO _ rfl,rfl,_,rfl⟩⟩
theorem zBx (h:PA X es t):PE X (.List es pos) (tLst t):=by
 intro pins s σ H Q I hq
 refine wpAny_List_spliced (thn (h pos pins s σ H _ I hq) fun us s1 ⟨xs,H1,I1,r,z,q⟩=>⟨by rw[<-r.length];exact z,?_⟩)
 have hf:H1 s1.heap.objs.size=none:=I1.hok.fresh (zH _)
 refine⟨.ref s1.heap.objs.size,upd H1 s1.heap.objs.size (.lst xs),I1.laid (t':=s1.toks) (fun b u e=>zI _ e) (zH _) ?_,rfl,q _ hf⟩
 exact⟨z,us,0,r,zO _ rfl⟩
end
noncomputable abbrev Sp:=List V->Hp->VK->XK->Prop
noncomputable abbrev CXT:=List Env->Hp->Shared->XK->Value->Shared->Prop
structure zM5 (P:Program)(w:World)(K:PySem.W.Frag)(mg:Str->Option Value)(base:Heap)(A:Around)(outer:List Env)(s:Shared)(H:Hp):Prop where
 frames:A.frames=some outer
 mod:Mod K mg base
 bs:∀b o,base.get? b=some o->s.heap.get? b=some o/\H b=none
 bsz:base.objs.size<=s.heap.objs.size
 funs:s.heap.FunFrames base outer
 frf:∀b∈frs outer,H b=none
 hok:HOk P w H s.heap
 bare:AllBare s.gens
noncomputable def CE (outer:List Env)(P:Program)(w:World)(H:Hp)(s:Shared)(Q:VK)(u:Value)(s':Shared):Prop:=
 ∃v H',s'.os=s.os/\AllBare s'.gens/\Un (frs outer) [] H H' s.heap s'.heap/\HOk P w H' s'.heap/\zBe v u/\Q v H'
noncomputable def CR (CX:CXT)(outer:List Env)(P:Program)(w:World)(H:Hp)(s:Shared)(Q:VK)(E:XK)(r:Result)(s':Shared):Prop:=
 match r with
 | .ok (.ret u)=>CE outer P w H s Q u s'
 | .ok _=>False
 | .error e=>CX outer H s E e s'
structure zAs (P:Program)(w:World)(K:PySem.W.Frag)(mg:Str->Option Value)(base:Heap)(CX:CXT)(k:Nat)(f:Addr)(fd:FuncData)(ps:List Str)(sp:Sp):Prop where
 len:∀vs H Q E,sp vs H Q E->vs.length=ps.length
 run:∀(A:Around)(outer:List Env)(s:Shared)(H:Hp)(args:Args)(us:List Value)(vs:List V)(Q:VK)(E:XK),zDo k A->zM5 P w K mg base A outer s H->BindsTo s fd args (ps.zip us)->zBB vs us->sp vs H Q E ->
  codeAny (model P w) A (.call (.ref f) args) (CR CX outer P w H s Q E) s
theorem zAs.mono {P:Program}{w:World}{K:PySem.W.Frag}{mg:Str->Option Value}{base:Heap}{CX:CXT}{j k:Nat}{f:Addr}{fd:FuncData}{ps:List Str}{sp:Sp}(F:zAs P w K mg base CX j f fd ps sp)(h:j<=k) :
 zAs P w K mg base CX k f fd ps sp:=⟨F.len,fun A outer s H args us vs Q E hr=>F.run A outer s H args us vs Q E (hr.mono h)⟩
theorem zAs.imp {P:Program}{w:World}{K:PySem.W.Frag}{mg:Str->Option Value}{base:Heap}{CX:CXT}{k:Nat}{f:Addr}{fd:FuncData}{ps:List Str}{sp sp':Sp}(F:zAs P w K mg base CX k f fd ps sp)
 (h:∀vs H Q E,sp' vs H Q E->sp vs H Q E):zAs P w K mg base CX k f fd ps sp':=
 ⟨fun vs H Q E q=>F.len vs H Q E (h _ _ _ _ q),fun A outer s H args us vs Q E hr he hb hv hs=>F.run A outer s H args us vs Q E hr he hb hv (h _ _ _ _ hs)⟩
theorem zM5.make {P:Program}{w:World}{K:PySem.W.Frag}{mg:Str->Option Value}{base:Heap}{A:Around}{outer:List Env}{s:Shared}{H:Hp}(e:zM5 P w K mg base A outer s H)(C:Addr)(us:List Value)(kw:List (Str×Value)) :
 zM5 P w K mg base (A.under (.builtin "type.__call__" ⟨.ref C::us,kw⟩)) outer s H:=⟨by first | exact e.frames | (simpa [Around.under,Code.envs,Code.isFrame,pushEnvs] using e.frames),e.mod,e.bs,e.bsz,e.funs,e.frf,e.hok,e.bare⟩
section
variable {X:Cx}{pins:List (Addr×Obj)}{σ:St}{H:Hp}{s s':Shared}
theorem Inv.env0 (I:Inv X pins σ H s):zM5 X.prog X.w X.K X.mg X.base X.A X.stack s H:=
 ⟨I.ok.frames,I.ok.mod,I.bs,zz I.ok.bsz I.sz,I.stack,I.stkFree,I.hok,I.bare⟩
theorem Inv.after {Q:VK}{u:Value}(I:Inv X pins σ H s)(h:CE X.stack X.prog X.w H s Q u s'):EP X pins σ Q u s':=by
 obtain⟨v,H',os,bare,un,hok,r,q⟩:=h
 obtain⟨hh,g,d,t,os'⟩:=s'
 obtain rfl:os'=s.os:=os
 exact⟨v,H',I.call (h':=hh) (g':=g) (d':=d) (t':=t) (ch:=[]) un hok bare (fun b z=>absurd z (by simp)),r,q⟩
end
noncomputable def tCall (sp:Sp)(dvs:List V)(E:XK)(t:TA):TE:=fun σ H Q=>t σ H fun vs H1=>sp (vs++dvs) H1 Q E
noncomputable def zAI (K:PySem.W.Frag)(fd:FuncData)(ps:List Str)(ds:List Value):Prop:=
 ∀(s:Shared)(us:List Value),K.In s.heap->(us++ds).length=ps.length->BindsTo s fd ⟨us,[]⟩ (ps.zip (us++ds))
theorem zAI.all {K:PySem.W.Frag}{fd:FuncData}{ps:List Str}(h:∀us:List Value,us.length=ps.length->bindArgs fd ⟨us,[]⟩=pure (ps.zip us)):zAI K fd ps []:=fun s us _ hl=>by
 rw[zr] at hl ⊢
 exact .of_eq (h us hl)
noncomputable def zIH (CX:CXT)(X:Cx)(E:XK):Prop:=∀(pins:List (Addr×Obj))(σ:St)(H:Hp)(s:Shared)(e:Value)(s':Shared),Inv X pins σ H s->CX X.stack H s E e s'->X.xe e s'
section
variable {X:Cx}{CX:CXT}{k:Nat}{f C:Addr}{fd:FuncData}{ps:List Str}{sp:Sp}{dvs:List V}{ds:List Value}{E:XK}{x m:Str}{p pos apos:Pos}{e o:Expr}{es:List Expr}{ta:TE}{t:TA}
theorem run_fn {pins:List (Addr×Obj)}{σ:St}{H:Hp}{s:Shared}{Q:VK}{us:List Value}{vs:List V}(F:zAs X.prog X.w X.K X.mg X.base CX k f fd ps sp)(hr:zDo k X.A)(hb:zAI X.K fd ps ds)(hd:zBB dvs ds)(hx:zIH CX X E)
 (I:Inv X pins σ H s)(r:zBB vs us)(h:sp (vs++dvs) H Q E):wpAny (model X.prog X.w) X.A (call (.ref f) us) (EP X pins σ Q) X.xe s:=by
 have r2:zBB (vs++dvs) (us++ds):=r.append hd
 have hl:(us++ds).length=ps.length:=by rw[<-r2.length];exact F.len _ _ _ _ h
 refine zB7 (codeAny_mono (F.run X.A X.stack s H ⟨us,[]⟩ (us++ds) (vs++dvs) Q E hr I.env0 (hb s us I.kIn hl) r2 h) fun r s' hq=>?_)
 cases r with
 | error e=>exact hx pins σ H s e s' I hq
 | ok fl=>
  cases fl with
  | ret u=>exact I.after hq
  | next=>exact False.elim hq
  | brk=>exact False.elim hq
  | cont=>exact False.elim hq
theorem zl (F:zAs X.prog X.w X.K X.mg X.base CX k f fd ps sp)(hr:zDo k X.A)(hg:Gl X x)(hm:X.mg x=some (.ref f))(hk:PySem.W.keepIn X.K (.ref f)=true)(hb:zAI X.K fd ps ds)(hd:zBB dvs ds)(hx:zIH CX X E)
 (ha:PA X (e::es) t)(hdb:(x==("__debug__" : Str))=false:=by decide) (he:starEach (e::es) X.env=(false,eval e X.env)::starEach es X.env:=by rfl)(hpl:(backTo pos (starEach es X.env)).any (·.1)=false:=by rfl) :
 PE X (.Call (.Name x p) (e::es) [] pos) (tCall sp dvs E t):=by
 intro pins s σ H Q I h
 refine zA1 (zEn I hg hm ?_ hdb)
 refine PySem.W.callWith_K (h₀:=X.base) I.ok.mod.kin hk (thn (ha pos pins s σ H _ I h) fun us s1 ⟨vs,H1,I1,r,q⟩=>⟨I1.kIn,?_⟩) he hpl
 exact run_fn F hr hb hd hx I1 r q
end
section
variable {X:Cx}{CX:CXT}{k:Nat}{f C:Addr}{fd:FuncData}{ps ks:List Str}{sp:Sp}{E:XK}{x m:Str}{p pos apos kpos:Pos}{e o:Expr}{es:List Expr}{kws:List Keyword}{te ta:TE}{t tk:TA}{nm:Option Str}
variable {g:List Value->List Value->List Value}{gV:List V->List V->List V}
end
structure zAN (N P:List Str)(sc:Scope):Prop where
 kind:sc.kind = .function
 co:sc.isCoroutine=false
 gen:sc.isGenerator=false
 nd:N.Nodup
 pre:N.take P.length=P
 par:∀x∈P,sc.names.lookup x=some .local\/sc.names.lookup x=some .cell
 nofree:∀y∈sc.names,y.2 ≠ .free
theorem zGo {kindOf:Str->Option NameKind}{x:Str}:∀{binds:List (Str×Value)}{m:Str->Option Value},(∀v,(x,v)∉binds)->bindL kindOf binds m x=m x
 | [],_,_=>rfl
 | (n,v)::r,m,h=>by
  unfold bindL
  rw[zGo fun w hw=>h w (zN _ hw)]
  split
  . have:x≠n:=by rintro rfl;exact h v zT
    simp[this]
  . rfl
theorem zGq {kindOf:Str->Option NameKind}{x:Str}:∀{binds:List (Str×Value)}{m:Str->Option Value},(∀v,(x,v)∉binds)->bindC kindOf binds m x=m x
 | [],_,_=>rfl
 | (n,v)::r,m,h=>by
  unfold bindC
  rw[zGq fun w hw=>h w (zN _ hw)]
  split
  . rfl
  . have:x≠n:=by rintro rfl;exact h v zT
    simp[this]
theorem zGp {kindOf:Str->Option NameKind}{x:Str}{v:Value}:∀{P:List Str}{vs:List Value}{i:Nat}{m:Str->Option Value},P.Nodup->P[i]? = some x->vs[i]? = some v->kindOf x=some .local ->
 bindL kindOf (P.zip vs) m x=some v
 | [],_,_,_,_,h,_,_=>by simp at h
 | _::_,[],_,_,_,_,h,_=>by simp at h
 | p::P,w::vs,0,m,nd,h1,h2,hk=>by
  simp at h1 h2;subst h1;subst h2
  show bindL kindOf ((p,w)::P.zip vs) m p=_
  unfold bindL
  rw[zGo fun v hv=>(zA2.mp nd).1 (List.of_mem_zip hv).1,if_pos hk]
  simp
 | p::P,w::vs,i+1,m,nd,h1,h2,hk=>by
  show bindL kindOf ((p,w)::P.zip vs) m x=_
  unfold bindL
  exact zGp (i:=i) (zA2.mp nd).2 (by simpa using h1) (by simpa using h2) hk
theorem zGr {kindOf:Str->Option NameKind}{x:Str}{v:Value}:∀{P:List Str}{vs:List Value}{i:Nat}{m:Str->Option Value},P.Nodup->P[i]? = some x->vs[i]? = some v->kindOf x≠some .local ->
 bindC kindOf (P.zip vs) m x=some v
 | [],_,_,_,_,h,_,_=>by simp at h
 | _::_,[],_,_,_,_,h,_=>by simp at h
 | p::P,w::vs,0,m,nd,h1,h2,hk=>by
  simp at h1 h2;subst h1;subst h2
  show bindC kindOf ((p,w)::P.zip vs) m p=_
  unfold bindC
  rw[zGq fun v hv=>(zA2.mp nd).1 (List.of_mem_zip hv).1,if_neg hk]
  simp
 | p::P,w::vs,i+1,m,nd,h1,h2,hk=>by
  show bindC kindOf ((p,w)::P.zip vs) m x=_
  unfold bindC
  exact zGr (i:=i) (zA2.mp nd).2 (by simpa using h1) (by simpa using h2) hk
noncomputable def zE9 (N:List Str)(vs:List V):St:=vs.map some++List.replicate (N.length-vs.length) none
noncomputable def zH8 (CX:CXT)(P:Program)(w:World)(K:PySem.W.Frag)(mg:Str->Option Value)(base:Heap)(N:List Str)(qual:Str)(scope:Scope)(f:Addr)(cd:Value)(A:Around)(outer:List Env)(s:Shared)(H:Hp)(E:XK):Cx where
 prog:=P
 w:=w
 K:=K
 mg:=mg
 base:=base
 A:=A.deeper (envOfC qual scope s.heap.objs.size f cd)
 N:=N
 s₀:=s
 H₀:=H
 env:=envOfC qual scope s.heap.objs.size f cd
 outer:=outer
 stack:=envOfC qual scope s.heap.objs.size f cd::outer
 ex:=[]
 calm:=true
 fn:=fun _=>true
 pn:=[]
 xe:=fun e s'=>wpAny (model P w) (A.deeper (envOfC qual scope s.heap.objs.size f cd)) (leaving (envOfC qual scope s.heap.objs.size f cd) e) (fun _ s''=>CX outer H s E e s'') (fun e' s''=>CX outer H s E e' s'') s'
theorem zIE {sc:Scope}{n:Nat}{x:Str}(h:sc.names.lookup x=some .cell):∃c,(cellsFrom n sc.names []).lookup x=some c:=by
 have q:=PySem.W.cellsFrom_some sc.names n [] (.inl h)
 exact zBt.mp q
theorem zJ2 {CX:CXT}{P:Program}{w:World}{K:PySem.W.Frag}{mg:Str->Option Value}{base:Heap}{N ps:List Str}{qual:Str}{scope:Scope}{f:Addr}{cd:Value}{A:Around}{outer:List Env}{s s1:Shared}{H:Hp}{E:XK}{us:List Value}{vs:List V}
 (S:zAN N ps scope)(hd:A.handled=none)(e0:zM5 P w K mg base A outer s H)(hl:vs.length=ps.length)(r:zBB vs us)
 (x:InCallC s s.heap.objs.size (bindL (envOfC qual scope s.heap.objs.size f cd).kindOf (ps.zip us) fun _=>none) (cellsFrom (s.heap.objs.size+1) scope.names []) (bindC (envOfC qual scope s.heap.objs.size f cd).kindOf (ps.zip us) fun _=>none) s1) :
 Inv (zH8 CX P w K mg base N qual scope f cd A outer s H E) [] (zE9 N vs) H s1:=by
 have hpl:ps.length<=N.length:=by have:=congrArg List.length S.pre;rw[zd] at this;omega
 obtain⟨h1,tk,rfl,hk⟩:=x.done
 have noA:∀b:Addr,b∉(zH8 CX P w K mg base N qual scope f cd A outer s H E).ex:=fun b z=>absurd (show b∈([]:List Addr) from z) (by simp)
 refine⟨⟨e0.mod,S.kind,rfl,rfl,zH _,fun y z c h1 h2=>?_,fun y hy=>?_,fun y c _ h=>?_,fun _=>hd,Around.frames_deeper e0.frames,.inr ⟨rfl,rfl⟩,fun b z=>absurd z (noA b),e0.bs,e0.bsz,fun b _ _=>noA b,fun b z=>absurd z (noA b),e0.funs,e0.frf⟩,
  rfl,e0.bare,Un.kept hk,⟨_,x.toInCall.ns,fun i y v h1 h2 h3=>?_⟩,fun y c h=>⟨_,x.cell y c h⟩,e0.hok.fresh (zH _),fun y c h=>?_,fun p hp=>absurd (show p∈([]:List (Addr×Obj)) from hp) (by simp),e0.hok.kept hk,?_⟩
 . exact name_of_addr x.apart (PySem.mem_of_lookup h1) (PySem.mem_of_lookup h2)
 . have hy:scope.names.lookup y=some .cell\/scope.names.lookup y=some .free:=hy
   rcases hy with hy | hy
   . exact zIE hy
   . exact absurd rfl (S.nofree _ (PySem.mem_of_lookup hy))
 . exact zAl (x.above y c (PySem.mem_of_lookup h))
 . have hi:i<vs.length:=by
    unfold zE9 at h2
    by_cases hi:i<vs.length
    . exact hi
    . rw[zAu (by simpa using hi)] at h2
      rw[List.getElem?_replicate] at h2
      split at h2 <;> cases h2
   have ha:vs[i]? = some v:=by
    unfold zE9 at h2
    rw[zAk (by simpa using hi),zZ] at h2
    cases e:vs[i]? with
    | none=>rw[e] at h2;cases h2
    | some a=>rw[e] at h2;cases h2;rfl
   obtain⟨u,hu,rv⟩:=r.get ha
   have hp:ps[i]? = some y:=by
    rw[<-S.pre,List.getElem?_take_of_lt (by omega)];exact h1
   have ndP:ps.Nodup:=by rw[<-S.pre];exact S.nd.sublist (List.take_sublist _ _)
   refine⟨u,rv,?_⟩
   rcases S.par y (zi hp) with k | k
   . exact .inl ⟨k,zGp ndP hp hu k⟩
   . obtain⟨c,e⟩:=zIE (n:=s.heap.objs.size+1) k
     refine .inr ⟨.inl k,c,e,?_⟩
     have q:=x.cell y c e
     rw[zGr ndP hp hu (by show scope.names.lookup y≠_;rw[k];decide)] at q
     exact q
 . exact e0.hok.fresh (zAl (x.above y c (PySem.mem_of_lookup h)))
 . unfold zE9
   show _=N.length
   rw[zB,zE,List.length_replicate]
   omega
theorem fn_of {CX:CXT}{P:Program}{w:World}{K:PySem.W.Frag}{mg:Str->Option Value}{base:Heap}{k:Nat}{f:Addr}{name qual:Str}{params:Arguments}{body:List Stmt}{scope:Scope}{dV kV doc pm cdv ct oc:Value}{an od:Option Addr}
 {osl:Array (Option Value)}{N ps:List Str}{sp:Sp}(lk:K.lookup f=some ⟨oc,od,.func (PySem.W.fnOf name qual params body scope dV kV doc pm an cdv ct),osl⟩)(hcd:PySem.W.codeIn K cdv qual=true)(S:zAN N ps scope)
 (len:∀vs H Q E,sp vs H Q E->vs.length=ps.length)
 (hbody:∀(A:Around)(outer:List Env)(s:Shared)(H:Hp)(vs:List V)(Q:VK)(E:XK),zDo k (A.deeper (envOfC qual scope s.heap.objs.size f cdv))->sp vs H Q E ->
  ∃t,PSs (zH8 CX P w K mg base N qual scope f cdv A outer s H E) body t/\t { nx:=fun _ H'=>Q .non H',rt:=Q } (zE9 N vs) H) :
 zAs P w K mg base CX (k+1) f (PySem.W.fnOf name qual params body scope dV kV doc pm an cdv ct) ps sp:=by
 refine⟨len,fun A outer s H args us vs Q E hr e0 hb r hsp=>?_⟩
 have hl:=len _ _ _ _ hsp
 have KX:K.In s.heap:=e0.mod.kin.keeps fun b o e=>(e0.bs b o e).1
 have lim:s.heap.NoLimit:=e0.mod.nolimit.keeps fun b o e=>(e0.bs b o e).1
 have hkind:∀y∈ps.zip us,scope.names.lookup y.1=some .local\/(scope.names.lookup y.1=some .cell/\((cellsFrom (s.heap.objs.size+1) scope.names []).lookup y.1).isSome=true):=fun ⟨n,v⟩ hy=>by
  rcases S.par n (List.of_mem_zip hy).1 with q | q
  . exact .inl q
  . exact .inr ⟨q,PySem.W.cellsFrom_some _ _ _ (.inl q)⟩
 refine codeAny_call_function hr.depth (KX _ _ lk) rfl S.co S.gen rfl (PySem.W.codeRec_of KX hcd) (hb _ _ _ _ ?_)
 refine wpAny_newFunctionEnv_cells S.kind hkind fun env he s1 x=>?_
 subst he
 refine⟨lim.keeps x.toInCall.keep,codeAny_func ?_⟩
 obtain⟨t,ht,hq⟩:=hbody A outer s H vs Q E (hr.deeper _) hsp
 have I:Inv (zH8 CX P w K mg base N qual scope f cdv A outer s H E) [] (zE9 N vs) H s1:=zJ2 S hr.hd e0 hl r x
 refine zAJ (ht [] s1 (zE9 N vs) H _ I hq) (fun fl s' hs=>?_) fun e s' hs=>hs
 have fin:∀{σ':St}{H':Hp}{v:V}{u:Value},Inv (zH8 CX P w K mg base N qual scope f cdv A outer s H E) [] σ' H' s'->zBe v u->Q v H'->CE outer P w H s Q u s':=
  fun {σ' H' v u} J rv q=>⟨v,H',J.os,J.bare,J.base,J.hok,rv,q⟩
 cases fl with
 | ret u=>
  obtain⟨v,σ',H',J,rv,q⟩:=hs
  exact fin J rv q
 | next=>
  obtain⟨σ',H',J,q⟩:=hs
  exact fin (v:=V.non) (u:=Value.none) J rfl q
 | brk=>
  obtain⟨_,_,_,q⟩:=hs
  exact False.elim q
 | cont=>
  obtain⟨_,_,_,q⟩:=hs
  exact False.elim q
end L2
namespace L2
open PySem PySem.Spec PyProof.Rows
section
variable {X:Cx}{x:Str}{p pos:Pos}{e:Expr}{es:List Expr}{t:TA}{id T:String}{r:List V->Hp->VK->Prop}
noncomputable def tCB (r:List V->Hp->VK->Prop)(t:TA):TE:=fun σ H Q=>t σ H fun vs H1=>r vs H1 Q
theorem zn (hc:zDI X (.builtin id) r)(hg:Gl X x)(hm:X.mg x=none)(hv:bootBuiltins x=some (.builtin id))(ha:PA X (e::es) t)(hn:x ≠ "__name__" := by decide) (hdb:(x==("__debug__" : Str))=false:=by decide)
 (he:starEach (e::es) X.env=(false,eval e X.env)::starEach es X.env:=by rfl)(hpl:(backTo pos (starEach es X.env)).any (·.1)=false:=by rfl):PE X (.Call (.Name x p) (e::es) [] pos) (tCB r t):=by
 intro pins s σ H Q I h
 refine zA1 (zCz I hg hm hv ?_ hn hdb)
 exact PyProof.Rows.callWith_builtin1 (thn (ha pos pins s σ H _ I h) fun us s1 ⟨vs,H1,I1,r1,q1⟩=>hc pins s1 σ H1 vs us Q I1 r1 q1) he hpl
theorem zAv (hc:zDI X (.type T) r)(hg:Gl X x)(hm:X.mg x=none)(hv:bootBuiltins x=some (.type T))(ha:PA X (e::es) t)(hn:x ≠ "__name__" := by decide) (hdb:(x==("__debug__" : Str))=false:=by decide)
 (he:starEach (e::es) X.env=(false,eval e X.env)::starEach es X.env:=by rfl)(hpl:(backTo pos (starEach es X.env)).any (·.1)=false:=by rfl):PE X (.Call (.Name x p) (e::es) [] pos) (tCB r t):=by
 intro pins s σ H Q I h
 refine zA1 (zCz I hg hm hv ?_ hn hdb)
 exact PyProof.Rows.callWith_type1 (thn (ha pos pins s σ H _ I h) fun us s1 ⟨vs,H1,I1,r1,q1⟩=>hc pins s1 σ H1 vs us Q I1 r1 q1) he hpl
end
end L2
namespace L2
open PySem PySem.Spec PyProof.Rows
section
variable {κ:Type} [DecidableEq κ]
noncomputable def zC1 (kvs:List (κ×V))(k:κ):Option V:=(kvs.find? fun kv=>decide (kv.1=k)).map (·.2)
noncomputable def zD5 (kvs:List (κ×V))(k:κ)(v:V):List (κ×V):=
 if (kvs.any fun kv=>decide (kv.1=k))=true then kvs.map (fun kv=>if kv.1=k then (kv.1,v) else kv) else kvs++[(k,v)]
theorem zKi {k:κ}:zC1 ([]:List (κ×V)) k=none:=rfl
theorem zB8 {p:κ×V}{r:List (κ×V)}{k:κ}(e:p.1=k):zC1 (p::r) k=some p.2:=by simp[zC1,List.find?_cons,e]
theorem zB9 {p:κ×V}{r:List (κ×V)}{k:κ}(e:¬ p.1=k):zC1 (p::r) k=zC1 r k:=by simp[zC1,List.find?_cons,e]
theorem zCe (k:κ):∀kvs:List (κ×V),(kvs.any fun kv=>decide (kv.1=k))=(zC1 kvs k).isSome
 | []=>rfl
 | p::r=>by
  rw[List.any_cons]
  by_cases e:p.1=k
  . simp only[zB8 e,zQ e,Bool.true_or,Option.isSome_some]
  . rw[zB9 e,zS e,Bool.false_or];exact zCe k r
theorem zHV (k j:κ)(y:V):∀kvs:List (κ×V),zC1 (kvs.map fun kv=>if kv.1=k then (kv.1,y) else kv) j=(zC1 kvs j).map fun x=>if j=k then y else x
 | []=>rfl
 | p::r=>by
  have ih:=zHV k j y r
  rw[zAG]
  by_cases h:p.1=k
  . rw[if_pos h]
    by_cases e:p.1=j
    . rw[zB8 (p:=(p.1,y)) e,zB8 e,zBT,if_pos (e.symm.trans h)]
    . rw[zB9 (p:=(p.1,y)) e,zB9 e,ih]
  . rw[if_neg h]
    by_cases e:p.1=j
    . rw[zB8 (p:=p) e,zB8 e,zBT,if_neg (fun z=>h (e.trans z))]
    . rw[zB9 (p:=p) e,zB9 e,ih]
theorem zGC (k j:κ)(y:V):∀kvs:List (κ×V),zC1 kvs k=none->zC1 (kvs++[(k,y)]) j=if j=k then some y else zC1 kvs j
 | [],_=>by
  by_cases e:k=j
  . rw[if_pos e.symm];exact zB8 (p:=(k,y)) e
  . rw[if_neg (fun z=>e z.symm)];exact zB9 (p:=(k,y)) e
 | p::r,hn=>by
  rw[zB5]
  have hk:¬ p.1=k:=fun z=>by rw[zB8 z] at hn;cases hn
  rw[zB9 hk] at hn
  have ih:=zGC k j y r hn
  by_cases e:p.1=j
  . rw[zB8 e,zB8 e,if_neg (fun z=>hk (e.trans z))]
  . rw[zB9 e,zB9 e,ih]
theorem zEF (kvs:List (κ×V))(k j:κ)(y:V):zC1 (zD5 kvs k y) j=if j=k then some y else zC1 kvs j:=by
 unfold zD5
 by_cases a:(kvs.any fun kv=>decide (kv.1=k))=true
 . rw[if_pos a,zHV]
   rw[zCe] at a
   by_cases e:j=k
   . obtain⟨x,hx⟩:=zBt.mp a
     rw[if_pos e,e,hx,zBT,if_pos rfl]
   . rw[if_neg e]
     cases zC1 kvs j with
     | none=>rfl
     | some x=>rw[zBT,if_neg e]
 . rw[if_neg a]
   refine zGC k j y kvs ?_
   rw[zCe] at a
   cases q:zC1 kvs k with
   | none=>rfl
   | some x=>rw[q] at a;exact (a rfl).elim
theorem zCu (kvs:List (κ×V))(k:κ)(v:V):(zD5 kvs k v).length<=kvs.length+1:=by
 unfold zD5
 split
 . rw[zE];omega
 . rw[zB,zY,zA3];omega
theorem zFj {kvs:List (κ×V)}{k:κ}(v:V)(h:zC1 kvs k=none):zD5 kvs k v=kvs++[(k,v)]:=by
 unfold zD5
 rw[zCe,h]
 exact if_neg (by decide)
theorem zF9.isSome_eq {o:Option V}{u:Option Value}(r:zF9 o u):o.isSome=u.isSome:=by
 cases o with
 | none=>cases u with
  | none=>rfl
  | some _=>exact (show False from r).elim
 | some _=>cases u with
  | none=>exact (show False from r).elim
  | some _=>rfl
theorem zF9.getD {o:Option V}{u:Option Value}{d:V}{d':Value}(r:zF9 o u)(rd:zBe d d'):zBe (o.getD d) (u.getD d'):=by
 cases o with
 | none=>cases u with
  | none=>exact rd
  | some _=>exact (show False from r).elim
 | some _=>cases u with
  | none=>exact (show False from r).elim
  | some _=>exact r
theorem KV.val {kvs:List (κ×V)}{vs:List (κ×Value)}(r:KV kvs vs)(k:κ):zF9 (zC1 kvs k) (valueAt vs k):=by
 unfold KV at r
 induction r with
 | nil=>exact True.intro
 | @cons p q ps qs h t ih=>
  obtain⟨h1,h2⟩:=h
  by_cases e:p.1=k
  . have e':q.1=k:=h1.symm.trans e
    have b:valueAt (q::qs) k=some q.2:=by simp[valueAt,List.find?_cons,e']
    rw[zB8 e,b];exact h2
  . have e':¬ q.1=k:=fun z=>e (h1.trans z)
    have b:valueAt (q::qs) k=valueAt qs k:=by simp[valueAt,List.find?_cons,e']
    rw[zB9 e,b];exact ih
theorem KV.any {kvs:List (κ×V)}{vs:List (κ×Value)}(r:KV kvs vs)(k:κ):(kvs.any fun kv=>decide (kv.1=k))=vs.any fun kv=>decide (kv.1=k):=by
 unfold KV at r
 induction r with
 | nil=>rfl
 | cons h t ih=>rw[List.any_cons,List.any_cons,ih,h.1]
theorem KV.repl {kvs:List (κ×V)}{vs:List (κ×Value)}(r:KV kvs vs)(k:κ){y:V}{u:Value}(ry:zBe y u) :
 KV (kvs.map fun kv=>if kv.1=k then (kv.1,y) else kv) (vs.map fun kv=>if kv.1=k then (kv.1,u) else kv):=by
 unfold KV at r ⊢
 induction r with
 | nil=>exact .nil
 | @cons p q ps qs h t ih=>
  rw[zAG,zAG]
  refine .cons ?_ ih
  obtain⟨h1,h2⟩:=h
  by_cases e:p.1=k
  . rw[if_pos e,if_pos (h1.symm.trans e)];exact⟨h1,ry⟩
  . rw[if_neg e,if_neg (fun z=>e (h1.trans z))];exact⟨h1,h2⟩
theorem KV.put {kvs:List (κ×V)}{vs:List (κ×Value)}(r:KV kvs vs)(k:κ){y:V}{u:Value}(ry:zBe y u):KV (zD5 kvs k y) (stored vs k u):=by
 unfold zD5 stored
 rw[r.any k]
 by_cases e:(vs.any fun kv=>decide (kv.1=k))=true
 . rw[if_pos e,if_pos e];exact r.repl k ry
 . rw[if_neg e,if_neg e];exact Paired.snoc r ⟨rfl,ry⟩
theorem KV.length {kvs:List (κ×V)}{vs:List (κ×Value)}(r:KV kvs vs):kvs.length=vs.length:=Paired.length r
end
theorem zIh {P:Program}{w:World}{k:Key}{u:Value}(r:zBe (kV k) u):(zBE P w).is k u=true:=by
 cases k with
 | inl i=>obtain⟨t,e⟩:=(show ∃t,u=Value.int i t from r);subst e;exact zHE P w i t
 | inr x=>obtain⟨t,e⟩:=(show ∃t,u=Value.str x t from r);subst e;exact zHD P w x t
theorem zGb {P:Program}{w:World}:∀{ks:List Key}{us:List Value},zBB (ks.map kV) us->ItemsAre (zBE P w) ks us
 | [],_,r=>by rw[List.map_nil] at r;cases r;exact .nil
 | k::ks,_,r=>by
  rw[zAG] at r
  cases r with
  | cons h t=>exact .cons (zIh h) (zGb t)
noncomputable abbrev KT (H:Hp):List (List Key×V)->List (List Key×Addr×Value)->Prop:=Paired fun p q=>p.1=q.1/\H q.2.1=some (.tup (p.1.map kV))/\zBe p.2 q.2.2
theorem KT.val {H:Hp}{kvs:List (List Key×V)}{xs:List (List Key×Addr×Value)}(r:KT H kvs xs)(k:List Key):zF9 (zC1 kvs k) ((atKey xs k).map (·.2)):=by
 induction r with
 | nil=>exact True.intro
 | @cons p q ps qs h t ih=>
  obtain⟨h1,_,h2⟩:=h
  by_cases e:p.1=k
  . have e':q.1=k:=h1.symm.trans e
    have b:atKey (q::qs) k=some q.2:=by simp[atKey,List.find?_cons,e']
    rw[zB8 e,b];exact h2
  . have e':¬ q.1=k:=fun z=>e (h1.trans z)
    have b:atKey (q::qs) k=atKey qs k:=by simp[atKey,List.find?_cons,e']
    rw[zB9 e,b];exact ih
theorem KT.repl {H:Hp}{kvs:List (List Key×V)}{xs:List (List Key×Addr×Value)}(r:KT H kvs xs)(k:List Key){y:V}{u:Value}(ry:zBe y u) :
 KT H (kvs.map fun kv=>if kv.1=k then (kv.1,y) else kv) (xs.map (putAt k u)):=by
 induction r with
 | nil=>exact .nil
 | @cons p q ps qs h t ih=>
  rw[zAG,zAG]
  refine .cons ?_ ih
  obtain⟨h1,h2,h3⟩:=h
  unfold putAt
  by_cases e:p.1=k
  . rw[if_pos e,if_pos (h1.symm.trans e)];exact⟨h1,h2,ry⟩
  . rw[if_neg e,if_neg (fun z=>e (h1.trans z))];exact⟨h1,h2,h3⟩
theorem KT.put {H:Hp}{kvs:List (List Key×V)}{xs:List (List Key×Addr×Value)}(r:KT H kvs xs)(k:List Key){b:Addr}{y:V}{u:Value}(hb:H b=some (.tup (k.map kV)))(ry:zBe y u) :
 KT H (zD5 kvs k y) (storedH xs k b u):=by
 have e:(kvs.any fun kv=>decide (kv.1=k))=(atKey xs k).isSome:=by
  rw[zCe,(r.val k).isSome_eq,Option.isSome_map]
 unfold zD5 storedH
 rw[e]
 by_cases q:(atKey xs k).isSome=true
 . rw[if_pos q,if_pos q];exact r.repl k ry
 . rw[if_neg q,if_neg q];exact Paired.snoc r ⟨rfl,hb,ry⟩
theorem KT.keeps {H H':Hp}{kvs:List (List Key×V)}{xs:List (List Key×Addr×Value)}(r:KT H kvs xs)(ht:∀b ys,H b=some (.tup ys)->H' b=some (.tup ys)):KT H' kvs xs:=
 Paired.mapP r fun _ _ z=>⟨z.1,ht _ _ z.2.1,z.2.2⟩
section
variable {P:Program}{w:World}{H:Hp}{h:Heap}{a:Addr}
theorem rd_of {u:HO}(ok:HOk P w H h)(e:Rd H a u):zBY P w H h a u:=e.ok ok
theorem zIn {kvs:List (Key×V)}(ok:HOk P w H h)(e:Rd H a (.dK kvs)):kvs.length<=sizeLine/\(a==sysModules)=false/\∃vs,KV kvs vs/\h.DictOf (zBE P w) a vs:=
 show zBY P w H h a (.dK kvs) from rd_of ok e
theorem dk_of {kvs:List (Key×V)}(ok:HOk P w H h)(e:H a=some (.dK kvs)):kvs.length<=sizeLine/\(a==sysModules)=false/\∃vs,KV kvs vs/\h.DictOf (zBE P w) a vs:=zIn ok (.inl e)
theorem zGZ {ks:List Key}(ok:HOk P w H h)(e:H a=some (.tup (ks.map kV))):(tupleKind (zBE P w)).is h ks a:=by
 obtain⟨_,its,r,o,h1,h2,n,h3⟩:=(show zBY P w H h a (.tup (ks.map kV)) from ok a _ e)
 exact⟨o,its.toArray,n,h1,h2,h3,by simpa using zGb r⟩
theorem zIm {kvs:List (List Key×V)}(ok:HOk P w H h)(e:Rd H a (.dT kvs)):kvs.length<=sizeLine/\(a==sysModules)=false /\
 ∃xs,KT H kvs xs/\h.DictOfH (tupleKind (zBE P w)) a xs:=by
 obtain⟨z,y,xs,r,o,es,ep,h1,h2,h3,h4,h5⟩:=(show zBY P w H h a (.dT kvs) from rd_of ok e)
 refine⟨z,y,xs,r,o,es,ep,h1,h2,h3,h4,fun x hx=>?_,h5⟩
 have all:∀{l:List (List Key×V)}{m:List (List Key×Addr×Value)},KT H l m->∀x∈m,(tupleKind (zBE P w)).is h x.1 x.2.1:=by
  intro l m q
  induction q with
  | nil=>intro x hx;exact nomatch hx
  | @cons p q ps qs hq t ih=>
   intro x hx
   rcases zR.mp hx with e | hx
   . subst e
     exact zGZ ok (by rw[<-hq.1];exact hq.2.1)
   . exact ih x hx
 exact all r x hx
theorem dt_of {kvs:List (List Key×V)}(ok:HOk P w H h)(e:H a=some (.dT kvs)):kvs.length<=sizeLine/\(a==sysModules)=false /\
 ∃xs,KT H kvs xs/\h.DictOfH (tupleKind (zBE P w)) a xs:=zIm ok (.inl e)
end
noncomputable def zII (H:Hp)(a:Addr)(y:V)(r:Option V):Prop:=
 (∃kvs k,Rd H a (.dK kvs)/\y=kV k/\r=zC1 kvs k)\/∃kvs k b,Rd H a (.dT kvs)/\y = .ref b/\H b=some (.tup (k.map kV))/\r=zC1 kvs k
noncomputable def DPut (H:Hp)(a:Addr)(y v:V)(H':Hp):Prop:=
 (∃kvs k,H a=some (.dK kvs)/\y=kV k/\kvs.length<sizeLine/\H'=upd H a (.dK (zD5 kvs k v))) \/
 ∃kvs k b,H a=some (.dT kvs)/\y = .ref b/\H b=some (.tup (k.map kV))/\kvs.length<sizeLine/\H'=upd H a (.dT (zD5 kvs k v))
theorem zII.k {H:Hp}{a:Addr}{kvs:List (Key×V)}{k:Key}(e:H a=some (.dK kvs)):zII H a (kV k) (zC1 kvs k):=.inl ⟨kvs,k,.inl e,rfl,rfl⟩
theorem zII.t {H:Hp}{a b:Addr}{kvs:List (List Key×V)}{k:List Key}(e:H a=some (.dT kvs))(eb:H b=some (.tup (k.map kV))):zII H a (.ref b) (zC1 kvs k):=.inr ⟨kvs,k,b,.inl e,rfl,eb,rfl⟩
theorem DPut.t {H:Hp}{a b:Addr}{kvs:List (List Key×V)}{k:List Key}{v:V}(e:H a=some (.dT kvs))(eb:H b=some (.tup (k.map kV)))(hl:kvs.length<sizeLine) :
 DPut H a (.ref b) v (upd H a (.dT (zD5 kvs k v))):=.inr ⟨kvs,k,b,e,rfl,eb,hl,rfl⟩
section
variable {X:Cx}{pins:List (Addr×Obj)}{σ:St}{H:Hp}{s:Shared}{a:Addr}{y v:V}{u r:Value}{o:Option V}{A:Around}{E:Value->Shared->Prop}
theorem Inv.big (I:Inv X pins σ H s):sysModules<s.heap.objs.size:=by
 have h:mainGlobals<s.heap.objs.size:=(I.mod.glob.keeps I.bk).lt
 exact Nat.lt_trans (by decide) h
theorem zKK {Q:Value->Shared->Prop}(hu:A.units+1<cLine)(I:Inv X pins σ H s)(g:zII H a y (some v))(ry:zBe y u)(h:∀w' s',Inv X pins σ H s'->zBe v w'->Q w' s') :
 wpAny (model X.prog X.w) A (getItem (.ref a) u) Q E s:=by
 rcases g with ⟨kvs,k,e,ey,l⟩ | ⟨kvs,k,b,e,ey,eb,l⟩
 . subst ey
   obtain⟨z,hd,vs,rel,dd⟩:=zIn I.hok e
   obtain⟨w',hw,rw'⟩:=zF9.some_of (v:=v) (o:=valueAt vs k) (by rw[l];exact rel.val k)
   exact wpAny_getItem_of (zIh ry) dd.mapOf hw (h w' _ (I.tok _) rw')
 . subst ey
   cases (show u=Value.ref b from ry)
   obtain⟨z,hd,xs,rel,dd⟩:=zIm I.hok e
   obtain⟨w',hw,rw'⟩:=zF9.some_of (v:=v) (o:=(atKey xs k).map (·.2)) (by rw[l];exact rel.val k)
   obtain⟨p,hp,hp2⟩:=zBV.mp hw
   refine wpAny_getItem_heap (tupleKind_room_in1 hu) (zGZ I.hok eb) dd hp ?_
   rw[hp2]
   exact h w' _ (I.tok _) rw'
theorem d_in {Q:Value->Shared->Prop}(hu:A.units+1<cLine)(I:Inv X pins σ H s)(g:zII H a y o)(ry:zBe y u)(h:∀s',Inv X pins σ H s'->Q (.bool o.isSome) s') :
 wpAny (model X.prog X.w) A (compareOp .In u (.ref a)) Q E s:=by
 rcases g with ⟨kvs,k,e,ey,l⟩ | ⟨kvs,k,b,e,ey,eb,l⟩
 . subst ey
   obtain⟨z,hd,vs,rel,dd⟩:=zIn I.hok e
   refine wpAny_in_of (zIh ry) hd dd.mapOf ?_
   rw[<-(rel.val k).isSome_eq,<-l]
   exact h _ (I.tok _)
 . subst ey
   cases (show u=Value.ref b from ry)
   obtain⟨z,hd,xs,rel,dd⟩:=zIm I.hok e
   refine wpAny_in_heap (tupleKind_room_in1 hu) (zGZ I.hok eb) hd dd ?_
   have q:=(rel.val k).isSome_eq
   rw[Option.isSome_map] at q
   rw[<-q,<-l]
   exact h _ (I.tok _)
theorem zHM {h':Heap}{t':Nat}{ob:HO}(I:Inv X pins σ H s)(mu:Mut (H a))(hs:Heap.SameBut a s.heap h')(he:∃q,h'.get? a=some q)(new:zBY X.prog X.w (upd H a ob) h' a ob) :
 Inv X pins σ (upd H a ob) { s with heap:=h',toks:=t' }:=
 I.write (x:=a) (e:=a) mu (.inl rfl) (fun b q hb z=>(hs.2 b hb).trans z) he new
theorem zL4 {P:Program}{w:World}{H':Hp}{h':Heap}{kvs:List (Key×V)}{vs:List (Key×Value)}(z:kvs.length<=sizeLine)(hd:(a==sysModules)=false)(rel:KV kvs vs)(dd:h'.DictOf (zBE P w) a vs) :
 zBY P w H' h' a (.dK kvs):=⟨z,hd,vs,rel,dd⟩
theorem zKJ {H':Hp}{Q:Unit->Shared->Prop}(hu:A.units+1<cLine)(I:Inv X pins σ H s)(g:DPut H a y v H')(ry:zBe y u)(rv:zBe v r)(h:∀s',Inv X pins σ H' s'->Q () s') :
 wpAny (model X.prog X.w) A (setItem (.ref a) u r) Q E s:=by
 rcases g with ⟨kvs,k,e,ey,l,eH⟩ | ⟨kvs,k,b,e,ey,eb,l,eH⟩
 . subst ey eH
   obtain⟨z,hd,vs,rel,dd⟩:=dk_of I.hok e
   have hz:vs.length<=sizeLine:=by rw[<-rel.length];exact z
   have hl:(zD5 kvs k v).length<=sizeLine:=by have:=zCu kvs k v;omega
   refine wpAny_setItem_pairs (hsz:=hz) (zIh ry) dd fun h' dd' hs=>h _ ?_
   have he:∃q,h'.get? a=some q:=let ⟨q,_,_,hq,_⟩:=dd';⟨q,hq⟩
   exact zHM I (by rw[e];exact True.intro) hs he (zL4 hl hd (rel.put k rv) dd')
 . subst ey eH
   cases (show u=Value.ref b from ry)
   obtain⟨z,hd,xs,rel,dd⟩:=dt_of I.hok e
   have hz:xs.length<=sizeLine:=by rw[<-Paired.length rel];exact z
   have hl:(zD5 kvs k v).length<=sizeLine:=by have:=zCu kvs k v;omega
   refine wpAny_setItem_heap (hsz:=hz) (tupleKind_room_in1 hu) (zGZ I.hok eb) dd fun h' dd' hs=>h _ ?_
   obtain⟨q,es,ep,hq,h2,h3,h4,_,h5⟩:=dd'
   refine zHM I (by rw[e];exact True.intro) hs ⟨q,hq⟩ ⟨hl,hd,_,(rel.put k eb rv).keeps fun c ys ec=>?_,q,es,ep,hq,h2,h3,h4,h5⟩
   rw[zf (zDe ec e (fun z=>nomatch z))]
   exact ec
end
section
variable {X:Cx}{pins:List (Addr×Obj)}{σ:St}{H:Hp}{s:Shared}{a:Addr}{kvs:List (Key×V)}{k:Key}{u:Value}{A:Around}{E:Value->Shared->Prop}
end
noncomputable def NoSl (i:Expr):Prop:=∀ov iv,subscripted i false ov iv=operate [ov,iv] (getItem ov iv)
theorem zMG {prog:Program}{w:World}{A:Around}{E:Value->Shared->Prop}{s:Shared}{env:Env}{value slice:Expr}{pos:Pos}{T id:String}{Q:Value->Shared->Prop}
 (hl:typeLookup (.type T) "__getitem__" = pure (some (.builtin id))) (hs:NoSl slice)
 (h:wpAny (model prog w) A (eval value env) (fun o s₁=>wpAny (model prog w) A (eval slice env) (fun i s₂=>s₂.TypeIs o T/\wpAny (model prog w) A (getItem o i) Q E s₂) E s₁) E s) :
 wpAny (model prog w) A (eval (.Subscript value slice pos) env) Q E s:=by
 refine Subscript_ (zAJ h (fun o s₁ h₁=>zAJ h₁ (fun i s₂ h₂=>?_) fun _ _ x=>x) fun _ _ x=>x)
 obtain⟨hT,h₂⟩:=h₂
 unfold subscriptTail
 refine zA ?_
 rw[getitemInPython_of_ne hT.not_modules]
 refine zA (wpAny_specialOf hT hl ?_)
 have fin:wpAny (model prog w) A (subscripted slice false o i) (fun r s₃=>wpAny (model prog w) A (letTemporaryGo value o r >>= fun _=>pure r) Q E s₃) E s₂:=by
  rw[hs o i]
  exact wpAny_operating (zAJ h₂ (fun r s₃ h₃=>zA (wpAny_letTemporaryGo (zD h₃))) fun _ _ x=>x)
 first
  | exact zD (zA fin)
  | exact zA (zD (zA fin))
  | exact zA fin
theorem zHL {X:Cx}{pins:List (Addr×Obj)}{σ:St}{H:Hp}{s:Shared}{a:Addr}{y:V}{o:Option V}(I:Inv X pins σ H s)(g:zII H a y o):s.TypeIs (.ref a) "dict" := by
 rcases g with ⟨kvs,k,e,_,_⟩ | ⟨kvs,k,b,e,_,_,_⟩
 . obtain⟨_,_,vs,_,dd⟩:=zIn I.hok e
   exact dd.typeIs
 . obtain⟨_,_,xs,_,dd⟩:=zIm I.hok e
   exact dd.typeIs
noncomputable def tDGet (td ty:TE):TE:=fun σ H Q=>td σ H fun x H1=>ty σ H1 fun y H2=>∃a v,x = .ref a/\zII H2 a y (some v)/\Q v H2
noncomputable def tDIn (ty td:TE):TE:=fun σ H Q=>ty σ H fun y H1=>td σ H1 fun x H2=>∃a o,x = .ref a/\zII H2 a y o/\Q (.bl o.isSome) H2
noncomputable def sDPut (td ty tv:TE):TS:=fun D σ H=>tv σ H fun v H1=>td σ H1 fun x H2=>ty σ H2 fun y H3=>∃a H4,x = .ref a/\DPut H3 a y v H4/\D.nx σ H4
section
variable {X:Cx}{o i e value:Expr}{pos pos' tpos:Pos}{td ty tv:TE}
theorem zMV (hu:X.A.units+1<cLine)(ho:PE X o td)(hi:PE X i ty)(hs:NoSl i):PE X (.Subscript o i pos) (tDGet td ty):=by
 intro pins s σ H Q I h
 refine zMG PySem.F.slot_dict_getitem.lookup hs (thn (ho pins s σ H _ I h) fun u s1 ⟨x,H1,I1,rx,q1⟩=>thn (hi pins s1 σ H1 _ I1 q1) fun iv s2 ⟨y,H2,I2,ry,a,v,ex,g,q2⟩=>?_)
 subst ex
 obtain rfl:u=Value.ref a:=rx
 exact⟨zHL I2 g,zKK hu I2 g ry fun w' s3 I3 rw'=>⟨v,H2,I3,rw',q2⟩⟩
theorem pc_din (hu:X.A.units+1<cLine)(hi:PE X i ty)(ho:PE X o td):PC X .In i o (tDIn ty td):=by
 intro pins s σ H Q I h
 refine thn (hi pins s σ H _ I h) fun iv s1 ⟨y,H1,I1,ry,q1⟩=>thn (ho pins s1 σ H1 _ I1 q1) fun u s2 ⟨x,H2,I2,rx,a,ov,ex,g,q2⟩=>?_
 subst ex
 obtain rfl:u=Value.ref a:=rx
 exact d_in hu I2 g ry fun s3 I3=>⟨.bl ov.isSome,H2,I3,rfl,q2⟩
theorem zG5 (hu:X.A.units+1<cLine)(ho:PE X o td)(hi:PE X i ty)(hv:PE X value tv)(hs:swapsWith value (some (.Subscript o i pos')) pos.line X.env=pure false) :
 PS X (.Assign [.Subscript o i pos'] value pos) (sDPut td ty tv):=by
 intro pins s σ H D I h
 refine wpAny_Assign_Subscript (thn (hv pins s σ H _ I h) fun r s1 ⟨v,H1,I1,rv,q1⟩=>thn (ho pins s1 σ H1 _ I1 q1) fun u s2 ⟨x,H2,I2,rx,q2⟩=>thn (hi pins s2 σ H2 _ I2 q2) fun iv s3 ⟨y,H3,I3,ry,a,H4,ex,g,q3⟩=>?_) hs
 subst ex
 obtain rfl:u=Value.ref a:=rx
 exact zKJ hu I3 g ry rv fun s4 I4=>⟨σ,H4,I4,q3⟩
end
theorem zH6 {P:Program}{w:World}{H:Hp}(h:Heap)(hb:sysModules<h.objs.size):zBY P w H (h.push { cls:=.type "dict",data:=.dict #[] }) h.objs.size (.dK []):=
 ⟨zb _,beq_eq_false_iff_ne.mpr (Ne.symm (zh hb)),[],.nil,Heap.DictOf.new h⟩
theorem zLT {P:Program}{w:World}{H:Hp}(h:Heap)(hb:sysModules<h.objs.size):zBY P w H (h.push { cls:=.type "dict",data:=.dict #[] }) h.objs.size (.dT []):=
 ⟨zb _,beq_eq_false_iff_ne.mpr (Ne.symm (zh hb)),[],.nil,_,#[],0,zO _ rfl,⟨rfl,rfl,rfl⟩,rfl,rfl,List.nodup_nil⟩
noncomputable def tDNewK:TE:=fun _ H Q=>∀p,H p=none->Q (.ref p) (upd H p (.dK []))
noncomputable def tDNewT:TE:=fun _ H Q=>∀p,H p=none->Q (.ref p) (upd H p (.dT []))
section
variable {X:Cx}{pos:Pos}
theorem zK3:PE X (.Dict [] [] pos) tDNewK:=fun pins s σ H Q I h=>
 wpAny_Dict_empty ⟨.ref s.heap.objs.size,_,I.laid (a:=s.heap.objs.size) (o:=.dK []) (t':=s.toks) (fun _ _ q=>zI _ q) (zH _) (zH6 s.heap I.big),rfl,h _ (I.hok.fresh (zH _))⟩
theorem zK2:PE X (.Dict [] [] pos) tDNewT:=fun pins s σ H Q I h=>
 wpAny_Dict_empty ⟨.ref s.heap.objs.size,_,I.laid (a:=s.heap.objs.size) (o:=.dT []) (t':=s.toks) (fun _ _ q=>zI _ q) (zH _) (zLT s.heap I.big),rfl,h _ (I.hok.fresh (zH _))⟩
end
noncomputable def zI0:List (TE×TE)->St->Hp->(List (V×V)->Hp->Prop)->Prop
 | [],_,H,Q=>Q [] H
 | (tk,tv)::r,σ,H,Q=>tk σ H fun x H1=>tv σ H1 fun y H2=>zI0 r σ H2 fun ps H3=>Q ((x,y)::ps) H3
noncomputable abbrev VV:List (V×V)->List (Value×Value)->Prop:=Paired fun p q=>zBe p.1 q.1/\zBe p.2 q.2
noncomputable def PPs (X:Cx)(pos:Pos)(keys:List (Option Expr))(values:List Expr)(trs:List (TE×TE)):Prop:=
 ∀(pins:List (Addr×Obj))(s:Shared)(σ:St)(H:Hp)(Q:List (V×V)->Hp->Prop),Inv X pins σ H s->zI0 trs σ H Q ->
  wpAny (model X.prog X.w) X.A (evalPairs (pairTrees keys values X.env pos)) (fun vs s'=>∃ps H',Inv X pins σ H' s'/\VV ps vs/\Q ps H') X.xe s
theorem zJS {X:Cx}{pos:Pos}:PPs X pos [] [] []:=fun pins s σ H Q I h=>pairTrees_nil_walk ⟨[],H,I,.nil,h⟩
theorem zFk {X:Cx}{pos:Pos}{k v:Expr}{ks:List (Option Expr)}{vs:List Expr}{tk tv:TE}{trs:List (TE×TE)}(hk:PE X k tk)(hv:PE X v tv)(hr:PPs X pos ks vs trs) :
 PPs X pos (some k::ks) (v::vs) ((tk,tv)::trs):=fun pins s σ H Q I h=>
 pairTrees_cons_walk (thn (hk pins s σ H _ I h) fun u s1 ⟨x,H1,I1,rx,q1⟩=>thn (hv pins s1 σ H1 _ I1 q1) fun w2 s2 ⟨y,H2,I2,ry,q2⟩=>
  thn (hr pins s2 σ H2 _ I2 q2) fun ws s3 ⟨ps,H3,I3,rel,q3⟩=>⟨(x,y)::ps,H3,I3,.cons ⟨rx,ry⟩ rel,q3⟩)
noncomputable def zCy (kvs more:List (Key×V)):List (Key×V):=more.foldl (fun acc kv=>zD5 acc kv.1 kv.2) kvs
theorem KV.merge:∀{more:List (Key×V)}{rs:List (Key×Value)}{kvs:List (Key×V)}{vs:List (Key×Value)},KV more rs->KV kvs vs->KV (zCy kvs more) (merged vs rs):=by
 intro more rs kvs vs r
 unfold KV at r
 induction r generalizing kvs vs with
 | nil=>intro q;exact q
 | @cons p q ps qs h t ih=>
  intro r0
  have e:KV (zD5 kvs p.1 p.2) (stored vs q.1 q.2):=by
   have:=r0.put p.1 h.2
   rw[<-h.1];exact this
  exact ih e
theorem zDg:∀(more kvs:List (Key×V)),(zCy kvs more).length<=kvs.length+more.length
 | [],kvs=>by show kvs.length<=kvs.length+0;omega
 | p::r,kvs=>by
  have h1:=zDg r (zD5 kvs p.1 p.2)
  have h2:=zCu kvs p.1 p.2
  show (zCy (zD5 kvs p.1 p.2) r).length<=_
  rw[zY];omega
theorem zFY {P:Program}{w:World}:∀{kvs:List (Key×V)}{ws:List (Value×Value)},VV (kvs.map fun kv=>(kV kv.1,kv.2)) ws->∃rs,Carries (zBE P w) ws rs/\KV kvs rs
 | [],_,r=>by rw[List.map_nil] at r;cases r;exact⟨[],True.intro,.nil⟩
 | p::kvs,_,r=>by
  rw[zAG] at r
  cases r with
  | @cons a b as bs h t=>
   obtain⟨rs,c,q⟩:=zFY (P:=P) (w:=w) t
   obtain⟨b1,b2⟩:=b
   exact⟨(p.1,b2)::rs,⟨zIh h.1,rfl,c⟩,.cons ⟨rfl,h.2⟩ q⟩
noncomputable def tDisp (trs:List (TE×TE)):TE:=fun σ H Q=>∀p,H p=none->zI0 trs σ (upd H p (.dK [])) fun ps H2=>H2 p=some (.dK [])/\∃kvs:List (Key×V),ps=kvs.map (fun kv=>(kV kv.1,kv.2))/\kvs.length<=15/\Q (.ref p) (upd H2 p (.dK (zCy [] kvs)))
theorem zJc {X:Cx}{pos:Pos}{keys:List (Option Expr)}{values:List Expr}{trs:List (TE×TE)}(h:PPs X pos keys values trs)(hall:keys.all (·.isSome)=true)(hl:keys.length=values.length)(h0:keys≠[])
 (h15:keys.length<=15):PE X (.Dict keys values pos) (tDisp trs):=by
 intro pins s σ H Q I q
 have hn:=I.hok.fresh (zH s.heap.objs.size)
 have I1:=I.laid (a:=s.heap.objs.size) (o:=.dK []) (h':=s.heap.push { cls:=.type "dict",data:=.dict #[] }) (t':=s.toks) (fun _ _ q=>zI _ q) (zH _) (zH6 s.heap I.big)
 refine wpAny_Dict_walk (knd:=zBE X.prog X.w) hall hl h0 h15 (thn (h pins _ σ _ _ I1 (q _ hn)) fun ws s2 ⟨ps,H2,I2,rel,e,kvs,ep,lk,q2⟩=>?_)
 subst ep
 obtain⟨rs,c,rk⟩:=zFY (P:=X.prog) (w:=X.w) rel
 obtain⟨z,hd,vs0,r0,dd⟩:=dk_of I2.hok e
 cases r0
 refine⟨rs,c,dd,fun h' dd' hs=>⟨.ref s.heap.objs.size,_,?_,rfl,q2⟩⟩
 have hz:(zCy [] kvs).length<=sizeLine:=by
  have h1:=zDg kvs []
  rw[zA3] at h1
  rw[sizeLine_eq];omega
 have he:∃q,h'.get? s.heap.objs.size=some q:=let ⟨q,_,_,hq,_⟩:=dd';⟨q,hq⟩
 exact zHM I2 (by rw[e];exact True.intro) hs he (zL4 hz hd (rk.merge .nil) dd')
structure M2 (X:Cx)(o:Expr)(m:Str)(apos:Pos)(e f:Expr)(cpos:Pos):Prop where
 base:attributeBase o m X.env (eval o X.env)=eval o X.env
 few:((backTo cpos (starEach [e,f] X.env)).all (fun x=>!x.1) && (backToKw cpos (keywordEach [] X.env)).all (fun x=>x.1.isSome)
  && decide (([e,f]:List Expr).length+([]:List Keyword).length+(if ([]:List Keyword).isEmpty then 0 else 1)<30))=true
 line:(apos.endLine==cpos.line)=true
 trees:backTo cpos (starEach [e,f] X.env)=[(false,eval e X.env),(false,eval f X.env)]
noncomputable def IsD (H:Hp)(a:Addr):Prop:=(∃kvs,Rd H a (.dK kvs))\/∃kvs,Rd H a (.dT kvs)
theorem isD_at {X:Cx}{pins:List (Addr×Obj)}{σ:St}{H:Hp}{s:Shared}{a:Addr}(I:Inv X pins σ H s)(d:IsD H a) :
 s.TypeIs (.ref a) "dict" /\ (∀b,Value.ref a = .ref b->∃ob,s.heap.get? b=some ob/\ob.dict=none)/\(a==sysModules)=false:=by
 rcases d with ⟨kvs,e⟩ | ⟨kvs,e⟩
 . obtain⟨_,hd,vs,_,dd⟩:=zIn I.hok e
   refine⟨dd.typeIs,fun b q=>?_,hd⟩
   cases q
   obtain⟨ob,_,_,h1,h2,_⟩:=dd
   exact⟨ob,h1,h2.2.1⟩
 . obtain⟨_,hd,xs,_,dd⟩:=zIm I.hok e
   refine⟨dd.typeIs,fun b q=>?_,hd⟩
   cases q
   obtain⟨ob,_,_,h1,h2,_⟩:=dd
   exact⟨ob,h1,h2.2.1⟩
section
variable {X:Cx}{pins:List (Addr×Obj)}{σ:St}{H:Hp}{s:Shared}{a:Addr}{y d:V}{u r:Value}{o:Option V}{A:Around}{E:Value->Shared->Prop}
theorem d_get2 {Q:Value->Shared->Prop}(hu:A.units+1<cLine)(I:Inv X pins σ H s)(g:zII H a y o)(ry:zBe y u)(rd:zBe d r)(h:∀w' s',Inv X pins σ H s'->zBe (o.getD d) w'->Q w' s') :
 wpAny (model X.prog X.w) A (call (.builtin "dict.get") [.ref a,u,r]) Q E s:=by
 rcases g with ⟨kvs,k,e,ey,l⟩ | ⟨kvs,k,b,e,ey,eb,l⟩
 . subst ey
   obtain⟨z,hd,vs,rel,dd⟩:=zIn I.hok e
   refine call_meetsIn PySem.F.slot_dict_get dd.typeIs PySem.F.entry_dict_get (PySem.F.args_dict_get_3 _ _ _) (meets_dict_get_default (zBE X.prog X.w) a (zIh ry) hd r) ⟨_,dd.mapOf,h _ _ (I.tok _) ?_⟩
   rw[l]
   exact (rel.val k).getD rd
 . subst ey
   cases (show u=Value.ref b from ry)
   obtain⟨z,hd,xs,rel,dd⟩:=zIm I.hok e
   refine call_meetsIn PySem.F.slot_dict_get dd.typeIs PySem.F.entry_dict_get (PySem.F.args_dict_get_3 _ _ _) (meetsH_dict_get_default (tupleKind (zBE X.prog X.w)) a b hd r) ⟨tupleKind_room_in1 hu,k,xs,zGZ I.hok eb,dd,h _ _ (I.tok _) ?_⟩
   rw[l]
   exact (rel.val k).getD rd
end
noncomputable def tDGet2 (td ty tx:TE):TE:=fun σ H Q=>td σ H fun x H1=>∃a,x = .ref a/\IsD H1 a/\ty σ H1 fun y H2=>tx σ H2 fun z H3=>∃o,zII H3 a y o/\Q (o.getD z) H3
section
variable {X:Cx}{o e f:Expr}{apos cpos:Pos}{td ty tx:TE}
theorem zK4 (hu:X.A.units+1<cLine)(ho:PE X o td)(he:PE X e ty)(hf:PE X f tx)(m:M2 X o "get" apos e f cpos):PE X (.Call (.Attribute o "get" apos) [e,f] [] cpos) (tDGet2 td ty tx):=by
 intro pins s σ H Q I h
 refine wpAny_Call_method m.base m.few m.line PySem.F.plainAttrs_dict PySem.F.slot_dict_get PySem.F.type_dict_get (thn (ho pins s σ H _ I h) fun u s1 ⟨x,H1,I1,rx,a,ex,d,q1⟩=>?_)
 subst ex
 obtain rfl:u=Value.ref a:=rx
 obtain⟨t1,t2,_⟩:=isD_at I1 d
 refine⟨t1,t2,?_⟩
 rw[m.trees]
 refine Calls.callWith_builtin rfl (Calls.evalArgs_plain (Calls.spliced_cons (thn (he pins s1 σ H1 _ I1 q1) fun iv s2 ⟨y,H2,I2,ry,q2⟩=>
  Calls.spliced_cons (thn (hf pins s2 σ H2 _ I2 q2) fun fv s3 ⟨z,H3,I3,rz,ov,g,q3⟩=>Calls.spliced_nil ?_))))
 exact d_get2 hu I3 g ry rz fun w' s4 I4 rw'=>⟨_,H3,I4,rw',q3⟩
end
section
variable {X:Cx}{pins:List (Addr×Obj)}{σ:St}{H:Hp}{s:Shared}{a:Addr}{kvs:List (Key×V)}{A:Around}{E:Value->Shared->Prop}
end
section
variable {X:Cx}{pins:List (Addr×Obj)}{σ:St}{H:Hp}{s:Shared}{a:Addr}{y:V}{u:Value}{A:Around}{E:Value->Shared->Prop}
end
end L2
namespace HT
open PySem PyProof.Rows
noncomputable def lexLt:List Int->List Int->Bool
 | [],[]=>false
 | [],_::_=>true
 | _::_,[]=>false
 | x::xs,y::ys=>if x=y then lexLt xs ys else decide (x<y)
theorem lexLt_cons (x y:Int)(xs ys:List Int):lexLt (x::xs) (y::ys)=if x=y then lexLt xs ys else decide (x<y):=rfl
theorem zFr:lexLt [] []=false:=rfl
theorem zFB (y:Int)(ys:List Int):lexLt [] (y::ys)=true:=rfl
theorem zFC (x:Int)(xs:List Int):lexLt (x::xs) []=false:=rfl
theorem zLS (A:Around)(s:Shared)(a:Int)(t:Tok)(c:Int)(u:Tok):∃e,SeqAt.EqAt A s (.int a t) (.int c u) e/\(e=true↔a=c):=
 ⟨(a==c),SeqAt.EqAt.int_int a t c u,by simp⟩
theorem zKw (A:Around)(s:Shared)(a:Int)(t:Tok)(c:Int)(u:Tok)(prog:Program)(w:World)(E:Value->Shared->Prop)(Q:Value->Shared->Prop)(h:Q (.bool (decide (a<c))) s) :
 wpAny (model prog w) A (richCompare .Lt (.int a t) (.int c u)) Q E s:=
 (PyProof.Rows.lt_int h:wpAny (model prog w) A (compareOp .Lt (.int a t) (.int c u)) Q E s)
section
open PySem.SeqAt
open PySem.AutoSeq1 (wpAny_loadPart')
open PySem.MeetsSeq PySem.MeetsSeq2 PySem.MeetsSeq3
theorem zFb (l b:Addr)(items items2:Array Value)(n n2:Nat)(dd dd2:Option Addr)(sl sl2:Array (Option Value))(ns ms:List Int)(hi:IntsAre items.toList ns)(hj:IntsAre items2.toList ms) :
 Meets (Builtin.«tuple.__lt__» ⟨[.ref l,.ref b],[]⟩)
  (fun _ R s=>s.heap.get? l=some { cls:=.type "tuple",dict:=dd,data:=.seq items n,slots:=sl }/\s.heap.get? b=some { cls:=.type "tuple",dict:=dd2,data:=.seq items2 n2,slots:=sl2 } /\
   R (.ok (.ret (.bool (lexLt ns ms)))) s):=
 .of_wp fun prog w A R s h=>by
  obtain⟨hp,g,d,tk,os⟩:=s;obtain⟨hl,hb,h⟩:=h
  have f2:=AutoSeq1.sub_tuple_tuple
  have z1:items.size=ns.length:=by rw[<-hi.length];simp
  have z2:items2.size=ms.length:=by rw[<-hj.length];simp
  wp_walk using wpAny_loadPart' hl,wpAny_loadPart' hb,wpAny_forIn_list _ (fun rest b s'=>b.1=none/\s'=⟨hp,g,d,tk,os⟩/\∃(vs ws:List Value)(ns' ms':List Int),rest=vs.zip ws /\
   IntsAre vs ns'/\IntsAre ws ms'/\ns'.length+items2.size=ms'.length+items.size/\R (.ok (.ret (.bool (lexLt ns' ms')))) ⟨hp,g,d,tk,os⟩) _
  case turn=>
   rintro ⟨y,x⟩ rest b s' ⟨hb',rfl,vs,ws,ns',ms',hz,hvi,hwi,hlen,hR⟩
   cases hvi with
   | nil=>rw[List.zip_nil_left] at hz;cases hz
   | cons a t hvi'=>
    cases hwi with
    | nil=>rw[List.zip_nil_right] at hz;cases hz
    | cons c u hwi'=>
     rw[List.zip_cons_cons] at hz
     injection hz with hyx hrest
     injection hyx with hy hx
     subst hy hx
     rw[lexLt_cons] at hR
     simp only[zY] at hlen
     obtain⟨e,he,hiff⟩:=zLS A.in1 ⟨hp,g,d,tk,os⟩ a t c u
     refine zA (he prog w _ _ ?_)
     cases e with
     | true=>
      rw[if_pos (hiff.mp rfl)] at hR
      wp_walk
      exact⟨rfl,rfl,_,_,_,_,hrest,hvi',hwi',by omega,hR⟩
     | false=>
      rw[if_neg (fun q=>absurd (hiff.mpr q) zt)] at hR
      have hri:=zKw A.in1 ⟨hp,g,d,tk,os⟩ a t c u prog w
      wp_walk using hri
      exact⟨_,rfl,by simpa using hR⟩
  case fin=>
   rintro ⟨b1,b2⟩ s' ⟨hb',rfl,vs,ws,ns',ms',hz,hvi,hwi,hlen,hR⟩
   simp only at hb'
   subst hb'
   have hv:lexLt ns' ms'=decide (items.size<items2.size):=by
    cases hvi with
    | nil=>
     cases hwi with
     | nil=>
      simp only[zA3] at hlen
      rw[zFr]
      exact (zS (by omega)).symm
     | cons c u hw=>
      simp only[zA3,zY] at hlen
      rw[zFB]
      exact (zQ (by omega)).symm
    | cons a t hv=>
     cases hwi with
     | nil=>
      simp only[zA3,zY] at hlen
      rw[zFC]
      exact (zS (by omega)).symm
     | cons c u hw=>
      rw[List.zip_cons_cons] at hz
      cases hz
   rw[hv] at hR
   wp_walk
   exact⟨_,rfl,by simpa [Builtin.Tuple.tupleCompareSizes] using hR⟩
  case h=>
   exact⟨rfl,rfl,items.toList,items2.toList,ns,ms,rfl,hi,hj,by omega,h⟩
end
section
variable {prog:Program}{w:World}{A:Around}{E:Value->Shared->Prop}{s:Shared}
theorem lt_tupInts {l b:Addr}{items items2:Array Value}{ns ms:List Int}{Q:Value->Shared->Prop}(hl:IsTup s.heap l items)(hb:IsTup s.heap b items2)(hi:IntsAre items.toList ns)(hj:IntsAre items2.toList ms)
 (hu:A.units<cLine)(h:Q (.bool (lexLt ns ms)) s):wpAny (model prog w) A (compareOp .Lt (.ref l) (.ref b)) Q E s:=by
 obtain⟨⟨cls,dd,data,sl⟩,ho,hc,n,hd⟩:=id hl
 obtain⟨⟨cls2,dd2,data2,sl2⟩,ho2,hc2,n2,hd2⟩:=id hb
 simp only at hc hd hc2 hd2
 subst hc hd hc2 hd2
 exact richCompare_meets_room (op:=.Lt) ⟨_,ho,rfl⟩ ⟨_,ho2,rfl⟩ PySem.F.slot_tuple_lt PySem.F.entry_tuple_lt (PySem.F.args_tuple_lt_2 _ _) (zFb l b items items2 n n2 dd dd2 sl sl2 ns ms hi hj)
  ⟨ho,ho2,show Value.bool (lexLt ns ms)≠Value.notImplemented/\Q (.bool (lexLt ns ms)) s from ⟨(fun x=>nomatch x),h⟩⟩ hu
theorem cat_tup {t b:Addr}{vs ws:List Value}{Q:Value->Shared->Prop}(ht:IsTup s.heap t vs.toArray)(hb:IsTup s.heap b ws.toArray)(hv:vs≠[])
 (h1:ws=[]->Q (.ref t) s)(h2:ws≠[]->Q (.ref s.heap.objs.size) { s with heap:=s.heap.push { cls:=.type "tuple",data:=.seq (vs++ws).toArray } })
 (hsz:vs.length+ws.length<=sizeLine):wpAny (model prog w) A (binaryOp .Add (.ref t) (.ref b)) Q E s:=by
 obtain⟨⟨cls,dd,data,sl⟩,ho,hc,n,hd⟩:=id ht
 obtain⟨⟨cls2,dd2,data2,sl2⟩,ho2,hc2,n2,hd2⟩:=id hb
 simp only at hc hd hc2 hd2
 subst hc hd hc2 hd2
 have e:vs.toArray++ws.toArray=(vs++ws).toArray:=by simp
 by_cases hw:ws=[]
 . exact concat_meets ⟨_,ho,rfl⟩ ⟨_,ho2,rfl⟩ noFill_tuple_add seq_tuple_add PySem.F.slot_tuple_add PySem.F.entry_tuple_add (PySem.F.args_tuple_add_2 _ _)
    (tuple_addW1 t b vs.toArray ws.toArray n n2 dd dd2 sl sl2 (by simpa using hv) (by simp[hw])) ⟨ho,ho2,h1 hw⟩
 . refine concat_meets ⟨_,ho,rfl⟩ ⟨_,ho2,rfl⟩ noFill_tuple_add seq_tuple_add PySem.F.slot_tuple_add PySem.F.entry_tuple_add (PySem.F.args_tuple_add_2 _ _)
    (tuple_addW2 t b vs.toArray ws.toArray n n2 dd dd2 sl sl2 (by simpa using hv) (by simpa using hw) (by rw[zP,zP];exact hsz)) ⟨ho,ho2,?_⟩
   rw[e]
   exact h2 hw
noncomputable def sIx (n d:Nat):Option Int->Nat
 | none=>d
 | some v=>if v<0 then (v+(n:Int)).toNat else min v.toNat n
theorem sIx_none (n d:Nat):sIx n d none=d:=rfl
theorem sIx_nat (n d k:Nat):sIx n d (some (k:Int))=min k n:=by
 show (if (k:Int)<0 then ((k:Int)+(n:Int)).toNat else min (k:Int).toNat n)=min k n
 rw[if_neg (by omega),zAT]
theorem sIx_le (n d:Nat)(hd:d<=n)(o:Option Int):sIx n d o<=n:=by
 cases o with
 | none=>exact hd
 | some v=>
  show (if v<0 then (v+(n:Int)).toNat else min v.toNat n)<=n
  by_cases hv:v<0
  . rw[if_pos hv];omega
  . rw[if_neg hv];exact Nat.min_le_right _ _
theorem zKM (v:Int)(n d:Nat):(if v<0 then max (v+(n:Int)) 0 else min v (n:Int))=((sIx n d (some v):Nat):Int):=by
 show (if v<0 then max (v+(n:Int)) 0 else min v (n:Int))=(((if v<0 then (v+(n:Int)).toNat else min v.toNat n):Nat):Int)
 by_cases hv:v<0
 . simp only[if_pos hv];omega
 . simp only[if_neg hv];omega
theorem zIq (lo hi:Option Int) (n:Nat):Builtin.Slice.sliceAdjust lo hi 1 (n:Int)=(((sIx n 0 lo:Nat):Int),((sIx n n hi:Nat):Int)):=by
 have h1:¬ ((1:Int)<0):=by omega
 unfold Builtin.Slice.sliceAdjust
 simp only[h1,if_false]
 refine Prod.ext ?_ ?_
 . cases lo with
   | none=>rfl
   | some v=>exact zKM v n 0
 . cases hi with
   | none=>rfl
   | some v=>exact zKM v n n
theorem zIV (i j:Nat):Builtin.Slice.slicePlaces (i:Int) (j:Int) 1=j-i:=by
 unfold Builtin.Slice.slicePlaces
 have h1:(1:Int) > 0:=by omega
 simp only[h1,if_true,Int.ediv_one]
 split <;> omega
theorem zDs {v:Value} {o:Option Int} {Q:Option Int->Shared->Prop} (p:IsPart v o) (h:Q o s):wpAny (model prog w) A (Builtin.Slice.slicePartIndex v) Q E s:=by
 cases p with
 | none=>exact slicePart_none h
 | int i t=>exact slicePart_int h
theorem zCx {sl:Addr}{vl vu:Value}{lo hi:Option Int}{n:Nat}{Q:Int×Int×Nat->Shared->Prop}(hs:s.heap.IsSliceOf sl vl vu .none)(pl:IsPart vl lo)(pu:IsPart vu hi)
 (h:Q (((sIx n 0 lo:Nat):Int),1,sIx n n hi-sIx n 0 lo) s):wpAny (model prog w) A (Builtin.Slice.sliceApplied (.ref sl) (pure (n:Int))) Q E s:=by
 obtain⟨os,hos,hcs,hds⟩:=id hs
 unfold Builtin.Slice.sliceApplied Builtin.Slice.sliceFields
 refine zA (zA (wpAny_field hos hds (x:=vl) rfl (zA (wpAny_field hos hds (x:=vu) rfl (zA (wpAny_field hos hds (x:=.none) rfl (zD ?_)))))))
 refine zA (slicePart_none ?_)
 show wpAny _ _ (if ((1:Int)==0)=true then _ else _) _ _ s
 rw[if_neg (by decide)]
 refine zA (zDs pl (zA (zDs pu (zA (zD ?_)))))
 show wpAny _ _ (match Builtin.Slice.sliceAdjust lo hi 1 (n:Int) with | (lo,hi)=>pure (lo,(1:Int),Builtin.Slice.slicePlaces lo hi 1)) _ _ s
 rw[zIq lo hi n]
 show wpAny _ _ (pure (((sIx n 0 lo:Nat):Int),(1:Int),Builtin.Slice.slicePlaces ((sIx n 0 lo:Nat):Int) ((sIx n n hi:Nat):Int) 1)) _ _ s
 rw[zIV]
 exact zD h
theorem zK1 (xs:Array Value)(i k:Nat):((List.range k).filterMap fun (m:Nat)=>xs[((i:Int)+(m:Int)*1).toNat]?).toArray=((xs.toList.drop i).take k).toArray:=by
 have e:(fun (m:Nat)=>xs[((i:Int)+(m:Int)*1).toNat]?)=fun m=>xs[i+m]?:=by
  funext m
  have:((i:Int)+(m:Int)*1).toNat=i+m:=by omega
  rw[this]
 rw[e]
 have:=pick_run xs i k
 rw[List.filterMap_map] at this
 have e2:((fun x=>xs[x]?)∘fun x=>i+x)=fun m=>xs[i+m]?:=rfl
 rw[e2] at this
 rw[this]
theorem getItem_tuple_cut {t sl:Addr}{items:Array Value}{vl vu:Value}{lo hi:Option Int}{Q:Value->Shared->Prop}(ht:IsTup s.heap t items)(hs:s.heap.IsSliceOf sl vl vu .none)(pl:IsPart vl lo)(pu:IsPart vu hi)
 (hw:¬ (sIx items.size 0 lo=0/\sIx items.size items.size hi=items.size))
 (h:Q (.ref s.heap.objs.size) { s with heap:=s.heap.push { cls:=.type "tuple",data:=.seq ((items.toList.drop (sIx items.size 0 lo)).take (sIx items.size items.size hi-sIx items.size 0 lo)).toArray } })
 (hsz:items.size<=sizeLine):wpAny (model prog w) A (getItem (.ref t) (.ref sl)) Q E s:=by
 have htake:sizeOk (.seq ((items.toList.drop (sIx items.size 0 lo)).take (sIx items.size items.size hi-sIx items.size 0 lo)).toArray):=by
  show ((items.toList.drop (sIx items.size 0 lo)).take (sIx items.size items.size hi-sIx items.size 0 lo)).toArray.size<=sizeLine
  rw[zP,zd,zAR,Array.length_toList]
  omega
 have hj:sIx items.size items.size hi<=items.size:=sIx_le _ _ (zH _) hi
 obtain⟨os,hos,hcs,hds⟩:=id hs
 have hTs:s.TypeIs (.ref sl) "slice" := ⟨os,hos,hcs⟩
 unfold getItem
 try with_reducible refine zx ?_
 first | refine zA (zD ?_) | skip
 refine zA (wpAny_sequenceKey ht.typeIs (by decide) ?_)
 refine zA (zAh (name:=Str.ofString "__getitem__") ht.typeIs PyProof.Rows.slot_tuple_getitem
  (zAO PyProof.Rows.slot_tuple_getitem ht.typeIs entry_tuple_getitem ?_ (args_tuple_getitem _ _)))
 show wpAny _ _ (Builtin.Tuple.tupleItemsOf (.ref t) >>= _) _ _ s
 refine zA (tupleItemsOf_ ht ?_)
 refine zA (zBH hTs ?_)
 rw[if_pos (by decide)]
 refine zA (zCx hs pl pu ?_)
 have hno:¬ ((((sIx items.size 0 lo:Nat):Int)==0 && (1:Int)==1 && (sIx items.size items.size hi-sIx items.size 0 lo)==items.size)=true):=by
  intro q
  rw[zAC,zAC] at q
  have q1:((sIx items.size 0 lo:Nat):Int)=0:=eq_of_beq q.1.1
  have q2:sIx items.size items.size hi-sIx items.size 0 lo=items.size:=eq_of_beq q.2
  exact hw ⟨by omega,by omega⟩
 show wpAny _ _ (if (((sIx items.size 0 lo:Nat):Int)==0 && (1:Int)==1 && (sIx items.size items.size hi-sIx items.size 0 lo)==items.size)=true then _ else _) _ _ s
 rw[if_neg hno,zK1]
 first
  | exact zA (m:=Builtin.Tuple.tupleExact _) (zw (zD ⟨_,rfl,zD h⟩) htake)
  | exact zA (m:=Builtin.Tuple.tupleExact _) (zw (zA (zD (zD ⟨_,rfl,zD h⟩))) htake)
  | exact zA (zA (m:=Builtin.Tuple.tupleExact _) (zw (zD (zD ⟨_,rfl,zD h⟩)) htake))
  | exact zA (zA (m:=Builtin.Tuple.tupleExact _) (zw (zD ⟨_,rfl,zD h⟩) htake))
end
end HT
namespace L2
open PySem PySem.Spec PyProof.Rows
noncomputable abbrev TO:=St->Hp->(Option Int->Hp->Prop)->Prop
noncomputable def PO (X:Cx)(e:Option Expr)(t:TO):Prop:=
 ∀(pins:List (Addr×Obj))(s:Shared)(σ:St)(H:Hp)(Q:Option Int->Hp->Prop),Inv X pins σ H s->t σ H Q ->
  wpAny (model X.prog X.w) X.A (evalPart e X.env) (fun u s'=>∃o H',Inv X pins σ H' s'/\IsPart u o/\Q o H') X.xe s
noncomputable def zMC:TO:=fun _ H Q=>Q none H
noncomputable def tPart (t:TE):TO:=fun σ H Q=>t σ H fun x H1=>∃i,x = .int i/\Q (some i) H1
theorem zB1 {ns:List Int}:∀{us:List Value},zBB (ns.map V.int) us->IntsAre us ns:=by
 induction ns with
 | nil=>intro us r;rw[List.map_nil] at r;cases r;exact .nil
 | cons n ns ih=>
  intro us r
  rw[zAG] at r
  cases r with
  | cons r1 r2=>
   obtain⟨t,e⟩:=r1
   subst e
   exact .cons n t (ih r2)
section
variable {X:Cx}{e:Expr}{te:TE}{lo hi:Option Expr}{tl th:TO}{pos p2:Pos}
theorem zBP:PO X none zMC:=by
 intro pins s σ H Q I h
 rw[evalPart_none]
 exact zD ⟨none,H,I,.none,h⟩
theorem zBO (h:PE X e te):PO X (some e) (tPart te):=by
 intro pins s σ H Q I hw
 rw[evalPart_some]
 refine thn (h pins s σ H _ I hw) fun u s1 ⟨x,H1,I1,r1,q1⟩=>?_
 obtain⟨i,rfl,q⟩:=q1
 obtain⟨t,rfl⟩:=r1
 exact⟨some i,H1,I1,.int i t,q⟩
noncomputable def SlR (X:Cx)(r:V->Option Int->Option Int->Hp->VK->Prop):Prop:=
 ∀(pins:List (Addr×Obj))(s:Shared)(σ:St)(H:Hp)(x:V)(v vl vu:Value)(lo hi:Option Int)(sl:Addr)(Q:VK),Inv X pins σ H s->zBe x v->s.heap.IsSliceOf sl vl vu .none->IsPart vl lo->IsPart vu hi->r x lo hi H Q ->
  ∃T id,typeLookup (.type T) "__getitem__" = pure (some (.builtin id))/\s.TypeIs v T/\wpAny (model X.prog X.w) X.A (getItem v (.ref sl)) (EP X pins σ Q) X.xe s
noncomputable def tSl (r:V->Option Int->Option Int->Hp->VK->Prop)(te:TE)(tl th:TO):TE:=fun σ H Q=>te σ H fun x H1=>tl σ H1 fun l H2=>th σ H2 fun u H3=>r x l u H3 Q
theorem zA5 {r:V->Option Int->Option Int->Hp->VK->Prop}(hr:SlR X r)(he:PE X e te)(hl:PO X lo tl)(hu:PO X hi th):PE X (.Subscript e (.Slice lo hi none p2) pos) (tSl r te tl th):=by
 intro pins s σ H Q I h
 refine Subscript_ (thn (he pins s σ H _ I h) fun v s1 ⟨x,H1,I1,r1,q1⟩=>?_)
 refine wpAny_Slice (thn (hl pins s1 σ H1 _ I1 q1) fun vl s2 ⟨l,H2,I2,pl,q2⟩=>thn (hu pins s2 σ H2 _ I2 q2) fun vu s3 ⟨u,H3,I3,pu,q3⟩=>?_)
 rw[evalPart_none]
 refine zD ?_
 have I4:Inv X pins σ H3 { s3 with heap:=s3.heap.push { cls:=.type "slice",data:=.fields #[vl,vu,.none] } }:=I3.kept (t':=s3.toks) fun b ob q=>zI _ q
 obtain⟨T,id,hT,ht,hg⟩:=hr pins { s3 with heap:=s3.heap.push { cls:=.type "slice",data:=.fields #[vl,vu,.none] } } σ H3 x v vl vu l u s3.heap.objs.size Q I4 r1 (Heap.IsSliceOf.new ..) pl pu q3
 show wpAny (model X.prog X.w) X.A (subscriptTail e (.Slice lo hi none p2) v (.ref s3.heap.objs.size)) (EP X pins σ Q) X.xe { s3 with heap:=s3.heap.push { cls:=.type "slice",data:=.fields #[vl,vu,.none] } }
 exact tail_any (ops:=[.ref s3.heap.objs.size,v]) ht hT hg (by with_unfolding_all rfl)
noncomputable def zEM (xs:List V)(lo hi:Option Int):List V:=(xs.drop (HT.sIx xs.length 0 lo)).take (HT.sIx xs.length xs.length hi-HT.sIx xs.length 0 lo)
theorem zE1 (xs:List V)(lo hi:Option Int):(zEM xs lo hi).length<=xs.length:=by
 unfold zEM
 rw[zd,zAR]
 omega
noncomputable def rSlT (K:PySem.W.Frag):V->Option Int->Option Int->Hp->VK->Prop:=fun x lo hi H Q=>∃a xs,x = .ref a/\SqT K H a xs /\
 ¬ (HT.sIx xs.length 0 lo=0/\HT.sIx xs.length xs.length hi=xs.length)/\∀p,H p=none->Q (.ref p) (upd H p (.tup (zEM xs lo hi)))
theorem sl_tup:SlR X (rSlT X.K):=by
 intro pins s σ H x v vl vu lo hi sl Q I rx hs pl pu h
 obtain⟨a,xs,rfl,hx,hw,q⟩:=h
 cases rx
 obtain⟨its,r,ht,hz⟩:=I.tuple hx
 have hlen:its.toArray.size=xs.length:=by rw[zP];exact r.length.symm
 refine⟨"tuple",_,PyProof.Rows.slot_tuple_getitem.lookup,ht.typeIs,?_⟩
 refine HT.getItem_tuple_cut ht hs pl pu (by rw[hlen];exact hw) ?_ (by rw[hlen];exact hz)
 rw[hlen]
 refine⟨.ref s.heap.objs.size,_,I.laid (t':=s.toks) (o:=.tup (zEM xs lo hi)) (fun b ob q=>zI _ q) (zH _) ?_,rfl,q _ (I.hok.fresh (zH _))⟩
 exact⟨⟨zz (zE1 xs lo hi) hz,_,zO _ rfl,rfl⟩,_,(r.drop (HT.sIx xs.length 0 lo)).take (HT.sIx xs.length xs.length hi-HT.sIx xs.length 0 lo),IsTup.new _ _⟩
noncomputable def rCatT (K:PySem.W.Frag):R2:=fun x y H Q=>∃a b xs ys,x = .ref a/\y = .ref b/\SqT K H a xs/\SqT K H b ys/\xs≠[]/\xs.length+ys.length<=sizeLine /\
 (ys=[]->Q (.ref a) H)/\(ys≠[]->∀p,H p=none->Q (.ref p) (upd H p (.tup (xs++ys))))
theorem zBB.nil_iff {xs:List V}{us:List Value}(r:zBB xs us):us=[]↔xs=[]:=by
 cases r with
 | nil=>simp
 | cons _ _=>simp
theorem zMZ:OpR X (binaryOp .Add) (rCatT X.K):=by
 intro pins s σ H x y v u Q I rx ry h
 obtain⟨a,b,xs,ys,rfl,rfl,ha,hb,hx,hz,q1,q2⟩:=h
 cases rx
 cases ry
 obtain⟨its,r1,p1,_⟩:=I.tuple ha
 obtain⟨its2,r2,p2,_⟩:=I.tuple hb
 refine HT.cat_tup p1 p2 (fun z=>hx (r1.nil_iff.mp z)) (fun z=>⟨.ref a,H,I,rfl,q1 (r2.nil_iff.mp z)⟩) (fun z=>?_) (by rw[<-r1.length,<-r2.length];exact hz)
 refine⟨.ref s.heap.objs.size,_,I.laid (t':=s.toks) (o:=.tup (xs++ys)) (fun b ob q=>zI _ q) (zH _) ?_,rfl,q2 (fun w=>z (r2.nil_iff.mpr w)) _ (I.hok.fresh (zH _))⟩
 exact⟨⟨by rw[zB];exact hz,_,zO _ rfl,rfl⟩,_,r1.append r2,IsTup.new _ _⟩
end
end L2
namespace L2
open PySem PySem.Spec PyProof.Rows
noncomputable def ixN (n:Nat)(i:Int):Option Nat:=if 0<=i then (if i<n then some i.toNat else none) else if -(n:Int)<=i then some (i+n).toNat else none
noncomputable def atI {α:Type}(xs:List α)(i:Int):Option α:=(ixN xs.length i).bind fun j=>xs[j]?
theorem zJ0 {n:Nat}{i:Int}{j:Nat}(h:ixN n i=some j):seqIndex? i n=some j/\j<n /\ -(n:Int)<=i/\i<n:=by
 unfold ixN at h
 by_cases h0:0<=i
 . rw[if_pos h0] at h
   by_cases h1:i<n
   . rw[if_pos h1] at h
     have e:i.toNat=j:=zm h
     exact⟨by rw[seqIndex_of h0 h1,e],by omega,by omega,h1⟩
   . rw[if_neg h1] at h;cases h
 . rw[if_neg h0] at h
   by_cases h1 : -(n:Int)<=i
   . rw[if_pos h1] at h
     have e:(i+n).toNat=j:=zm h
     exact⟨by rw[seqIndex_neg (by omega) h1,e],by omega,h1,by omega⟩
   . rw[if_neg h1] at h;cases h
theorem zKU {α:Type}{xs:List α}{i:Int}{v:α}(h:atI xs i=some v):∃j,seqIndex? i xs.length=some j/\xs[j]? = some v/\j<xs.length /\ -(xs.length:Int)<=i/\i<xs.length:=by
 unfold atI at h
 cases e:ixN xs.length i with
 | none=>rw[e] at h;cases h
 | some j=>
  rw[e] at h
  obtain⟨h1,h2,h3,h4⟩:=zJ0 e
  exact⟨j,h1,h,h2,h3,h4⟩
theorem zCC {α:Type}{xs:List α}{j:Nat}{v:α}(h:xs[j]? = some v):atI xs (j:Int)=some v:=by
 have hj:j<xs.length:=(zM.mp h).1
 have e:ixN xs.length (j:Int)=some j:=by
  unfold ixN
  rw[if_pos (by omega),if_pos (by omega)];simp
 unfold atI;rw[e];exact h
noncomputable def zKY (b:Expr):Prop:=∀o i,subscripted b false o i=operate [o,i] (getItem o i)
noncomputable def IxR (X:Cx)(r:R2):Prop:=
 ∀(value slice:Expr)(pins:List (Addr×Obj))(s:Shared)(σ:St)(H:Hp)(x y:V)(v u:Value)(Q:VK),Inv X pins σ H s->zBe x v->zBe y u->r x y H Q ->
  subscripted slice false v u=operate [v,u] (getItem v u)->wpAny (model X.prog X.w) X.A (subscriptTail value slice v u) (EP X pins σ Q) X.xe s
noncomputable def MtR (X:Cx)(id:String)(r:V->List V->Hp->VK->Prop):Prop:=
 ∀(pins:List (Addr×Obj))(s:Shared)(σ:St)(H:Hp)(x:V)(xs:List V)(v:Value)(us:List Value)(Q:VK),Inv X pins σ H s->zBe x v->zBB xs us->r x xs H Q ->
  wpAny (model X.prog X.w) X.A (call (.builtin id) (v::us)) (EP X pins σ Q) X.xe s
section
variable {X:Cx}{a b:Expr}{ta tb:TE}{pos:Pos}
theorem zAM {r:R2}(hr:IxR X r)(ha:PE X a ta)(hb:PE X b tb)(hs:zKY b):PE X (.Subscript a b pos) (tOp r ta tb):=by
 intro pins s σ H Q I h
 exact Subscript_ (binT ha hb I h fun v u s2 x y H2 I2 rx ry q=>hr a b pins s2 σ H2 x y v u Q I2 rx ry q (hs _ _))
noncomputable def rIxL (K:PySem.W.Frag):R2:=fun x y H Q=>∃p xs i v,x = .ref p/\y = .int i/\SqL K H p xs/\atI xs i=some v/\Q v H
noncomputable def rIxT (K:PySem.W.Frag):R2:=fun x y H Q=>∃p xs i v,x = .ref p/\y = .int i/\SqT K H p xs/\atI xs i=some v/\Q v H
theorem zAw:IxR X (rIxL X.K):=by
 intro value slice pins s σ H x y v u Q I rx ry h hs
 obtain⟨p,xs,i,z,rfl,rfl,hq,he,q⟩:=h
 cases rx
 obtain⟨t,rfl⟩:=ry
 obtain⟨its,r,pl,hz⟩:=I.list hq
 obtain⟨j,h1,h2,h3,h4,h5⟩:=zKU he
 obtain⟨w,ew,rw'⟩:=r.get h2
 have hl:=r.length
 have hn:=zHs
 have fin:EP X pins σ Q w s:=⟨z,H,I,rw',q⟩
 by_cases h0:0<=i
 . have hj:i.toNat=j:=by
    rw[seqIndex_of h0 h5] at h1
    exact zm h1
   exact item_listR pl.isList h0 (by omega) (by rw[hj];simpa using ew) fin hs
 . have hj:(i+(its.toArray.size:Int)).toNat=j:=by
    rw[seqIndex_neg (by omega) h4] at h1
    rw[zP,<-hl]
    exact zm h1
   exact subscriptTail_builtinR (x:=w) pl.isList.typeIs slot_list_getitem.lookup
    (wpAny_getItem_list_neg (Q:=fun r s'=>r=w/\EP X pins σ Q r s') pl.isList (by omega) (by rw[zP] <;> omega) (by omega) (by rw[hj];simpa using ew) ⟨rfl,fin⟩) hs
theorem zAP:IxR X (rIxT X.K):=by
 intro value slice pins s σ H x y v u Q I rx ry h hs
 obtain⟨p,xs,i,z,rfl,rfl,hq,he,q⟩:=h
 cases rx
 obtain⟨t,rfl⟩:=ry
 obtain⟨its,r,pl,hz⟩:=I.tuple hq
 obtain⟨j,h1,h2,h3,h4,h5⟩:=zKU he
 obtain⟨w,ew,rw'⟩:=r.get h2
 have hl:=r.length
 have hn:=zHs
 have fin:EP X pins σ Q w s:=⟨z,H,I,rw',q⟩
 exact subscriptTail_builtinR (x:=w) pl.typeIs slot_tuple_getitem.lookup
  (getItem_tuple (j:=j) (Q:=fun r s'=>r=w/\EP X pins σ Q r s') pl (by omega) (by omega) (by rw[zP,<-hl];exact h1) (by simpa using ew) ⟨rfl,fin⟩) hs
theorem zIb (its:List Value)(n j:Nat)(u:Value):Obj.mapSeq (·.setIfInBounds j u) { cls:=.type "list",data:=.seq its.toArray n }={ cls:=.type "list",data:=.seq (its.set j u).toArray n }:=by
 simp[Obj.mapSeq]
theorem Inv.lst {pins:List (Addr×Obj)}{σ:St}{H:Hp}{s:Shared}{p:Addr}{xs:List V}(I:Inv X pins σ H s)(h:H p=some (.lst xs)) :
 ∃(its:List Value)(n:Nat),zBB xs its/\s.heap.get? p=some { cls:=.type "list",data:=.seq its.toArray n }/\xs.length<=sizeLine:=by
 obtain⟨z,its,n,r,e⟩:=I.hok p _ h
 exact⟨its,n,r,e,z⟩
theorem Inv.lstUpd {pins:List (Addr×Obj)}{σ:St}{H:Hp}{s:Shared}{p:Addr}{xs ys:List V}{its its':List Value}{n n':Nat}{f:Obj->Obj}(I:Inv X pins σ H s)(h:H p=some (.lst xs))
 (ho:s.heap.get? p=some { cls:=.type "list",data:=.seq its.toArray n }) (hf:f { cls:=.type "list",data:=.seq its.toArray n }={ cls:=.type "list",data:=.seq its'.toArray n' }) (r:zBB ys its')(hz:ys.length<=sizeLine)(t:Nat) :
 Inv X pins σ (upd H p (.lst ys)) { s with heap:=s.heap.update p f,toks:=t }:=by
 have e:(s.heap.update p f).get? p=some { cls:=.type "list",data:=.seq its'.toArray n' }:=by
  rw[zv f ho (by rw[hf] <;> rfl),hf]
 refine I.write (x:=p) (e:=p) (by rw[h];trivial) (.inl rfl) (fun b u hb q=>(zAn _ _ (Ne.symm hb)).trans q) ⟨_,e⟩ ?_
 exact⟨hz,its',n',r,e⟩
noncomputable def rSetL:V->V->V->Hp->(Hp->Prop)->Prop:=fun o i v H Q=>∃p xs k j,o = .ref p/\i = .int k/\H p=some (.lst xs)/\ixN xs.length k=some j/\Q (upd H p (.lst (xs.set j v)))
theorem zFf:PSet X rSetL:=by
 intro pins s σ H o i v ov iv u Q I ro ri rv h
 obtain⟨p,xs,k,j,rfl,rfl,hp,hj,q⟩:=h
 cases ro
 obtain⟨t,rfl⟩:=ri
 obtain⟨its,n,r,ho,hz⟩:=I.lst hp
 obtain⟨h1,h2,h3,h4⟩:=zJ0 hj
 have hl:=r.length
 have hn:=zHs
 have I':Inv X pins σ (upd H p (.lst (xs.set j v))) { s with heap:=s.heap.update p (Obj.mapSeq (·.setIfInBounds j u)) }:=
  I.lstUpd hp ho (zIb its n j u) (r.set rv j) (by rw[List.length_set];exact hz) s.toks
 by_cases h0:0<=k
 . have hk:k.toNat=j:=by
    rw[seqIndex_of h0 h4] at h1
    exact zm h1
   exact PySem.W.ki_setAt ho h0 (by omega) (by rw[zP,<-hl];exact h4) (by rw[hk];exact⟨_,I',q⟩)
 . have hk:(k+(its.toArray.size:Int)).toNat=j:=by
    rw[seqIndex_neg (by omega) h3] at h1
    rw[zP,<-hl]
    exact zm h1
   exact PySem.W.ki_setBack ho (by omega) (by rw[zP,<-hl];exact h3) (by omega) (by rw[hk];exact⟨_,I',q⟩)
theorem zGI (lo hi:Option Int)(n:Nat):(sliceBounds lo hi none n).1=((HT.sIx n 0 lo:Nat):Int)/\(sliceBounds lo hi none n).2.1=((HT.sIx n n hi:Nat):Int)/\(sliceBounds lo hi none n).2.2=1:=by
 refine⟨?_,?_,rfl⟩
 . cases lo with
   | none=>simp[sliceBounds,HT.sIx]
   | some i=>
    simp only[sliceBounds,HT.sIx,Option.getD_none,show (1:Int) > 0 by decide,if_true]
    by_cases h:i<0
    . simp only[h,if_true] <;> omega
    . simp only[h,if_false] <;> omega
 . cases hi with
   | none=>simp[sliceBounds,HT.sIx]
   | some i=>
    simp only[sliceBounds,HT.sIx,Option.getD_none,show (1:Int) > 0 by decide,if_true]
    by_cases h:i<0
    . simp only[h,if_true] <;> omega
    . simp only[h,if_false] <;> omega
theorem zFd (its:List Value)(lo hi:Option Int):slicePick its.toArray lo hi none=((its.drop (HT.sIx its.length 0 lo)).take (HT.sIx its.length its.length hi-HT.sIx its.length 0 lo)).toArray:=by
 obtain⟨h1,h2,h3⟩:=zGI lo hi its.toArray.size
 unfold slicePick
 rw[h1,h2,h3]
 simp only[sliceRange_one,pick_run,zP] <;> rfl
noncomputable def rSlL (K:PySem.W.Frag):V->Option Int->Option Int->Hp->VK->Prop:=fun x lo hi H Q=>∃a xs,x = .ref a/\SqL K H a xs/\∀p,H p=none->Q (.ref p) (upd H p (.lst (zEM xs lo hi)))
theorem zC2:SlR X (rSlL X.K):=by
 intro pins s σ H x v vl vu lo hi sl Q I rx hs pl pu h
 obtain⟨a,xs,rfl,hx,q⟩:=h
 cases rx
 obtain⟨its,r,ht,hz⟩:=I.list hx
 have hlen:=r.length
 refine⟨"list",_,slot_list_getitem.lookup,ht.isList.typeIs,?_⟩
 refine wpAny_getItem_list_slice ht.isList hs pl pu .none (by simp) ?_ (by rw[zP] <;> omega)
 rw[zFd,<-hlen]
 refine⟨.ref s.heap.objs.size,_,I.laid (t':=s.toks) (o:=.lst (zEM xs lo hi)) (fun b ob q=>zI _ q) (zH _) ?_,rfl,q _ (I.hok.fresh (zH _))⟩
 exact⟨zz (zE1 xs lo hi) hz,_,0,(r.drop (HT.sIx xs.length 0 lo)).take (HT.sIx xs.length xs.length hi-HT.sIx xs.length 0 lo),zO _ rfl⟩
noncomputable def zFG:V->Bool
 | .non=>true
 | .bl _=>true
 | .int _=>true
 | .str _=>true
 | _=>false
noncomputable def eqV:V->V->Bool
 | .non,.non=>true
 | .bl a,.bl b=>a==b
 | .bl a,.int b=>(if a then 1 else 0)==b
 | .int a,.bl b=>a==(if b then 1 else 0)
 | .int a,.int b=>a==b
 | .str a,.str b=>a==b
 | _,_=>false
theorem eqAt_V {A:Around}{s:Shared}{y x:V}{u v:Value}(ry:zBe y u)(rx:zBe x v)(fy:zFG y=true)(fx:zFG x=true):SeqAt.EqAt A s u v (eqV y x):=by
 cases y with
 | non=>
  cases ry
  cases x with
  | non=>cases rx;exact SeqAt.EqAt.same _
  | bl b=>cases rx;exact SeqAt.EqAt.none_bool b
  | int b=>obtain⟨t,rfl⟩:=rx;exact SeqAt.EqAt.none_int b t
  | str b=>obtain⟨t,rfl⟩:=rx;exact SeqAt.EqAt.none_str b t
  | _=>exact absurd (show false=true from fx) zt
 | bl a=>
  cases ry
  cases x with
  | non=>cases rx;exact SeqAt.EqAt.bool_none a
  | bl b=>cases rx;exact SeqAt.EqAt.bool_bool a b
  | int b=>obtain⟨t,rfl⟩:=rx;exact SeqAt.EqAt.bool_int a b t
  | str b=>obtain⟨t,rfl⟩:=rx;exact SeqAt.EqAt.bool_str a b t
  | _=>exact absurd (show false=true from fx) zt
 | int a=>
  obtain⟨t',rfl⟩:=ry
  cases x with
  | non=>cases rx;exact SeqAt.EqAt.int_none a t'
  | bl b=>cases rx;exact SeqAt.EqAt.int_bool a t' b
  | int b=>obtain⟨t,rfl⟩:=rx;exact SeqAt.EqAt.int_int a t' b t
  | str b=>obtain⟨t,rfl⟩:=rx;exact SeqAt.EqAt.int_str a t' b t
  | _=>exact absurd (show false=true from fx) zt
 | str a=>
  obtain⟨t',rfl⟩:=ry
  cases x with
  | non=>cases rx;exact SeqAt.EqAt.str_none a t'
  | bl b=>cases rx;exact SeqAt.EqAt.str_bool a t' b
  | int b=>obtain⟨t,rfl⟩:=rx;exact SeqAt.EqAt.str_int a t' b t
  | str b=>obtain⟨t,rfl⟩:=rx;exact SeqAt.EqAt.str_str a t' b t
  | _=>exact absurd (show false=true from fx) zt
 | _=>exact absurd (show false=true from fy) zt
noncomputable def eqU (x:V)(u:Value):Bool:=match u with
 | .none=>eqV .non x
 | .bool b=>eqV (.bl b) x
 | .int i _=>eqV (.int i) x
 | .str z _=>eqV (.str z) x
 | _=>false
theorem zL2 {x y:V}{u:Value}(r:zBe y u)(f:zFG y=true):eqU x u=eqV y x:=by
 cases y with
 | non=>cases r;rfl
 | bl b=>cases r;rfl
 | int i=>obtain⟨t,rfl⟩:=r;rfl
 | str z=>obtain⟨t,rfl⟩:=r;rfl
 | _=>exact absurd (show false=true from f) zt
theorem zE3 {x:V}:∀{xs:List V}{us:List Value},zBB xs us->xs.all zFG=true->us.any (eqU x)=xs.any fun y=>eqV y x
 | _,_,.nil,_=>rfl
 | y::xs,u::us,.cons r t,f=>by
  rw[List.all_cons,zAC] at f
  rw[List.any_cons,List.any_cons,zL2 r f.1,zE3 t f.2]
theorem zDf {A:Around}{s:Shared}{x:V}{v:Value}(rx:zBe x v)(fx:zFG x=true):∀{xs:List V}{us:List Value},zBB xs us->xs.all zFG=true->∀u∈us,SeqAt.EqAt A s u v (eqU x u)
 | _,_,.nil,_=>fun u hu=>by cases hu
 | y::xs,u::us,.cons r t,f=>fun u' hu=>by
  rw[List.all_cons,zAC] at f
  rcases zR.mp hu with rfl | hu
  . rw[zL2 r f.1];exact eqAt_V r rx f.1 fx
  . exact zDf rx fx t f.2 u' hu
noncomputable def inV (x:V)(xs:List V):Bool:=xs.any fun y=>eqV y x
noncomputable def rIn (K:PySem.W.Frag)(neg:Bool):R2:=fun x y H Q=>∃p xs,y = .ref p/\(SqL K H p xs\/SqT K H p xs)/\zFG x=true/\xs.all zFG=true/\Q (.bl (if neg then !inV x xs else inV x xs)) H
theorem zEe:OpR X (compareOp .In) (rIn X.K false):=by
 intro pins s σ H x y v u Q I rx ry h
 obtain⟨p,xs,rfl,hq,fx,fs,q⟩:=h
 cases ry
 rcases hq with hq | hq
 . obtain⟨its,r,pl,hz⟩:=I.list hq
   refine SeqAt.in_listAt (eqU x) pl.isList (fun w hw=>zDf rx fx r fs w (by simpa using hw)) ⟨.bl _,H,I,rfl,?_⟩
   rw[show its.toArray.any (eqU x)=its.any (eqU x) by simp,zE3 r fs]
   exact q
 . obtain⟨its,r,pl,hz⟩:=I.tuple hq
   refine SeqAt.in_tupleAt (eqU x) pl (fun w hw=>zDf rx fx r fs w (by simpa using hw)) ⟨.bl _,H,I,rfl,?_⟩
   rw[show its.toArray.any (eqU x)=its.any (eqU x) by simp,zE3 r fs]
   exact q
theorem zBj:OpR X (compareOp .NotIn) (rIn X.K true):=by
 intro pins s σ H x y v u Q I rx ry h
 obtain⟨p,xs,rfl,hq,fx,fs,q⟩:=h
 cases ry
 rcases hq with hq | hq
 . obtain⟨its,r,pl,hz⟩:=I.list hq
   refine SeqAt.notIn_listAt (eqU x) pl.isList (fun w hw=>zDf rx fx r fs w (by simpa using hw)) ⟨.bl _,H,I,rfl,?_⟩
   rw[show its.toArray.any (eqU x)=its.any (eqU x) by simp,zE3 r fs]
   exact q
 . obtain⟨its,r,pl,hz⟩:=I.tuple hq
   refine SeqAt.notIn_tupleAt (eqU x) pl (fun w hw=>zDf rx fx r fs w (by simpa using hw)) ⟨.bl _,H,I,rfl,?_⟩
   rw[show its.toArray.any (eqU x)=its.any (eqU x) by simp,zE3 r fs]
   exact q
theorem zy:zDI X (.builtin "len") (fun xs H Q=>∃p ys,xs=[.ref p]/\(SqL X.K H p ys\/SqT X.K H p ys)/\Q (.int ys.length) H):=by
 intro pins s σ H xs us Q I r h
 obtain⟨p,ys,rfl,hq,q⟩:=h
 obtain⟨u,rfl,rx⟩:=zE8 r
 cases rx
 have hn:=zHs
 rcases hq with hq | hq
 . obtain⟨its,r',pl,hz⟩:=I.list hq
   have hlen:=r'.length
   exact Calls.call_len_list pl.isList (by simp only[zP] <;> omega) ⟨.int ys.length,H,I.tok _,⟨s.toks+1,by rw[zP,hlen]⟩,q⟩
 . obtain⟨its,r',pl,hz⟩:=I.tuple hq
   have hlen:=r'.length
   exact len_tuple pl (by simp only[zP] <;> omega) ⟨.int ys.length,H,I.tok _,⟨s.toks+1,by rw[zP,hlen]⟩,q⟩
theorem zB3:zDI X (.type "list") (fun xs H Q=>∃p ys,xs=[.ref p]/\(SqL X.K H p ys\/SqT X.K H p ys)/\∀l,H l=none->Q (.ref l) (upd H l (.lst ys))):=by
 intro pins s σ H xs us Q I r h
 obtain⟨p,ys,rfl,hq,q⟩:=h
 obtain⟨u,rfl,rx⟩:=zE8 r
 cases rx
 have fin:∀(its:List Value),zBB ys its->ys.length<=sizeLine->∀(h':Heap)(c':Nat),(∀b o',s.heap.get? b=some o'->h'.get? b=some o') ->
  h'.get? s.heap.objs.size=some { cls:=.type "list",dict:=none,data:=.seq its.toArray c',slots:=#[] }->EP X pins σ Q (.ref s.heap.objs.size) { s with heap:=h' }:=fun its r' hz h' c' kp e=>
  ⟨.ref s.heap.objs.size,_,I.laid (t':=s.toks) kp (zH _) (show zBY X.prog X.w _ h' _ (.lst ys) from ⟨hz,its,c',r',e⟩),rfl,q _ (I.hok.fresh (zH _))⟩
 rcases hq with hq | hq
 . obtain⟨its,r',pl,hz⟩:=I.list hq
   have hlen:=r'.length
   obtain⟨o,ho,hc,n,hd⟩:=pl.isList
   exact call_list_seq p (.inl rfl) ho hc hd (fun h' c' kp e=>fin its r' hz h' c' kp e) (by simp only[zP] <;> omega)
 . obtain⟨its,r',pl,hz⟩:=I.tuple hq
   have hlen:=r'.length
   obtain⟨o,ho,hc,n,hd⟩:=pl
   exact call_list_seq p (.inr rfl) ho hc hd (fun h' c' kp e=>fin its r' hz h' c' kp e) (by simp only[zP] <;> omega)
theorem zAp:zDI X (.type "tuple") (fun xs H Q=>∃p ys,xs=[.ref p]/\((SqL X.K H p ys/\∀l,H l=none->Q (.ref l) (upd H l (.tup ys)))\/(SqT X.K H p ys/\Q (.ref p) H))):=by
 intro pins s σ H xs us Q I r h
 obtain⟨p,ys,rfl,h⟩:=h
 obtain⟨u,rfl,rx⟩:=zE8 r
 cases rx
 rcases h with ⟨hq,q⟩ | ⟨hq,q⟩
 . obtain⟨its,r',pl,hz⟩:=I.list hq
   have hlen:=r'.length
   refine call_tuple_list pl.isList (fun h' kp=>?_) (by simp only[zP] <;> omega)
   have I1:Inv X pins σ H { s with heap:=h' }:=I.kept (t':=s.toks) kp
   have I2:Inv X pins σ (upd H h'.objs.size (.tup ys)) { s with heap:=h'.push { cls:=.type "tuple",data:=.seq its.toArray } }:=
    I1.laid (t':=s.toks) (fun b o e=>zI _ e) (zH _) (show zBY X.prog X.w _ _ _ (.tup ys) from ⟨⟨hz,_,zO _ rfl,rfl⟩,its,r',IsTup.new _ _⟩)
   exact⟨.ref h'.objs.size,_,I2,rfl,q _ (I1.hok.fresh (zH _))⟩
 . obtain⟨its,r',pl,hz⟩:=I.tuple hq
   exact call_tuple_same pl ⟨.ref p,H,I,rfl,q⟩
noncomputable def tyV (K:PySem.W.Frag)(T:String)(x:V)(H:Hp):Prop:=match x with
 | .str _=>T = "str"
 | .int _=>T = "int"
 | .ref p=>(T = "list" /\ ∃xs,SqL K H p xs)\/(T = "tuple" /\ ∃o,K.lookup p=some o/\o.cls = .type "tuple" /\ o.dict=none) \/
  (T = "dict" /\ ((∃kvs,H p=some (.dK kvs))\/∃kvs,H p=some (.dT kvs)))\/(T = "set" /\ ∃S n,H p=some (.set S n))
 | _=>False
theorem zLb {pins:List (Addr×Obj)}{σ:St}{H:Hp}{s:Shared}{T:String}{x:V}{v:Value}(I:Inv X pins σ H s)(r:zBe x v)(ty:tyV X.K T x H) :
 s.TypeIs v T/\∀a,v = .ref a->∃ob,s.heap.get? a=some ob/\ob.dict=none:=by
 cases x with
 | str z=>
  obtain⟨t,rfl⟩:=r
  cases (show T = "str" from ty)
  exact⟨typeIs_str s z t,fun _ e=>nomatch e⟩
 | int i=>
  obtain⟨t,rfl⟩:=r
  cases (show T = "int" from ty)
  exact⟨typeIs_int s i t,fun _ e=>nomatch e⟩
 | ref p=>
  cases r
  rcases ty with ⟨rfl,xs,hq⟩ | ⟨rfl,o,hk,hc,hd⟩ | ⟨rfl,hk⟩ | ⟨rfl,S,n,hk⟩
  . obtain⟨its,_,pl,_⟩:=I.list hq
    refine⟨pl.isList.typeIs,fun a e=>?_⟩
    cases e
    obtain⟨o,n,e,c,hd,_⟩:=pl
    exact⟨o,e,hd⟩
  . refine⟨⟨o,I.kIn p o hk,hc⟩,fun a e=>?_⟩
    cases e
    exact⟨o,I.kIn _ o hk,hd⟩
  . have z:∃o,s.heap.get? p=some o/\o.ExactDict:=by
     rcases hk with ⟨kvs,hk⟩ | ⟨kvs,hk⟩
     . obtain⟨_,_,_,_,o,_,_,e,ex,_⟩:=I.hok p _ hk
       exact⟨o,e,ex⟩
     . obtain⟨_,_,_,_,o,_,_,e,ex,_⟩:=I.hok p _ hk
       exact⟨o,e,ex⟩
    obtain⟨o,e,ex⟩:=z
    refine⟨⟨o,e,ex.1⟩,fun a e2=>?_⟩
    cases e2
    exact⟨o,e,ex.2.1⟩
  . obtain⟨o,_,_,_,e,ex,_⟩:=I.hok p _ hk
    refine⟨⟨o,e,ex.1⟩,fun a e2=>?_⟩
    cases e2
    exact⟨o,e,ex.2.1⟩
 | _=>exact False.elim ty
noncomputable def tBM0 (K:PySem.W.Frag)(T:String)(r:V->List V->Hp->VK->Prop)(to:TE):TE:=fun σ H Q=>to σ H fun x H1=>tyV K T x H1/\r x [] H1 Q
noncomputable def tBM (K:PySem.W.Frag)(T:String)(r:V->List V->Hp->VK->Prop)(to:TE)(t:TA):TE:=fun σ H Q=>to σ H fun x H1=>tyV K T x H1/\t σ H1 fun xs H2=>r x xs H2 Q
variable {o e:Expr}{es:List Expr}{to:TE}{t:TA}{name:Str}{apos cpos:Pos}{T id:String}{r:V->List V->Hp->VK->Prop}
theorem pe_bm0 (pa:PlainAttrs T)(slot:Slot T name id)(hty:typeOf (.builtin id)=pure (.type "method_descriptor")) (hm:MtR X id r)(ho:PE X o to)
 (hbase:attributeBase o name X.env (eval o X.env)=eval o X.env:=by rfl)(hline:(apos.endLine==cpos.line)=true:=by rfl):PE X (.Call (.Attribute o name apos) [] [] cpos) (tBM0 X.K T r to):=by
 intro pins s σ H Q I h
 refine wpAny_Call_method0_late hbase hline (thn (ho pins s σ H _ I h) fun v s1 ⟨x,H1,I1,r1,ty,q1⟩=>?_)
 obtain⟨h1,h2⟩:=zLb I1 r1 ty
 exact⟨T,id,pa,slot,hty,h1,h2,Calls.callWith_builtin rfl (PySem.evalArgs_none (hm pins s1 σ H1 x [] v [] Q I1 r1 .nil q1))⟩
theorem zFn (pa:PlainAttrs T)(slot:Slot T name id)(hty:typeOf (.builtin id)=pure (.type "method_descriptor")) (hm:MtR X id r)(ho:PE X o to)(ha:PA X (e::es) t)
 (hbase:attributeBase o name X.env (eval o X.env)=eval o X.env:=by rfl)
 (hfew:((backTo cpos (starEach (e::es) X.env)).all (fun x=>!x.1) && (backToKw cpos (keywordEach [] X.env)).all (fun x=>x.1.isSome)
  && decide ((e::es).length+([]:List Keyword).length+(if ([]:List Keyword).isEmpty then 0 else 1)<30))=true:=by rfl)
 (hline:(apos.endLine==cpos.line)=true:=by rfl)(hs:starEach (e::es) X.env=(false,eval e X.env)::starEach es X.env:=by rfl)(hplain:(backTo cpos (starEach es X.env)).any (·.1)=false:=by rfl) :
 PE X (.Call (.Attribute o name apos) (e::es) [] cpos) (tBM X.K T r to t):=by
 intro pins s σ H Q I h
 refine wpAny_Call_method_late hbase hfew hline rfl (thn (ho pins s σ H _ I h) fun v s1 ⟨x,H1,I1,r1,ty,q1⟩=>?_)
 obtain⟨h1,h2⟩:=zLb I1 r1 ty
 refine⟨T,id,pa,slot,hty,h1,h2,?_⟩
 have hA:=ha cpos pins s1 σ H1 _ I1 q1
 rw[hs] at hA ⊢
 refine Calls.callWith_builtin (by show (false || (backTo cpos (starEach es X.env)).any (·.1))=false;rw[hplain] <;> rfl) (Calls.evalArgs_plain ?_)
 exact thn hA fun us s2 ⟨vs,H2,I2,r2,q2⟩=>hm pins s2 σ H2 x vs v us Q I2 r1 r2 q2
end
end L2
namespace L2
open PySem PySem.Spec PyProof.Rows
noncomputable def MtM (X:Cx)(id:String)(r:V->List V->Hp->VK->Prop):Prop:=
 ∀(pins:List (Addr×Obj))(s:Shared)(σ:St)(H:Hp)(x:V)(xs:List V)(v:Value)(us:List Value)(Q:VK),Inv X pins σ H s->zBe x v->zBB xs us->r x xs H Q ->
  wpAny (model X.prog X.w) X.A (call (.builtin id) (v::us)) (EP X pins σ Q) X.xe s
theorem zBB.one:∀{x:V}{us:List Value},zBB [x] us->∃u,us=[u]/\zBe x u
 | _,_,.cons r .nil=>⟨_,rfl,r⟩
theorem zBB.zero:∀{us:List Value},zBB [] us->us=[]
 | _,.nil=>rfl
theorem zBB.eraseIdx:∀{xs:List V}{us:List Value}(i:Nat),zBB xs us->zBB (xs.eraseIdx i) (us.eraseIdx i)
 | _,_,_,.nil=>.nil
 | _,_,0,.cons _ t=>t
 | _,_,i+1,.cons r t=>.cons r (zBB.eraseIdx i t)
theorem zBB.reverse {xs:List V}{us:List Value}(h:zBB xs us):zBB xs.reverse us.reverse:=by
 induction h with
 | nil=>exact .nil
 | cons r t ih=>rw[zBv,zBv];exact zBB.append ih (.cons r .nil)
theorem zGX {α:Type}:∀(l:List α)(i:Nat),(l.eraseIdx i).length<=l.length
 | [],_=>zH _
 | _::_,0=>zBl _
 | _::r,i+1=>Nat.succ_le_succ (zGX r i)
section
variable {X:Cx}{pins:List (Addr×Obj)}{σ:St}{H:Hp}{s:Shared}{l b:Addr}{xs ys zs:List V}
theorem Inv.lset {its its':List Value}{n:Nat}{f:Array Value->Array Value}{t':Nat}(I:Inv X pins σ H s)(hH:H l=some (.lst xs))
 (e:s.heap.get? l=some { cls:=.type "list",data:=.seq its.toArray n }) (hf:f its.toArray=its'.toArray)(hv:zBB ys its')(hz:ys.length<=sizeLine) :
 Inv X pins σ (upd H l (.lst ys)) { s with heap:=s.heap.update l (Obj.mapSeq f),toks:=t' }:=by
 have q:=PySem.IsL.update e f
 rw[hf] at q
 refine I.write (x:=l) (e:=l) (by rw[hH];exact trivial) (.inl rfl) (fun b' u hb hu=>(zAn s.heap (Obj.mapSeq f) (Ne.symm hb)).trans hu) ⟨_,q⟩ ?_
 exact⟨hz,its',_,hv,q⟩
theorem Inv.lnew {its:List Value}{t':Nat}(I:Inv X pins σ H s)(hv:zBB ys its)(hz:ys.length<=sizeLine) :
 Inv X pins σ (upd H s.heap.objs.size (.lst ys)) { s with heap:=s.heap.push { cls:=.type "list",data:=.seq its.toArray },toks:=t' }:=
 I.laid (fun _ _ q=>zI _ q) (zH _) ⟨hz,its,0,hv,zO _ rfl⟩
theorem Inv.fresh (I:Inv X pins σ H s):H s.heap.objs.size=none:=I.hok.fresh (zH _)
theorem Inv.lstM (I:Inv X pins σ H s)(hH:H l=some (.lst xs)):xs.length<=sizeLine/\∃(its:List Value)(n:Nat),zBB xs its/\xs.length=its.length/\s.heap.get? l=some { cls:=.type "list",data:=.seq its.toArray n }:=by
 obtain⟨z,its,n,r,e⟩:=I.hok l _ hH
 exact⟨z,its,n,r,r.length,e⟩
theorem zK8 {n:Nat}(h:n<=sizeLine):Builtin.List.listTooLong n=false:=by
 unfold Builtin.List.listTooLong
 exact zS (by omega)
end
section
variable {X:Cx}
noncomputable def zMO:V->List V->Hp->VK->Prop:=fun x vs H Q=>∃l xs y,x = .ref l/\vs=[y]/\H l=some (.lst xs)/\xs.length<sizeLine/\Q .non (upd H l (.lst (xs++[y])))
theorem zCY:MtM X "list.append" zMO:=by
 intro pins s σ H x vs v us Q I rx rv h
 obtain⟨l,xs,y,rfl,rfl,hH,hz,q⟩:=h
 cases rx
 obtain⟨u,rfl,ru⟩:=rv.one
 obtain⟨z,its,n,r,hl,e⟩:=I.lstM hH
 refine call_meets F.slot_list_append ⟨_,e,rfl⟩ F.entry_list_append (F.args_list_append_2 _ _) (PySem.list_append l its.toArray n u (by rw[zP];omega)) ⟨e,?_⟩
 refine⟨.non,_,I.lset (its':=its++[u]) hH e (by simp) (r.append (.cons ru .nil)) ?_,rfl,q⟩
 rw[zB,List.length_singleton]
 omega
noncomputable def rPopAt:V->List V->Hp->VK->Prop:=fun x vs H Q=>∃l xs i k y,x = .ref l/\vs=[.int i]/\H l=some (.lst xs) /\ -(2 ^ 63)<=i/\i<2 ^ 63/\seqIndex? i xs.length=some k/\xs[k]? = some y/\Q y (upd H l (.lst (xs.eraseIdx k)))
theorem zHq:MtM X "list.pop" rPopAt:=by
 intro pins s σ H x vs v us Q I rx rv h
 obtain⟨l,xs,i,k,y,rfl,rfl,hH,h1,h2,hk,hy,q⟩:=h
 cases rx
 obtain⟨u,rfl,ru⟩:=rv.one
 obtain⟨t,rfl⟩:=ru
 obtain⟨z,its,n,r,hl,e⟩:=I.lstM hH
 obtain⟨w,hw,rw'⟩:=r.get hy
 refine call_meets F.slot_list_pop ⟨_,e,rfl⟩ F.entry_list_pop (F.args_list_pop_2 _ _)
  (MeetsSeq.list_pop_at l its.toArray n i t k w (fitsIndex_both h1 h2) (by rw[zP,<-hl];exact hk) (by rw[<-Array.getElem?_toList];exact hw) (by rw[zP];omega)) ⟨e,?_⟩
 refine⟨y,_,I.lset (its':=its.eraseIdx k) hH e ?_ (r.eraseIdx k) ?_,rw',q⟩
 . show its.toArray.eraseIdxIfInBounds k=(its.eraseIdx k).toArray
   rw[List.eraseIdxIfInBounds_toArray]
 . have:=zGX xs k
   omega
noncomputable def zKx:V->List V->Hp->VK->Prop:=fun x vs H Q=>∃l xs,x = .ref l/\vs=[]/\H l=some (.lst xs)/\Q .non (upd H l (.lst xs.reverse))
theorem zIY:MtM X "list.reverse" zKx:=by
 intro pins s σ H x vs v us Q I rx rv h
 obtain⟨l,xs,rfl,rfl,hH,q⟩:=h
 cases rx
 have hus:=rv.zero
 subst hus
 obtain⟨z,its,n,r,hl,e⟩:=I.lstM hH
 refine call_meets F.slot_list_reverse ⟨_,e,rfl⟩ F.entry_list_reverse (F.args_list_reverse_1 _) (AutoSeq1.list_reverse_list_0 l its.toArray n (by rw[zP];omega)) ⟨e,?_⟩
 refine⟨.non,_,I.lset (its':=its.reverse) hH e (by simp) r.reverse ?_,rfl,q⟩
 rw[zBU]
 omega
noncomputable def rCat:R2:=fun x y H Q=>∃l b xs zs,x = .ref l/\y = .ref b/\H l=some (.lst xs)/\H b=some (.lst zs)/\xs.length+zs.length<=sizeLine/\∀p,H p=none->Q (.ref p) (upd H p (.lst (xs++zs)))
theorem zGW:OpR X (binaryOp .Add) rCat:=by
 intro pins s σ H x y v u Q I rx ry h
 obtain⟨l,b,xs,zs,rfl,rfl,hH,hB,hz,q⟩:=h
 cases rx
 cases ry
 obtain⟨z,its,n,r,hl,e⟩:=I.lstM hH
 obtain⟨z2,its2,n2,r2,hl2,e2⟩:=I.lstM hB
 refine PySem.P.add_list e e2 ?_ (by rw[zP,zP];omega)
 have ea:its.toArray++its2.toArray=(its++its2).toArray:=by simp
 rw[ea]
 exact⟨.ref _,_,I.lnew (t':=s.toks) (r.append r2) (by rw[zB];omega),rfl,q _ I.fresh⟩
end
section
variable {prog:Program}{w:World}{A:Around}{E:Value->Shared->Prop}{s:Shared}
set_option maxRecDepth 100000 in
end
section
variable {X:Cx}
end
end L2
namespace Att
open PySem PySem.W PySem.Calls PyProof.Rows
theorem zEt {P:Params}{h:Heap}:∀(ns:List Int)(vs:List Value),WellAll P h vs (ns.map WData.int)->IntsAre vs ns:=by
 intro ns
 induction ns with
 | nil=>
  intro vs w
  rw[List.map_nil] at w
  cases w
  exact .nil
 | cons n ns ih=>
  intro vs w
  rw[zAG] at w
  cases w with
  | cons a b=>
   cases a
   exact .cons _ _ (ih _ b)
theorem zJG {l:OpenLaw}{n:Nat}(hn:l.most=some n){P:Params}{h:Heap}{args:List WData}{vals:List Value}
 (hpre:l.row.toRowW.claim.pre args=true)(hwl:WellAll P h vals args) :
 ∃a vs ns,vals=[Value.ref a]/\args=[WData.list (ns.map WData.int)]/\h.get? a=some { cls:=.type "list",data:=.seq vs.toArray }/\IntsAre vs ns/\ns.length<=n:=by
 have hsh:WShape.hasAll [] args [.list .int]=true:=(pre_splitW hpre).1
 have hc:l.pre.holds [] { args:=args }=true:=(pre_splitW hpre).2
 obtain⟨d,r,rfl,h1,h2⟩:=hasAllW_cons hsh
 obtain rfl:=hasAllW_nil h2
 obtain⟨xs,rfl,h3⟩:=hasW_list h1
 obtain⟨ns,rfl⟩:=items_int h3
 have hlen:ns.length<=n:=by
  unfold OpenLaw.pre at hc
  have h4:(WTm.not (.lt (.lit (.int (n:Int))) (.len (.arg 0)))).holds [] { args:=[.list (ns.map .int)] }=true:=by
   have h4:=(holds_andW hc).1
   rw[hn] at h4
   exact h4
  have h5:=condW_of h4 (w_not (w_lt w_lit (w_len_list (w_arg rfl))))
  rw[zE] at h5
  refine Nat.le_of_not_lt fun q=>?_
  have q':(n:Int)<((ns.length:Nat):Int):=by omega
  first
   | (rw[zQ q'] at h5;exact absurd h5 (by decide))
   | (simp at h5;omega)
 cases hwl with
 | cons w1 w2=>
  cases w2
  cases w1 with
  | list ho hall=>exact⟨_,_,ns,rfl,rfl,ho,zEt ns _ hall,hlen⟩
theorem zJT (l:OpenLaw)(args:List WData):l.row.toRowW.claim.post args (.bool true) args=true:=
 postW_of (r:=l.row.toRowW) (X:=(true==true))
  (show WShape.has [] (.bool true) .bool=true by first | rfl | decide | simp[WShape.has,WShape.arms,WShape.armsAll])
  (show (WTm.eq .res (.lit (.bool true))).value [] { args:=args,res:=some (.bool true),after:=args }=some (.bool (true==true)) from w_eq_bool (w_res rfl) w_lit) rfl
theorem attach_call {l:OpenLaw}{n:Nat}{q:Program}{loose:List Str}{XP:(Str->Option Value)->Heap->Prop}{YP:World->Heap->Prop}{d:DefRec}
 (hn:l.most=some n)(hdf:d.params.defaults=[])
 (call:∀(w:World)(s₀ s₁:Shared)(mg mb:Str->Option Value)(fa:Addr)(o:Obj)(pm cd doc:Value)(a:Addr)(vs:List Value)(ns:List Int),
  Ground q loose [] XP w s₀ mg mb s₁.heap->YP w s₁.heap ->
  s₁.heap.get? fa=some o->o.data = .func (docDef d.name d.params d.body d.scope pm cd doc)->s₁.heap.CodeRec cd d.name->mg d.name=some (.ref fa) ->
  s₁.heap.get? a=some { cls:=.type "list",data:=.seq vs.toArray }->IntsAre vs ns->ns.length<=n->s₁.gens = #[] ->
  codeAny (model l.prog w) callerA (.call (.ref fa) ⟨[.ref a],[]⟩) (fun r s'=>r = .ok (.ret (.bool true))/\OldK s₁.heap s'.heap/\s'.os=s₁.os/\AllBare s'.gens) s₁) :
 WalkO q loose XP YP l.row.toRowW d [] (fun f vs=>PySem.call f vs):=by
 intro w s₀ s₁ mg mb G Y fa o pm cd doc dV kV ho hd hcd hD hmg hg args vals as hpre hlay hrd hwl hlo
 obtain rfl:dV = .none:=Dflts.none hD hdf
 obtain rfl:kV = .none:=Dflts.noKw hD
 obtain⟨a,vs,ns,rfl,rfl,hobj,hints,hlen⟩:=zJG hn hpre hwl
 refine enter_call (codeAny_mono (call w s₀ s₁ mg mb fa o pm cd doc a vs ns G Y ho (fd_plain hd) hcd hmg hobj hints hlen hg) fun r s' hq=>?_)
 obtain⟨rfl,h2,h3,h4⟩:=hq
 exact⟨.inl ⟨.bool true,.bool true,[],rfl,fun _=>rfl,.bool true,zJT l _,fun _=>⟨List.Pairwise.nil,fun _ hm=>(nomatch hm)⟩⟩,h2,h3,h4⟩
section
variable {prog:Program}{w:World}{A:Around}{E:Value->Shared->Prop}{s:Shared}{K:Frag}
end
end Att
namespace L2
open PySem PySem.Spec PyProof.Rows
theorem zGB:∀{vs:List Value}{ns:List Int},IntsAre vs ns->zBB (ns.map V.int) vs
 | _,_,.nil=>.nil
 | _,_,.cons n t h=>.cons ⟨t,rfl⟩ (zGB h)
noncomputable def Only (H:Hp):Prop:=∀b,H b=none\/∃o xs,H b=some (.frz o (.lst xs))
theorem zLB {P:Program}{w:World}{K:PySem.W.Frag}{mg mb:Str->Option Value}{CX:CXT}{k:Nat}{fa a:Addr}{fd:FuncData}{x:Str}{sp:Sp}{s₁:Shared}{vs:List Value}{ns:List Int}
 (KX:K.In s₁.heap)(hns:s₁.heap.Ns mainGlobals mg)(hb:s₁.heap.Ns builtinsNs mb)(hbb:∀x:Str,x ≠ "__name__" -> mb x=bootBuiltins x) (hlim:s₁.heap.NoLimit)(hg:s₁.gens = #[])
 (ha:s₁.heap.get? a=some { cls:=.type "list",data:=.seq vs.toArray }) (hi:IntsAre vs ns)(hl:ns.length<=sizeLine)(hr:zDo k callerA)
 (F:∀base:Heap,K.In base->base.Ns mainGlobals mg->zAs P w K mg base CX k fa fd [x] sp)(hbind:∀(s:Shared)(u:Value),BindsTo s fd ⟨[u],[]⟩ [(x,u)])
 (hsp:∀H:Hp,Only H->SqL K H a (ns.map V.int)->sp [.ref a] H (fun v _=>v = .bl true) fun _ _ _=>False)
 (hCX:∀H e s',CX [] H s₁ (fun _ _ _=>False) e s'->False) :
 codeAny (model P w) callerA (.call (.ref fa) ⟨[.ref a],[]⟩) (fun r s'=>r = .ok (.ret (.bool true))/\OldK s₁.heap s'.heap/\s'.os=s₁.os/\AllBare s'.gens) s₁:=by
 have rv:=zGB hi
 have lenV:=hi.length
 have core:∀H:Hp,Only H->SqL K H a (ns.map V.int)->HOk P w H s₁.heap->(∀b,H b≠none->b=a)->(H a≠none->K.lookup a=none) ->
  codeAny (model P w) callerA (.call (.ref fa) ⟨[.ref a],[]⟩) (fun r s'=>r = .ok (.ret (.bool true))/\OldK s₁.heap s'.heap/\s'.os=s₁.os/\AllBare s'.gens) s₁:=by
  intro H hO hS hok hA hK
  have base_of:∀{b:Addr}{o:Obj},s₁.heap.get? b=some o->H b=none->(zLH s₁.heap H).get? b=some o:=fun e n=>zLG e n
  have noA:∀{b:Addr}{o:Obj}{es:Array DictEntry}{ep:Nat},s₁.heap.get? b=some o->o.data = .dict es ep->H b=none:=fun {b o es ep} e d=>by
   cases q:H b with
   | none=>rfl
   | some u=>
    have e':b=a:=hA b (by rw[q];simp)
    subst e'
    rw[ha] at e;cases e
    have d':Data.seq vs.toArray _=Data.dict es ep:=d
    cases d'
  have nsK:∀{b:Addr}{m:Str->Option Value},s₁.heap.Ns b m->(zLH s₁.heap H).Ns b m:=fun {b m} ⟨o,es,ep,e,d,r⟩=>⟨o,es,ep,base_of e (noA e d),d,r⟩
  have hKb:K.In (zLH s₁.heap H):=fun b o e=>base_of (KX b o e) (by
   cases q:H b with
   | none=>rfl
   | some u=>
    have e':b=a:=hA b (by rw[q];simp)
    subst e'
    rw[hK (by rw[q];simp)] at e;cases e)
  have hM:Mod K mg (zLH s₁.heap H):=⟨hKb,nsK hns,⟨mb,nsK hb,hbb⟩,let ⟨mc,h1,h2⟩:=hlim;⟨mc,nsK h1,h2⟩⟩
  have e0:zM5 P w K mg (zLH s₁.heap H) callerA [] s₁ H:=⟨rfl,hM,fun b o e=>zMe e,Nat.le_of_eq (zJ6 _ _),trivial,fun b hb=>absurd (show b∈([]:List Addr) from hb) (by simp),hok,.of_eq hg⟩
  refine codeAny_mono ((F _ hKb (nsK hns)).run callerA [] s₁ H ⟨[.ref a],[]⟩ [.ref a] [.ref a] _ _ hr e0 (hbind s₁ (.ref a)) (.cons rfl .nil) (hsp H hO hS)) fun r s' h=>?_
  cases r with
  | error e=>exact (hCX H e s' h).elim
  | ok fl=>
   cases fl with
   | next=>exact False.elim h
   | brk=>exact False.elim h
   | cont=>exact False.elim h
   | ret u=>
    obtain⟨v,H',os,bare,un,hok',r',q⟩:=h
    have q':v = .bl true:=q
    subst q'
    obtain rfl:u=Value.bool true:=r'
    refine⟨rfl,OldK.of_keep fun b o e=>?_,os,bare⟩
    cases q:H b with
    | none=>exact un.keep b o e q (by intro z;exact absurd (show b∈([]:List Addr) from z) (by simp)) (by simp)
    | some u=>
     rcases hO b with z | ⟨ob,xs,z⟩
     . rw[q] at z;cases z
     . have z2:=un.frzs b ob _ z
       obtain⟨e1,_⟩:=hok b _ z
       obtain⟨e2,_⟩:=hok' b _ z2
       rw[e] at e1;cases e1
       exact e2
 cases hk:K.lookup a with
 | some o=>
  have e:=KX a o hk
  rw[ha] at e
  cases e
  refine core (fun _=>none) (fun _=>.inl rfl) (.inr ⟨_,vs.toArray,_,hk,rfl,rfl,rfl,by rw[zP,lenV];exact hl,by simpa using rv⟩) (fun b u z=>by have z':(none:Option HO)=some u:=z;cases z') (fun b z=>absurd rfl z) fun z=>absurd rfl z
 | none=>
  refine core (fun b=>if b=a then some (.frz { cls:=.type "list",data:=.seq vs.toArray } (.lst (ns.map V.int))) else none) (fun b=>?_) (.inl (.inr ⟨{ cls:=.type "list",data:=.seq vs.toArray },if_pos rfl⟩)) (fun b u z=>?_) (fun b z=>?_) fun _=>hk
  . by_cases hb:b=a
    . exact .inr ⟨_,_,if_pos hb⟩
    . exact .inl (if_neg hb)
  . by_cases hb:b=a
    . have z':=(if_pos hb).symm.trans z
      cases z'
      subst hb
      exact⟨ha,by rw[zE];exact hl,vs,_,rv,ha⟩
    . have z':=(if_neg hb).symm.trans z
      cases z'
  . by_cases hb:b=a
    . exact hb
    . exact absurd (if_neg hb) z
end L2
namespace L2
open PySem PySem.Spec PyProof.Rows
theorem walk_of {l:PySem.W.OpenLaw}{n k:Nat}{q:Program}{loose:List Str}{XP:(Str->Option Value)->Heap->Prop}{YP:World->Heap->Prop}{d:DefRec}{K:Params->PySem.W.Frag}{CX:World->CXT}{sp:World->Sp}{x:Str}
 (hn:l.most=some n)(hn2:n<=sizeLine)(hdf:d.params.defaults=[])(hr:zDo k callerA)
 (hY:∀(w:World)(h:Heap),YP w h->(K w.params).In h)
 (F:∀(w:World)(mg:Str->Option Value)(fa:Addr)(h:Heap),(K w.params).In h->h.Ns mainGlobals mg->mg d.name=some (.ref fa) ->
  ∃fd:FuncData,(∀(s:Shared)(u:Value),BindsTo s fd ⟨[u],[]⟩ [(x,u)]) /\
   ∀base:Heap,(K w.params).In base->base.Ns mainGlobals mg->zAs l.prog w (K w.params) mg base (CX w) k fa fd [x] (sp w))
 (hsp:∀(w:World)(H:Hp)(a:Addr)(ns:List Int),ns.length<=n->Only H->SqL (K w.params) H a (ns.map V.int)->sp w [.ref a] H (fun v _=>v = .bl true) fun _ _ _=>False)
 (hCX:∀(w:World)(H:Hp)(s:Shared)(e:Value)(s':Shared),CX w [] H s (fun _ _ _=>False) e s'->False) :
 PySem.W.WalkO q loose XP YP l.row.toRowW d [] (fun f vs=>PySem.call f vs):=by
 refine Att.attach_call hn hdf fun w s₀ s₁ mg mb fa o pm cd doc a vs ns G Y ho hd hcd hmg hobj hints hlen hg=>?_
 have KX:=hY w _ Y
 obtain⟨fd,hb,hF⟩:=F w mg fa _ KX G.T.g hmg
 exact zLB KX G.T.g G.T.b G.T.builtins G.T.nolimit hg hobj hints (zz hlen hn2) hr hF hb (fun H hO hS=>hsp w H a ns hlen hO hS) fun H e s'=>hCX w H s₁ e s'
end L2
namespace L2
open PySem PySem.Spec PyProof.Rows
noncomputable def defArgs (s:Stmt):Arguments:=match s with
 | .FunctionDef _ a _ _ _ _ _ _ _ _=>a
 | _=>{ posonlyargs:=[],args:=[],vararg:=none,kwonlyargs:=[],kw_defaults:=[],kwarg:=none,defaults:=[] }
noncomputable def defBody (s:Stmt):List Stmt:=match s with
 | .FunctionDef _ _ b _ _ _ _ _ _ _=>b
 | _=>[]
noncomputable def defScope (s:Stmt):Scope:=match s with
 | .FunctionDef _ _ _ _ _ _ sc _ _ _=>sc
 | _=>{ kind:=.function,names:=[],isGenerator:=false,isCoroutine:=false }
noncomputable abbrev CX0:CXT:=fun _ _ _ _ _ _=>False
noncomputable abbrev E0:XK:=fun _ _ _=>False
theorem zAU {X:Cx}:zIH CX0 X E0:=fun _ _ _ _ _ _ _ h=>h.elim
structure Fun (K:PySem.W.Frag)(x qual:Str)(st:Stmt)(f:Addr)(fd:FuncData):Prop where
 ex:∃(oc:Value)(od:Option Addr)(kV doc pm:Value)(an:Option Addr)(cdv ct:Value)(osl:Array (Option Value)),
  fd=PySem.W.fnOf x qual (defArgs st) (defBody st) (defScope st) .none kV doc pm an cdv ct/\K.lookup f=some ⟨oc,od,.func fd,osl⟩/\PySem.W.codeIn K cdv qual=true
 kp:PySem.W.keepIn K (.ref f)=true
section
variable {P:Program}{w:World}{K:PySem.W.Frag}{mg:Str->Option Value}{base:Heap}
theorem Fun.ok {x qual:Str}{st:Stmt}{f:Addr}{fd:FuncData}{N ps:List Str}{k:Nat}{sp:Sp}(F:Fun K x qual st f fd)(S:zAN N ps (defScope st))(len:∀vs H Q E,sp vs H Q E->vs.length=ps.length)
 (hbody:∀(cdv:Value)(A:Around)(outer:List Env)(s:Shared)(H:Hp)(vs:List V)(Q:VK)(E:XK),zDo k (A.deeper (envOfC qual (defScope st) s.heap.objs.size f cdv))->sp vs H Q E ->
  ∃t,PSs (zH8 CX0 P w K mg base N qual (defScope st) f cdv A outer s H E).nox (defBody st) t/\t { nx:=fun _ H'=>Q .non H',rt:=Q } (zE9 N vs) H):zAs P w K mg base CX0 (k+1) f fd ps sp:=by
 obtain⟨oc,od,kV,doc,pm,an,cdv,ct,osl,rfl,lk,hcd⟩:=F.ex
 refine fn_of lk hcd S len fun A outer s H vs Q E hr hsp=>?_
 obtain⟨t,h,q⟩:=hbody cdv A outer s H vs Q E hr hsp
 exact⟨t,h.nox,q⟩
theorem Fun.binds {x qual:Str}{st:Stmt}{f:Addr}{fd:FuncData}{ps:List Str}(F:Fun K x qual st f fd)
 (h:∀(kV doc pm:Value)(an:Option Addr)(cdv ct:Value)(us:List Value),us.length=ps.length->bindArgs (PySem.W.fnOf x qual (defArgs st) (defBody st) (defScope st) .none kV doc pm an cdv ct) ⟨us,[]⟩=pure (ps.zip us)):zAI K fd ps []:=by
 obtain⟨oc,od,kV,doc,pm,an,cdv,ct,osl,rfl,lk,hcd⟩:=F.ex
 exact .all (h kV doc pm an cdv ct)
theorem zLz {x qual:Str}{st:Stmt}{f:Addr}{oc:Value}{od an:Option Addr}{osl:Array (Option Value)}{kV doc pm cdv ct:Value}(l:K.lookup f=some ⟨oc,od,.func (PySem.W.fnOf x qual (defArgs st) (defBody st) (defScope st) .none kV doc pm an cdv ct),osl⟩)
 (c:PySem.W.codeIn K cdv qual=true)(k:PySem.W.keepIn K (.ref f)=true):Fun K x qual st f (PySem.W.fnOf x qual (defArgs st) (defBody st) (defScope st) .none kV doc pm an cdv ct):=⟨⟨oc,od,kV,doc,pm,an,cdv,ct,osl,rfl,l,c⟩,k⟩
end
theorem zIj {A:Around}{k:Nat}(hr:zDo k A):A.units+1<cLine:=zAx (Nat.add_le_add_left (by decide:1<=64) _) hr.units
section
variable {X:Cx}
theorem pv (i:Nat){x:Str}{pos:Pos}(hN:X.N[i]? = some x:=by rfl)(hv:Vis X.env.scope x:=by first | exact Or.inl rfl | exact Or.inr (Or.inl rfl) | exact Or.inr (Or.inr rfl))(hd:(x==("__debug__" : Str))=false:=by decide)
 (hcd:(x==("__classdict__" : Str))=false:=by decide):PE X (.Name x pos) (tVar i):=pe_var hN hv hd hcd
end
theorem zCZ {A B:Prop}(h:B):if false=true then A else B:=by
 rw[if_neg zt]
 exact h
theorem zCj {A B:Prop}(h:A):if true=true then A else B:=by
 rw[if_pos rfl]
 exact h
theorem zFV {c A B:Prop} [Decidable c] (h1:c->A)(h2:¬ c->B):if c then A else B:=by
 by_cases h:c
 . rw[if_pos h]
   exact h1 h
 . rw[if_neg h]
   exact h2 h
noncomputable def zAo (H H':Hp):Prop:=∀b o,H b=some o->H' b=some o
theorem zAo.refl (H:Hp):zAo H H:=fun _ _ h=>h
theorem zAo.trans {H H1 H2:Hp}(a:zAo H H1)(b:zAo H1 H2):zAo H H2:=fun c o h=>b c o (a c o h)
end L2
namespace L2
open PySem PySem.Spec PyProof.Rows
section
variable {κ:Type} [DecidableEq κ]
theorem zKh {kvs:List (κ×V)}{k:κ}(h:zC1 kvs k=none):¬ k∈kvs.map (·.1):=by
 intro m
 obtain⟨p,hp,e⟩:=zAY.mp m
 have q:(kvs.any fun kv=>decide (kv.1=k))=true:=List.any_eq_true.mpr ⟨p,hp,zQ e⟩
 rw[zCe,h] at q
 exact absurd q (by simp)
theorem zJo:∀{l:List κ}{k:κ},l.Nodup->¬ k∈l->(l++[k]).Nodup
 | [],k,_,_=>by simp
 | a::r,k,h,hk=>by
  obtain⟨h1,h2⟩:=zA2.mp h
  show (a::(r++[k])).Nodup
  refine zA2.mpr ⟨fun m=>?_,zJo h2 fun m=>hk (zR.mpr (Or.inr m))⟩
  rcases zJ.mp m with q | q
  . exact h1 q
  . exact hk (zR.mpr (Or.inl (zk.mp q).symm))
theorem zMh {kvs:List (κ×V)}{k:κ}(v:V)(hn:(kvs.map (·.1)).Nodup)(h:zC1 kvs k=none):((zD5 kvs k v).map (·.1)).Nodup:=by
 rw[zFj v h,zj]
 exact zJo hn (zKh h)
end
end L2
namespace L2
open PySem PySem.Spec PyProof.Rows
section
variable {X:Cx}
end
end L2
set_option Elab.async false
set_option linter.all false
set_option maxRecDepth 100000
set_option maxHeartbeats 4000000
namespace L2
open PySem PySem.Spec PyProof.Rows
theorem zGi {prog:Program}{w:World}{A:Around}{R:Result->Shared->Prop}{s:Shared}{elt target iter:Expr}{ifs:List Expr}{scope:Scope}{pos:Pos}{it acc:Value}{env:Env}(I:Nat->Shared->Prop)
 (turn:∀n s,I n s->wpAny (model prog w) A (pyNext it) (fun r s₁=>match r with
  | none=>R (.ok .next) s₁
  | some v=>wpAny (model prog w) A (letOwnedTupleGo target it v) (fun _ s₁'=>wpAny (model prog w) A (assign target env v) (fun _ s₂=>
   wpAny (model prog w) A (forIn ifs true fun c r=>if r=true then do let ok <-isTrue c env (eval c env);pure (ForInStep.yield ok) else pure (ForInStep.yield r)) (fun ok s₃=>
    if ok=true then wpAny (model prog w) A (eval elt env) (fun x s₄=>
     wpAny (model prog w) A (call (.builtin "list.append") [acc,x]) (fun _ s₅=>∃m,m<n/\I m s₅) (fun _ _=>False) s₄) (fun _ _=>False) s₃
    else ∃m,m<n/\I m s₃) (fun _ _=>False) s₂) (fun _ _=>False) s₁') (fun _ _=>False) s₁) (fun _ _=>False) s)
 (n:Nat)(h:I n s):codeAny (model prog w) A (.compLoop (.ListComp elt [⟨target,iter,ifs,0⟩] scope pos) 0 it acc env) R s:=by
 refine codeAny_loop rfl I (fun n s hI=>?_) n h
 show wpAny _ A ((compTurn (.ListComp elt [⟨target,iter,ifs,0⟩] scope pos) 0 it acc env).onRaise (fun x=>do noteFrame x env;theTreesLotGoes x)) _ _ s
 refine wpAny_noted ?_
 rw[compTurn_list]
 refine zA (wpAny_standAt (zA (zAJ (turn n s hI) (fun r s₁ h₁=>?_) fun _ _ h'=>h'.elim)))
 cases r with
 | none=>exact zD h₁
 | some v=>
  refine zA (zAJ h₁ (fun _ s₁' h₁'=>?_) fun _ _ h'=>h'.elim)
  refine zA (zAJ h₁' (fun _ s₂ h₂=>zA (zAJ h₂ (fun ok s₃ h₃=>?_) fun _ _ h'=>h'.elim)) fun _ _ h'=>h'.elim)
  cases ok with
  | false=>exact zD ⟨rfl,h₃⟩
  | true=>
   exact zA (zA (zAJ h₃ (fun x s₄ h₄=>zA (zAJ h₄ (fun _ s₅ h₅=>zD (zD ⟨rfl,h₅⟩)) fun _ _ h'=>h'.elim)) fun _ _ h'=>h'.elim))
noncomputable def PTs (X:Cx)(ifs:List Expr)(t:TT):Prop:=
 ∀(pins:List (Addr×Obj))(s:Shared)(σ:St)(H:Hp)(Q:Bool->Hp->Prop),Inv X pins σ H s->t σ H Q ->
  wpAny (model X.prog X.w) X.A (forIn ifs true fun c r=>if r=true then do let ok <-isTrue c X.env (eval c X.env);pure (ForInStep.yield ok) else pure (ForInStep.yield r)) (TP X pins σ Q) X.xe s
noncomputable def tYes:TT:=fun _ H Q=>Q true H
theorem zKb {σ:St}{H:Hp}{A B:Hp->Prop}(h:A H):tYes σ H (fun b H3=>if b=true then A H3 else B H3):=by
 show (if true=true then A H else B H)
 exact zCj h
theorem zCm {X:Cx}:PTs X [] tYes:=fun _ _ _ H _ I h=>wpAny_tests_nil ⟨H,I,h⟩
theorem zEW {X:Cx}{c:Expr}{t:TT}(h:PT X c t):PTs X [c] t:=fun pins s σ H Q I q=>wpAny_tests_one (h pins s σ H Q I q)
noncomputable def zF3 (cells:List (Str×Addr)):List (Str×NameKind)->List (Str×Addr)->List (Str×Addr)
 | [],acc=>acc
 | (n,k)::r,acc=>if (k == .free)=true then (match cells.lookup n with | some c=>zF3 cells r ((n,c)::acc) | none=>zF3 cells r acc) else zF3 cells r acc
theorem zEN {cells:List (Str×Addr)}{x:Str}{c:Addr}:∀(names:List (Str×NameKind))(acc:List (Str×Addr)),(zF3 cells names acc).lookup x=some c->acc.lookup x=some c\/cells.lookup x=some c
 | [],acc,h=>.inl h
 | (n,k)::r,acc,h=>by
  unfold zF3 at h
  split at h
  . cases hc:cells.lookup n with
    | none=>rw[hc] at h;exact zEN r acc h
    | some c'=>
     rw[hc] at h
     rcases zEN r _ h with q | q
     . rw[zBd] at q
       cases hx:x==n with
       | true=>
        rw[hx] at q
        have e:x=n:=by simpa using hx
        have e2:c'=c:=by simpa using q
        rw[e,hc,e2]
        exact .inr rfl
       | false=>rw[hx] at q;exact .inl q
     . exact .inr q
  . exact zEN r acc h
theorem zEP {cells:List (Str×Addr)}{x:Str}:∀(names:List (Str×NameKind))(acc:List (Str×Addr)),(∃c,acc.lookup x=some c)->∃c,(zF3 cells names acc).lookup x=some c
 | [],acc,h=>h
 | (n,k)::r,acc,h=>by
  unfold zF3
  split
  . cases hc:cells.lookup n with
    | none=>exact zEP r acc h
    | some c'=>
     refine zEP r _ ?_
     rw[zBd]
     cases hx:x==n with
     | true=>exact⟨c',rfl⟩
     | false=>exact h
  . exact zEP r acc h
theorem zEO {cells:List (Str×Addr)}{x:Str}(hx:∃c,cells.lookup x=some c):∀(names:List (Str×NameKind))(acc:List (Str×Addr)),(x,NameKind.free)∈names->∃c,(zF3 cells names acc).lookup x=some c
 | [],acc,h=>by simp at h
 | (n,k)::r,acc,h=>by
  rcases zR.mp h with e | h
  . cases e
    obtain⟨c,hc⟩:=hx
    unfold zF3
    rw[if_pos (by rfl),hc]
    exact zEP r _ ⟨c,by rw[zBd];simp⟩
  . unfold zF3
    split
    . cases hc:cells.lookup n with
      | none=>exact zEO hx r acc h
      | some c'=>exact zEO hx r _ h
    . exact zEO hx r acc h
theorem zD1 {env:Env}:∀(names:List (Str×NameKind))(acc:List (Str×Addr)),(∀y∈names,y.2 = .free->∃c,env.cells.lookup y.1=some c) ->
 (forIn names acc fun (x:Str×NameKind)(cs:List (Str×Addr))=>(if (x.2 == .free)=true then (do let a <-cellOf env x.1;pure (ForInStep.yield ((x.1,a)::cs))) else pure (ForInStep.yield cs):Sem (ForInStep (List (Str×Addr)))))=pure (zF3 env.cells names acc)
 | [],acc,_=>rfl
 | (n,k)::r,acc,h=>by
  rw[List.forIn_cons]
  have hr:∀y∈r,y.2 = .free->∃c,env.cells.lookup y.1=some c:=fun y hy=>h y (zN _ hy)
  unfold zF3
  cases hk:(k==NameKind.free) with
  | true=>
   obtain⟨c,hc⟩:=h (n,k) zT (by simpa using hk)
   simp only[hk,if_true,cellOf,hc,pure_bind]
   exact zD1 r _ hr
  | false=>
   simp only[hk,zBi,if_false,pure_bind]
   exact zD1 r _ hr
theorem zF2 {scope:Scope}{env:Env}(h:∀y∈scope.names,y.2 = .free->∃c,env.cells.lookup y.1=some c):closureFor scope env=pure (zF3 env.cells scope.names []):=by
 have e:=zD1 scope.names [] h
 simp only[closureFor]
 simp only[bind_pure]
 exact e
theorem zCo {env:Env}{x:Str}:∀(names:List (Str×NameKind)),
 (names.map fun (n,k)=>if (k==NameKind.free && env.scope.kind == .function && env.kindOf n==some .cell) then (n,NameKind.cell) else (n,k)).lookup x =
  (names.lookup x).map fun k=>if (k==NameKind.free && env.scope.kind == .function && env.kindOf x==some .cell)=true then NameKind.cell else k
 | []=>rfl
 | (n,k)::r=>by
  have ih:=zCo (env:=env) (x:=x) r
  rw[zAG]
  show List.lookup x ((if (k==NameKind.free && env.scope.kind == .function && env.kindOf n==some .cell)=true then (n,NameKind.cell) else (n,k))::_)=_
  by_cases c:(k==NameKind.free && env.scope.kind == .function && env.kindOf n==some .cell)=true
  . rw[if_pos c,zBd,zBd]
    cases hx:x==n with
    | true=>
     have e:x=n:=by simpa using hx
     subst e
     show some NameKind.cell=Option.map _ (some k)
     rw[zBT,if_pos c]
    | false=>exact ih
  . rw[if_neg c,zBd,zBd]
    cases hx:x==n with
    | true=>
     have e:x=n:=by simpa using hx
     subst e
     show some k=Option.map _ (some k)
     rw[zBT,if_neg c]
    | false=>exact ih
noncomputable def zCN (X:Cx)(pl:List (Addr×Obj))(N':List Str)(scope:Scope)(fp:List Addr)(s3:Shared)(H3:Hp):Cx where
 prog:=X.prog
 w:=X.w
 K:=X.K
 mg:=X.mg
 base:=X.base
 A:=X.A
 N:=N'
 s₀:=s3
 H₀:=H3
 env:=compEnvC scope (zF3 X.env.cells scope.names []) s3.heap.objs.size X.env
 outer:=X.stack
 stack:=X.stack
 ex:=fp
 fn:=fun _=>false
 calm:=X.calm
 pn:=pl
 xe:=fun _ _=>False
noncomputable def zGv (X:Cx)(scope:Scope):List Str->List Nat->Prop
 | [],[]=>True
 | x::cn,j::ci=>X.N[j]? = some x/\X.env.kindOf x=some .cell/\scope.names.lookup x=some .free/\zGv X scope cn ci
 | _,_=>False
theorem zGv.get {X:Cx}{scope:Scope}:∀{cn:List Str}{ci:List Nat}{k:Nat}{x:Str},zGv X scope cn ci->cn[k]? = some x->∃j,ci[k]? = some j/\X.N[j]? = some x/\X.env.kindOf x=some .cell/\scope.names.lookup x=some .free
 | [],_,_,_,_,h=>by simp at h
 | _::_,[],_,_,c,_=>c.elim
 | y::cn,j::ci,0,x,c,h=>by
  obtain⟨a,b,b',_⟩:=c
  have e:y=x:=by simpa using h
  subst e
  exact⟨j,rfl,a,b,b'⟩
 | y::cn,j::ci,k+1,x,c,h=>by
  obtain⟨j',h1,h2⟩:=zGv.get (k:=k) c.2.2.2 (by simpa using h)
  exact⟨j',by simpa using h1,h2⟩
structure zE5 (X:Cx)(scope:Scope):Prop where
 kind:scope.kind = .function
 nocell:∀y∈scope.names,y.2 ≠ .cell
 names:∀y∈scope.names,y.2 = .local->scope.names.lookup y.1=some .local
 free:∀y∈scope.names,y.2 = .free->X.env.kindOf y.1=some .cell
section
variable {X:Cx}{pins:List (Addr×Obj)}{σ:St}{H3:Hp}{s3:Shared}{scope:Scope}{fp:List Addr}{N' own cn:List Str}{ci:List Nat}{cv:List V}
theorem zIA (ok:X.Ok)(S:zE5 X scope){x:Str}(h:(relabel scope X.env).names.lookup x=some .cell\/(relabel scope X.env).names.lookup x=some .free) :
 ∃c,(zF3 X.env.cells scope.names []).lookup x=some c:=by
 have e:(relabel scope X.env).names.lookup x=(scope.names.lookup x).map fun k=>if (k==NameKind.free && X.env.scope.kind == .function && X.env.kindOf x==some .cell)=true then NameKind.cell else k:=zCo scope.names
 have hf:scope.names.lookup x=some .free:=by
  cases q:scope.names.lookup x with
  | none=>rw[e,q] at h;simp at h
  | some k=>
   by_cases hk:k = .free
   . rw[hk]
   . have hb:(k==NameKind.free)=false:=by simpa using hk
     rw[e,q] at h
     simp only[zBT,hb,zBo,zBi,if_false,Option.some.injEq] at h
     rcases h with h | h
     . exact absurd h (S.nocell _ (PySem.mem_of_lookup q))
     . exact absurd h hk
 exact zEO (ok.has x (.inl (S.free _ (PySem.mem_of_lookup hf) rfl))) scope.names [] (PySem.mem_of_lookup hf)
theorem zD0 {x:Str}{c:Addr}(h:(zF3 X.env.cells scope.names []).lookup x=some c):X.env.cells.lookup x=some c:=by
 rcases zEN _ _ h with q | q
 . simp at q
 . exact q
theorem zMz (I:Inv X pins σ H3 s3)(S:zE5 X scope)(f:∀b∈fp,zKe X pins H3 b)(fz:∀b∈fp,b<s3.heap.objs.size):(zCN X (X.pn++pins) N' scope fp s3 H3).Ok where
 mod:=I.ok.mod
 kind:=S.kind
 glob:=I.ok.glob
 blt:=I.ok.blt
 above:=zH _
 inj:=fun x y c h1 h2=>I.ok.inj x y c (zD0 h1) (zD0 h2)
 has:=fun x h=>zIA I.ok S h
 cab:=fun x c h=>by cases h
 hd:=I.ok.hd
 frames:=I.ok.frames
 stk:=.inl rfl
 exf:=fun b hb=>⟨zh (fz b hb),fun x c h=>(f b hb).2.2.2.2.1 x c (zD0 h)⟩
 bs:=I.bs
 bsz:=zz I.ok.bsz I.sz
 noex:=fun b o e hb=>by
  rcases (f b hb).2.2.2.1 with z | z
  . exact I.ok.noex b o e z
  . exact absurd (zp (zW e) (zz I.ok.bsz z)) (zBf _)
 exfs:=fun b hb z=>by
  rcases zR.mp (I.stkSub b z) with q | q
  . exact (f b hb).2.1 q
  . exact (f b hb).2.2.1 q
 funs:=I.stack
 frf:=I.stkFree
theorem zLX {h1:Heap}{t:Nat}(I:Inv X pins σ H3 s3)(S:zE5 X scope)(f:∀b∈fp,zKe X pins H3 b)(fz:∀b∈fp,b<s3.heap.objs.size)
 (hN:N'=own++cn)(hc:zGv X scope cn ci)(hv:ci.map (fun j=>σ[j]?)=cv.map fun v=>some (some v))(hl:cn.length=ci.length)
 (hns:h1.Ns s3.heap.objs.size (fun _=>none))(hk:∀b o,s3.heap.get? b=some o->h1.get? b=some o) :
 Inv (zCN X (X.pn++pins) N' scope fp s3 H3) [] (List.replicate own.length none++cv.map some) H3 { s3 with heap:=h1,toks:=t }:=by
 have lenv:cv.length=ci.length:=by
  have:=congrArg List.length hv
  simpa using this.symm
 refine⟨zMz I S f fz,rfl,I.bare,Un.kept hk,⟨_,hns,fun i x v e1 e2 e3=>?_⟩,fun x c e=>?_,I.hok.fresh (zH _),fun x c e=>I.freeC x c (zD0 e),fun p hp=>?_,I.hok.kept hk,?_⟩
 . -- a captured name
   have hi:own.length<=i:=by
    by_cases hi:own.length<=i
    . exact hi
    . rw[zAk (by simpa using hi),List.getElem?_replicate] at e2
      split at e2 <;> cases e2
   rw[zAu (by simpa using hi),List.length_replicate,zZ] at e2
   have e1':(own++cn)[i]? = some x:=by rw[<-hN];exact e1
   rw[zAu hi] at e1'
   obtain⟨j,hj,hNj,hkx,hfr⟩:=hc.get e1'
   have hcv:cv[i-own.length]? = some v:=by
    cases q:cv[i-own.length]? with
    | none=>rw[q] at e2;cases e2
    | some v'=>rw[q] at e2;cases e2;rfl
   have hσ:σ[j]? = some (some v):=by
    have:=congrArg (fun l:List (Option (Option V))=>l[i-own.length]?) hv
    simp only[zZ,hj,hcv,zBT,Option.some.injEq] at this
    exact this
   obtain⟨m,_,hl'⟩:=I.loc
   obtain⟨u,r,q⟩:=hl' j x v hNj hσ (.inr (.inl hkx))
   have hkd:(relabel scope X.env).names.lookup x=some .cell\/(relabel scope X.env).names.lookup x=some .free:=by
    have e:(relabel scope X.env).names.lookup x=(scope.names.lookup x).map fun k=>if (k==NameKind.free && X.env.scope.kind == .function && X.env.kindOf x==some .cell)=true then NameKind.cell else k:=zCo scope.names
    rw[e,hfr,zBT]
    by_cases cc:(NameKind.free==NameKind.free && X.env.scope.kind == .function && X.env.kindOf x==some .cell)=true
    . rw[if_pos cc];exact .inl rfl
    . rw[if_neg cc];exact .inr rfl
   obtain⟨c',hc'⟩:=zIA I.ok S hkd
   refine⟨u,r,.inr ⟨hkd,c',hc',?_⟩⟩
   rcases q with ⟨z,_⟩ | ⟨_,c,hcc,o,ho,hd⟩
   . rw[hkx] at z;cases z
   . have e:c=c':=zm (hcc.symm.trans (zD0 hc'))
     subst e
     exact⟨o,hk c o ho,hd⟩
 . obtain⟨v,o,ho,hd⟩:=I.cell x c (zD0 e)
   exact⟨v,o,hk c o ho,hd⟩
 . have hp':p∈X.pn++pins:=by rw[zr] at hp;exact hp
   obtain⟨e,n,ne,nf,d⟩:=I.pin p hp'
   refine⟨hk _ _ e,n,zh (zW e),fun z=>?_,d⟩
   rcases zR.mp (I.stkSub p.1 z) with q | q
   . exact ne q
   . exact nf q
 . show (List.replicate own.length none++cv.map some).length=N'.length
   rw[hN,zB,zB,List.length_replicate,zE,lenv,hl]
noncomputable def zIJ (J:It)(own:Nat)(cv:List V)(g:TG)(ti:TT)(te:TE)(D:Addr)(H1:Hp)(Q:VK):Prop:=∃W:Nat->Nat->List V->Hp->Prop,(∃m,W 0 m [] (upd H1 D (.lst [])))/\∀i m ys H,W i m ys H ->
 (J.stop i H/\Q (.ref D) H)\/(J.go i H/\ys.length<sizeLine/\∃N:List V->Hp->Prop,(∀ys' H',N ys' H'->∃m',m'<m/\W (i+1) m' ys' H') /\
  ∀x H',J.yld i H x H'->g x (List.replicate own none++cv.map some) H' fun σ2 H2=>(σ2.length=own+cv.length/\σ2.drop own=cv.map some) /\
   ti σ2 H2 fun b H3=>if b=true then te σ2 H3 fun y H4=>H4 D=some (.lst ys)/\N (ys++[y]) (upd H4 D (.lst (ys++[y]))) else N ys H3)
noncomputable def zMF (own:Nat)(ci:List Nat)(wi:TI)(g:TG)(ti:TT)(te:TE):TE:=fun σ H Q=>wi σ H fun J H1=>∃cv:List V,ci.map (fun j=>σ[j]?)=cv.map (fun v=>some (some v)) /\
 ∀D,H1 D=none->zIJ J own cv g ti te D H1 Q
theorem zGh {elt target iter:Expr}{ifs:List Expr}{pos cpos:Pos}{wi:TI}{g:TG}{ti:TT}{te:TE}{use:Option (Value->Sem Unit)}{Q0:Value->Shared->Prop}{s:Shared}{H:Hp}{Q:VK}(hcalm:X.calm=true)(S:zE5 X scope)(hc:zGv X scope cn ci)(hl:cn.length=ci.length)
 (hi:PI X target iter wi)(hg:∀pl fp s3 H3,PG (zCN X pl (own++cn) scope fp s3 H3) target g)(ht:∀pl fp s3 H3,PTs (zCN X pl (own++cn) scope fp s3 H3) ifs ti)
 (he:∀pl fp s3 H3,PE (zCN X pl (own++cn) scope fp s3 H3) elt te)(hs:∀x,foldedSetIterable iter X.env x=pure x)(I:Inv X pins σ H s)(h:zMF own.length ci wi g ti te σ H Q)
 (fin:∀(D C:Addr)(H5:Hp)(s6:Shared)(m6:Str->Option Value),Inv X pins σ H5 s6->s6.heap.Ns C m6->H5 C=none->C≠X.env.locals->X.s₀.heap.objs.size<=C->(∀x c,X.env.cells.lookup x=some c->c≠C) ->
  (∀p∈X.pn++pins,p.1≠C)->Q (.ref D) H5->compPost (model X.prog X.w) X.A X.xe use Q0 (.ref D) C (.ok .next) s6) :
 wpAny (model X.prog X.w) X.A (comprehension (.ListComp elt [⟨target,iter,ifs,0⟩] scope pos) scope X.env cpos (newList []) false (eval iter X.env) use) Q0 X.xe s:=by
 have hcl:closureFor scope X.env=pure (zF3 X.env.cells scope.names []):=zF2 fun y hy hf=>I.ok.has y.1 (.inl (S.free y hy hf))
 refine wpAny_comprehension_free (use:=use) rfl hs hcl S.kind S.names ?_
 refine thn (hi pins s σ H _ I h) fun v s1 h1=>thn h1 fun itv s2 h2=>?_
 obtain⟨it,fp,tn,J,H2,e,I2,T,st2,f2,cv,hv,hD⟩:=h2
 subst e
 have lenv:cv.length=ci.length:=by
  have:=congrArg List.length hv
  simpa using this.symm
 have I3:=I2.lnew (ys:=[]) (its:=[]) (t':=s2.toks) .nil (zb _)
 obtain⟨W,⟨m0,w0⟩,turn⟩:=hD s2.heap.objs.size I2.fresh
 have fz:∀b∈fp,b<s2.heap.objs.size:=fun b hb=>by
  obtain⟨o,ho,_⟩:=T.obj _ _ st2 b hb
  exact zW ho
 refine zw ?_
 refine wpAny_newFunctionEnv S.nocell (by intro y hy;simp at hy) (fun h4 hns4 hsb4=>?_) S.kind
 generalize hs3:({ s2 with heap:=s2.heap.push { cls:=.type "list",dict:=none,data:=.seq ([]:List Value).toArray } }:Shared)=s3 at hns4 hsb4 ⊢
 have I3':Inv X pins σ (upd H2 s2.heap.objs.size (.lst [])) s3:=by rw[<-hs3];exact I3
 have hsz3:s3.heap.objs.size=s2.heap.objs.size+1:=by rw[<-hs3];exact zA0 ..
 have k23:∀b o,s2.heap.get? b=some o->s3.heap.get? b=some o:=fun b o e=>by rw[<-hs3];exact zI _ e
 have k34:∀b o,s3.heap.get? b=some o->h4.get? b=some o:=fun b o e=>hsb4.extBut b o (zh (zW e)) (zI _ e)
 have nD:∀b∈fp,b≠s2.heap.objs.size:=fun b hb=>zh (fz b hb)
 have f3:∀b∈fp,zKe X pins (upd H2 s2.heap.objs.size (.lst [])) b:=fun b hb=>⟨by rw[zf (nD b hb)];exact (f2 b hb).1,(f2 b hb).2⟩
 have fz3:∀b∈fp,b<s3.heap.objs.size:=fun b hb=>by rw[hsz3];exact zBM (fz b hb)
 have I4:Inv (zCN X (X.pn++pins) (own++cn) scope fp s3 (upd H2 s2.heap.objs.size (.lst []))) [] (List.replicate own.length none++cv.map some) (upd H2 s2.heap.objs.size (.lst [])) { s3 with heap:=h4,toks:=s3.toks+([]:List (Str×Value)).length }:=
  zLX I3' S f3 fz3 rfl hc hv hl hns4 k34
 have st4:tn 0 h4:=T.keep _ _ _ st2 fun b hb o e=>k34 b o (k23 b o e)
 generalize hX:zCN X (X.pn++pins) (own++cn) scope fp s3 (upd H2 s2.heap.objs.size (.lst []))=X' at I4
 have hg':PG X' target g:=by rw[<-hX];exact hg _ _ _ _
 have ht':PTs X' ifs ti:=by rw[<-hX];exact ht _ _ _ _
 have he':PE X' elt te:=by rw[<-hX];exact he _ _ _ _
 have ePr:X'.prog=X.prog:=by rw[<-hX];rfl
 have eW:X'.w=X.w:=by rw[<-hX];rfl
 have eK:X'.K=X.K:=by rw[<-hX];rfl
 have eA:X'.A=X.A:=by rw[<-hX];rfl
 have eE:X'.env=compEnvC scope (zF3 X.env.cells scope.names []) s3.heap.objs.size X.env:=by rw[<-hX];rfl
 have eXe:X'.xe=fun _ _=>False:=by rw[<-hX];rfl
 have eC:X'.calm=true:=by rw[<-hX];exact hcalm
 have eex:X'.ex=fp:=by rw[<-hX];rfl
 have epn:X'.pn=X.pn++pins:=by rw[<-hX];rfl
 have es0:X'.s₀=s3:=by rw[<-hX];rfl
 have eH0:X'.H₀=upd H2 s2.heap.objs.size (.lst []):=by rw[<-hX];rfl
 have efs:X'.fs=frs X.stack:=by rw[<-hX];rfl
 have ok':=I4.ok
 have stat:∀{H':Hp},(∀b∈fp,H' b=none)->∀b∈fp,zKe X' [] H' b:=fun hn b hb=>by
  have hb':b∈X'.ex:=by rw[eex];exact hb
  refine⟨hn b hb,(ok'.exf b hb').1,ok'.exfs b hb',.inl hb',(ok'.exf b hb').2,fun p hp=>?_⟩
  rw[epn,zr] at hp
  exact (f2 b hb).2.2.2.2.2 p hp
 have wk:∀(σ2:St),(σ2.length=own.length+cv.length/\σ2.drop own.length=cv.map some)->∀{pl:List (Addr×Obj)}{H':Hp}{s':Shared},Inv X' pl σ2 H' s'->Inv X' pl (List.replicate own.length none++cv.map some) H' s':=fun σ2 hq pl H' s' I'=>by
  refine I'.weak (by rw[hq.1,zB,List.length_replicate,zE]) fun i v hi=>?_
  by_cases hlt:i<own.length
  . rw[zAk (by simpa using hlt),List.getElem?_replicate] at hi
    split at hi <;> cases hi
  . rw[zAu (by simpa using hlt),List.length_replicate,<-hq.2,List.getElem?_drop] at hi
    rw[show own.length+(i-own.length)=i by omega] at hi
    exact hi
 have loop:codeAny (model X.prog X.w) X.A (.compLoop (.ListComp elt [⟨target,iter,ifs,0⟩] scope pos) 0 (.ref it) (.ref s2.heap.objs.size) (compEnvC scope (zF3 X.env.cells scope.names []) s3.heap.objs.size X.env))
  (compPost (model X.prog X.w) X.A X.xe use Q0 (.ref s2.heap.objs.size) s3.heap.objs.size) { s3 with heap:=h4,toks:=s3.toks+([]:List (Str×Value)).length }:=by
  refine zGi (fun n s'=>∃i ys H',Inv X' [] (List.replicate own.length none++cv.map some) H' s'/\tn i s'.heap/\(∀b∈fp,H' b=none)/\W i n ys H') ?_ m0
   ⟨0,[],_,I4,st4,fun b hb=>(f3 b hb).1,w0⟩
  rintro n s5 ⟨i,ys,H5,I5,st5,fr5,w5⟩
  rcases turn i n ys H5 w5 with ⟨stop,qn⟩ | ⟨go,hsz,N,hN,step⟩
  . have d:=T.done X' ePr eW eK eC i [] s5 _ H5 (fun _ _=>False) I5 (stat fr5) st5 stop
    rw[eA] at d
    refine thn d fun r s6 ⟨hr,I6⟩=>?_
    subst hr
    obtain⟨m6,hn6,_⟩:=I6.loc
    rw[eE] at hn6
    have hn6':s6.heap.Ns s3.heap.objs.size m6:=hn6
    have un6:Un (frs X.stack) fp (upd H2 s2.heap.objs.size (.lst [])) H5 s3.heap s6.heap:=by
     have b6:=I6.base
     rw[efs,eex,eH0,es0] at b6
     exact b6
    have os6:s6.os=s3.os:=by have o6:=I6.os;rw[es0] at o6;exact o6
    have hok6:HOk X.prog X.w H5 s6.heap:=by have o6:=I6.hok;rw[ePr,eW] at o6;exact o6
    have I7:Inv X pins σ H5 s6:=I3'.call' (ch:=fp) os6 un6 hok6 I6.bare fun b hb=>⟨(f2 b hb).2.2.2.1,(f2 b hb).2.1,(f2 b hb).2.2.2.2.1,(f2 b hb).2.2.2.2.2⟩
    have fr6:H5 s3.heap.objs.size=none:=by
     have q:=I6.free
     rw[eE] at q
     exact q
    refine fin s2.heap.objs.size s3.heap.objs.size H5 s6 m6 I7 hn6' fr6 (Nat.ne_of_gt I3'.lt) I3'.sz (fun x c e=>?_) (fun p hp=>?_) qn
    . obtain⟨_,o,ho,_⟩:=I3'.cell x c e
      exact zh (zW ho)
    . exact zh (zW (I3'.pin p hp).1)
  . have d:=T.item X' ePr eW eK eC i [] s5 _ H5 (fun _ _=>False) I5 (stat fr5) st5 go
    rw[eA] at d
    refine thn d fun r s6 ⟨u,hr,h6⟩=>?_
    subst hr
    refine thn h6 fun _ s7 ⟨x,H7,I7,r7,y7,st7,fr7⟩=>?_
    have I7':=I7.pinned (stat fr7) (T.obj _ _ st7)
    have g7:=hg' _ s7 _ H7 x u _ I7' r7 (step x H7 y7)
    rw[ePr,eW,eA,eE,eXe] at g7
    refine thn g7 fun _ s8 ⟨σ8,H8,I8,q8,ti8⟩=>?_
    have t8:=ht' _ s8 σ8 H8 _ I8 ti8
    rw[ePr,eW,eA,eE,eXe] at t8
    refine thn t8 fun ok s9 ⟨H9,I9,q9⟩=>?_
    have again:∀{ys':List V}{H':Hp}{s':Shared},Inv X' ([]++zGS fp s7.heap) σ8 H' s'->N ys' H' ->
     ∃m,m<n/\∃i ys H',Inv X' [] (List.replicate own.length none++cv.map some) H' s'/\tn i s'.heap/\(∀b∈fp,H' b=none)/\W i m ys H':=fun {ys' H' s'} I' n'=>by
     obtain⟨m',hm,w'⟩:=hN ys' H' n'
     refine⟨m',hm,i+1,ys',H',(wk σ8 q8 I').unpinned,T.keep _ _ _ st7 fun b hb o e=>(I'.pin (b,o) (zAA _ (zAA _ (zDD hb e)))).1,fun b hb=>?_,w'⟩
     obtain⟨o,e,_⟩:=T.obj _ _ st7 b hb
     exact (I'.pin (b,o) (zAA _ (zAA _ (zDD hb e)))).2.1
    cases ok with
    | false=>exact again I9 q9
    | true=>
     have e9:=he' _ s9 σ8 H9 _ I9 q9
     rw[ePr,eW,eA,eE,eXe] at e9
     refine thn e9 fun u10 s10 ⟨y,H10,I10,r10,hD10,n10⟩=>?_
     have a10:=zCY (X:=X') _ s10 σ8 H10 (.ref s2.heap.objs.size) [y] (.ref s2.heap.objs.size) [u10] (fun _ H'=>N (ys++[y]) H') I10 rfl (.cons r10 .nil) ⟨_,_,_,rfl,rfl,hD10,hsz,n10⟩
     rw[ePr,eW,eA,eXe] at a10
     exact thn a10 fun _ s11 ⟨_,H11,I11,_,n11⟩=>again I11 n11
 exact codeAny_compStart_list loop (T.self X.A 0 _ _ _ st4 loop)
theorem zCO {elt target iter:Expr}{ifs:List Expr}{pos:Pos}{wi:TI}{g:TG}{ti:TT}{te:TE}(hcalm:X.calm=true)(S:zE5 X scope)(hc:zGv X scope cn ci)(hl:cn.length=ci.length)
 (hi:PI X target iter wi)(hg:∀pl fp s3 H3,PG (zCN X pl (own++cn) scope fp s3 H3) target g)(ht:∀pl fp s3 H3,PTs (zCN X pl (own++cn) scope fp s3 H3) ifs ti)
 (he:∀pl fp s3 H3,PE (zCN X pl (own++cn) scope fp s3 H3) elt te)(hs:∀x,foldedSetIterable iter X.env x=pure x:=by intro _;rfl) :
 PE X (.ListComp elt [⟨target,iter,ifs,0⟩] scope pos) (zMF own.length ci wi g ti te):=by
 intro pins s σ H Q I h
 rw[eval_ListComp]
 exact zGh hcalm S hc hl hi hg ht he hs I h fun D C H5 s6 m6 I7 hn fr nL ge nC nP q=>⟨m6,hn,fun h' hs'=>⟨.ref D,H5,I7.turned (t':=s6.toks) (it:=C) (fun b o hb e=>hs'.extBut b o hb e) fr nL (.inr ge) nC nP,rfl,q⟩⟩
theorem zG4 {elt target iter:Expr}{ifs:List Expr}{pos pos' cpos:Pos}{wi:TI}{g:TG}{ti:TT}{te:TE}{i:Nat}{x:Str}(hN:X.N.Nodup)(hix:X.N[i]? = some x)(hx:Loc X.env.scope x)(hcalm:X.calm=true)(S:zE5 X scope)(hc:zGv X scope cn ci)(hl:cn.length=ci.length)
 (hi:PI X target iter wi)(hg:∀pl fp s3 H3,PG (zCN X pl (own++cn) scope fp s3 H3) target g)(ht:∀pl fp s3 H3,PTs (zCN X pl (own++cn) scope fp s3 H3) ifs ti)
 (he:∀pl fp s3 H3,PE (zCN X pl (own++cn) scope fp s3 H3) elt te)(hs:∀x,foldedSetIterable iter X.env x=pure x:=by intro _;rfl)
 (hsw:swapsWith (.ListComp elt [⟨target,iter,ifs,0⟩] scope cpos) (some (.Name x pos')) pos.line X.env=pure true:=by rfl)
 (hf:X.fn x=true\/X.env.scope.names.lookup x=some .local:=by first | exact .inl rfl | exact .inr rfl | assumption) :
 PS X (.Assign [.Name x pos'] (.ListComp elt [⟨target,iter,ifs,0⟩] scope cpos) pos) (tAsg (zMF own.length ci wi g ti te) (zIk i)):=by
 intro pins s σ H D I h
 rw[exec_Assign_Name_used _ _ _ _ hsw]
 refine zA (wpAny_standAt (zA ?_))
 show wpAny _ X.A (do let _ <-comprehension (.ListComp elt [⟨target,iter,ifs,0⟩] scope cpos) scope X.env _ (newList []) false (eval iter X.env) (some (assign (.Name x pos') X.env))) _ _ s
 refine zA (zAJ (zGh (use:=some (assign (.Name x pos') X.env)) (Q0:=fun _ s'=>SP X pins D .next s') hcalm S hc hl hi hg ht he hs I h (fun D' C H5 s6 m6 I7 hn fr nL ge nC nP q=>?_)) (fun _ s' hq=>zD (zD hq)) fun _ _ e=>e)
 obtain⟨oC,es,ep,hoC,hd,r1⟩:=hn
 have nf:C∉X.fs:=fun hb=>by
  obtain⟨_,o,ho,_⟩:=I7.ok.funs.mem hb
  exact absurd (zp (zW ho) ge) (zBf _)
 have I7':Inv X (pins++[(C,oC)]) σ H5 s6:=I7.pins_of fun p hp=>by
  rcases zJ.mp hp with z | z
  . exact I7.pin p (zAA _ z)
  . rw[zk.mp z]
    exact⟨hoC,fr,nL,nf,fun v e=>by rw[hd] at e;cases e⟩
 show wpAny _ X.A (assign (.Name x pos') X.env (.ref D')) _ _ s6
 refine wpAny_assign_Name (zDA I7' hN hix hx (show zBe (.ref D') (.ref D') from rfl) (fun s' I'=>?_) hf)
 have hC':=(I'.pin (C,oC) (zAA _ (zAA _ (zk.mpr rfl)))).1
 refine⟨m6,⟨oC,es,ep,hC',hd,r1⟩,fun h' hs'=>⟨_,H5,?_,q⟩⟩
 have I2:Inv X pins (σ.set i (some (.ref D'))) H5 s':=I'.pins_of fun p hp=>I'.pin p (zAA _ (List.mem_append_left _ hp))
 exact I2.turned (t':=s'.toks) (it:=C) (fun b o hb e=>hs'.extBut b o hb e) fr nL (.inr ge) nC nP
end
noncomputable def cscOk (outer inner:Scope):Bool:=inner.names.all fun y=>(y.2 != .cell) && (y.2 != .local || inner.names.lookup y.1==some .local) && (y.2 != .free || outer.names.lookup y.1==some .cell)
theorem csc {X:Cx}{scope:Scope}(hk:scope.kind = .function)(h:cscOk X.env.scope scope=true):zE5 X scope:=by
 have a:=zA7.mp h
 refine⟨hk,fun y hy e=>?_,fun y hy e=>?_,fun y hy e=>?_⟩
 . have:=a y hy
   rw[e] at this
   simp at this
 . have:=a y hy
   rw[e] at this
   simpa using this
 . have:=a y hy
   rw[e] at this
   have h2:X.env.scope.names.lookup y.1=some .cell:=by simpa using this
   exact h2
theorem zDT {l:List Str}(h:decide l.Nodup=true):l.Nodup:=of_decide_eq_true h
section
variable {X:Cx}{pl:List (Addr×Obj)}{N':List Str}{sc:Scope}{fp:List Addr}{s3:Shared}{H3:Hp}
theorem zEr:IxR (zCN X pl N' sc fp s3 H3) (rIxT X.K):=zAP
theorem zDc:OpR (zCN X pl N' sc fp s3 H3) (compareOp .NotIn) (rIn X.K true):=zBj
end
theorem zDl {K:PySem.W.Frag}{a:Addr}{xs:List V}{own:Nat}{g:TG}{ti:TT}{te:TE}{cv:List V}{D:Addr}{H1:Hp}{Q:VK}(Pv:Nat->List V->Hp->Prop)(h0:Pv 0 [] (upd H1 D (.lst [])))(hl:∀i ys H,Pv i ys H->SqL K H a xs)(hz:∀i ys H,Pv i ys H->ys.length<sizeLine)
 (hs:∀i x ys H,xs[i]? = some x->Pv i ys H->g x (List.replicate own none++cv.map some) H fun σ2 H2=>(σ2.length=own+cv.length/\σ2.drop own=cv.map some) /\
  ti σ2 H2 fun b H3=>if b=true then te σ2 H3 fun y H4=>H4 D=some (.lst ys)/\Pv (i+1) (ys++[y]) (upd H4 D (.lst (ys++[y]))) else Pv (i+1) ys H3)
 (hd:∀ys H,Pv xs.length ys H->Q (.ref D) H) :
 zIJ (Itl K a) own cv g ti te D H1 Q:=by
 refine⟨fun i m ys H=>m=xs.length-i/\i<=xs.length/\Pv i ys H,⟨xs.length,rfl,zb _,h0⟩,?_⟩
 rintro i m ys H ⟨rfl,hi,p⟩
 have q:=hl i ys H p
 by_cases hlt:i<xs.length
 . refine .inr ⟨⟨xs,xs[i],q,by simp[hlt]⟩,hz i ys H p,Pv (i+1),fun ys' H' p'=>⟨xs.length-(i+1),by omega,rfl,hlt,p'⟩,fun x H' y=>?_⟩
   obtain⟨e,y⟩:=y
   subst e
   exact hs i x ys _ (y xs q) p
 . have e:i=xs.length:=by omega
   subst e
   exact .inl ⟨⟨xs,q,zH _⟩,hd ys H p⟩
theorem zCl {K:PySem.W.Frag}{a:Addr}{xs:List V}{own:Nat}{g:TG}{ti:TT}{te:TE}{cv:List V}{D:Addr}{H1:Hp}{Q:VK}(Pv:Nat->List V->Hp->Prop)(h0:Pv 0 [] (upd H1 D (.lst [])))(hl:∀i ys H,Pv i ys H->SqT K H a xs)(hz:∀i ys H,Pv i ys H->ys.length<sizeLine)
 (hs:∀i x ys H,xs[i]? = some x->Pv i ys H->g x (List.replicate own none++cv.map some) H fun σ2 H2=>(σ2.length=own+cv.length/\σ2.drop own=cv.map some) /\
  ti σ2 H2 fun b H3=>if b=true then te σ2 H3 fun y H4=>H4 D=some (.lst ys)/\Pv (i+1) (ys++[y]) (upd H4 D (.lst (ys++[y]))) else Pv (i+1) ys H3)
 (hd:∀ys H,Pv xs.length ys H->Q (.ref D) H) :
 zIJ (Itt K a) own cv g ti te D H1 Q:=by
 refine⟨fun i m ys H=>m=xs.length-i/\i<=xs.length/\Pv i ys H,⟨xs.length,rfl,zb _,h0⟩,?_⟩
 rintro i m ys H ⟨rfl,hi,p⟩
 have q:=hl i ys H p
 by_cases hlt:i<xs.length
 . refine .inr ⟨⟨xs,xs[i],q,by simp[hlt]⟩,hz i ys H p,Pv (i+1),fun ys' H' p'=>⟨xs.length-(i+1),by omega,rfl,hlt,p'⟩,fun x H' y=>?_⟩
   obtain⟨e,y⟩:=y
   subst e
   exact hs i x ys _ (y xs q) p
 . have e:i=xs.length:=by omega
   subst e
   exact .inl ⟨⟨xs,q,zH _⟩,hd ys H p⟩
theorem zDE {lo:Int}{n own:Nat}{g:TG}{ti:TT}{te:TE}{cv:List V}{D:Addr}{H1:Hp}{Q:VK}(Pv:Nat->List V->Hp->Prop)(h0:Pv 0 [] (upd H1 D (.lst [])))(hz:∀i ys H,Pv i ys H->ys.length<sizeLine)
 (hs:∀i ys H,i<n->Pv i ys H->g (.int (lo+i)) (List.replicate own none++cv.map some) H fun σ2 H2=>(σ2.length=own+cv.length/\σ2.drop own=cv.map some) /\
  ti σ2 H2 fun b H3=>if b=true then te σ2 H3 fun y H4=>H4 D=some (.lst ys)/\Pv (i+1) (ys++[y]) (upd H4 D (.lst (ys++[y]))) else Pv (i+1) ys H3)
 (hd:∀ys H,Pv n ys H->Q (.ref D) H) :
 zIJ (Itr lo n) own cv g ti te D H1 Q:=by
 refine⟨fun i m ys H=>m=n-i/\i<=n/\Pv i ys H,⟨n,rfl,zb _,h0⟩,?_⟩
 rintro i m ys H ⟨rfl,hi,p⟩
 by_cases hlt:i<n
 . refine .inr ⟨hlt,hz i ys H p,Pv (i+1),fun ys' H' p'=>⟨n-(i+1),by omega,rfl,hlt,p'⟩,fun x H' y=>?_⟩
   obtain⟨e,y⟩:=y
   subst e
   subst y
   exact hs i ys _ hlt p
 . have e:i=n:=by omega
   subst e
   exact .inl ⟨zH _,hd ys H p⟩
end L2
namespace SortT
open PySem.W PyProof.Rows
noncomputable def ev {α:Type}(lt:Nat->Nat->Bool):KasT α->α
 | .ret a=>a
 | .ask i j k=>ev lt (k (lt i j))
theorem zDy {α β:Type}(lt:Nat->Nat->Bool)(f:α->KasT β):∀t:KasT α,ev lt (t.bind f)=ev lt (f (ev lt t))
 | .ret _=>rfl
 | .ask i j k=>zDy lt f (k (lt i j))
section
variable {O:KeyOrd}{key:Nat->O.α}
noncomputable def kk (key:Nat->O.α)(p:Array Nat)(i:Nat):O.α:=key (p.getD i 0)
noncomputable def Sr (key:Nat->O.α)(p:Array Nat)(n:Nat):Prop:=∀i j,i<=j->j<n->O.kle (kk key p i) (kk key p j)
noncomputable def Fl (key:Nat->O.α)(p:Array Nat)(n:Nat):Prop:=∀i j,i<=j->j<n->O.kle (kk key p j) (kk key p i)
theorem zDi {p q:Array Nat}{i j:Nat}(h:p[i]? = q[j]?):kk key p i=kk key q j:=by
 unfold kk;rw[Array.getD_eq_getD_getElem?,Array.getD_eq_getD_getElem?,h]
theorem zJv {p:Array Nat}{i j:Nat}(hj:j<=p.size)(k:Nat):kk key (kas_rev p i j) k=if i<=k/\k<j then kk key p (i+j-1-k) else kk key p k:=by
 have e:=getElem?_mirror_all (i:=i) hj k
 unfold kas_rev
 by_cases h1:i<=k/\k<j
 . rw[if_pos h1] at e ⊢;exact zDi e
 . rw[if_neg h1] at e ⊢;exact zDi e
theorem zEo {p:Array Nat}{i j:Nat}(hj:j<=p.size)(he:∀k,i<=k->k<j->kk key p k=kk key p (j-1))(k:Nat):kk key (kas_rev p i j) k=kk key p k:=by
 rw[zJv hj]
 split
 . rw[he _ (by omega) (by omega),he k (by omega) (by omega)]
 . rfl
theorem zGY {p:Array Nat}{src d:Nat}(hs:src<p.size)(hd:d<=src)(k:Nat) :
 kk key (bubble p src d) k=if k=src-d then kk key p src else if src-d<k/\k<=src then kk key p (k-1) else kk key p k:=by
 have e:=getElem?_bubble hs d hd k
 by_cases h1:k=src-d
 . rw[if_pos h1] at e ⊢;exact zDi e
 . rw[if_neg h1] at e ⊢
   by_cases h2:src-d<k/\k<=src
   . rw[if_pos h2] at e ⊢;exact zDi e
   . rw[if_neg h2] at e ⊢;exact zDi e
noncomputable def lt_ (key:Nat->O.α)(i j:Nat):Bool:=O.blt (key i) (key j)
theorem zCH (p:Array Nat)(i j:Nat):(kas_rev p i j).Perm p:=mirror_perm _ _ _ _
theorem zFi (p:Array Nat)(i j:Nat):(kas_rev p i j).size=p.size:=(zCH p i j).size_eq
theorem zKW {p:Array Nat}:∀(f n:Nat),1<=n->Sr key p n->∃m,ev (lt_ key) (kas_asc p f n)=m/\n<=m/\m<=n+f/\Sr key p m/\(m=n+f\/O.klt (kk key p m) (kk key p (m-1)))
 | 0,n,_,hs=>⟨n,rfl,zH _,zH _,hs,.inl rfl⟩
 | f+1,n,h1,hs=>by
  show ∃m,ev (lt_ key) (if lt_ key (p.getD n 0) (p.getD (n-1) 0)=true then KasT.ret n else kas_asc p f (n+1))=m/\_
  cases hl:lt_ key (p.getD n 0) (p.getD (n-1) 0) with
  | true=>exact⟨n,by simp[ev],zH _,by omega,hs,.inr hl⟩
  | false=>
   have hs':Sr key p (n+1):=fun i j hij hj=>by
    by_cases hjn:j<n
    . exact hs i j hij hjn
    . have hj':j=n:=by omega
      subst hj'
      by_cases hi':i=j
      . subst hi';exact KeyOrd.kle_refl _
      . exact KeyOrd.kle_trans (hs i (j-1) (by omega) (by omega)) hl
   obtain⟨m,e,a,b,c,d⟩:=zKW f (n+1) (by omega) hs'
   refine⟨m,by simpa using e,by omega,by omega,c,?_⟩
   rcases d with d | d
   . exact .inl (by omega)
   . exact .inr d
theorem zHW {p:Array Nat}{n nrem:Nat}(h1:1<=n)(hn:n<=nrem)(hz:nrem<=p.size)(hs:Fl key p n) :
 ∃m q,ev (lt_ key) (kas_tail3 n nrem p)=(m,q)/\q.Perm p/\1<=m/\m<=nrem/\Sr key q m:=by
 unfold kas_tail3
 have hs':Sr key (kas_rev p 0 n) n:=fun i j hij hj=>by
  rw[zJv (by omega),zJv (by omega),if_pos (by omega),if_pos (by omega)]
  exact hs _ _ (by omega) (by omega)
 obtain⟨m,e,a,b,c,_⟩:=zKW (nrem-n) n h1 hs'
 exact⟨m,kas_rev p 0 n,by rw[zDy,e];rfl,zCH _ _ _,by omega,by omega,c⟩
theorem zFz:∀(f n q:Nat)(p:Array Nat),1<=n->n+f<=p.size->Fl key p n->q+1<=n->(∀i,n-(q+1)<=i->i<n->kk key p i=kk key p (n-1)) ->
 ∃p' n' q',ev (lt_ key) (kas_desc f p n q)=(p',n',q')/\p'.Perm p/\n<=n'/\n'<=n+f/\Fl key p' n'/\q'+1<=n'/\(∀i,n'-(q'+1)<=i->i<n'->kk key p' i=kk key p' (n'-1))
 | 0,n,q,p,_,_,hs,hq,he=>⟨p,n,q,rfl,.refl _,zH _,zH _,hs,hq,he⟩
 | f+1,n,q,p,h1,hz,hs,hq,he=>by
  show ∃p' n' q',ev (lt_ key) (if lt_ key (p.getD n 0) (p.getD (n-1) 0)=true then _ else KasT.ask _ _ _)=(p',n',q')/\_
  cases hl:lt_ key (p.getD n 0) (p.getD (n-1) 0) with
  | true=>
   have step:∀xs:Array Nat,(∀k,kk key xs k=kk key p k)->Fl key xs (n+1):=fun xs hk i j hij hj=>by
    rw[hk,hk]
    by_cases hjn:j<n
    . exact hs i j hij hjn
    . have hj':j=n:=by omega
      subst hj'
      by_cases hi':i=j
      . subst hi';exact KeyOrd.kle_refl _
      . exact KeyOrd.kle_trans (KeyOrd.kle_of_klt hl) (hs i (j-1) (by omega) (by omega))
   by_cases hq0:q > 0
   . have hk:=zEo (key:=key) (p:=p) (i:=n-(q+1)) (j:=n) (by omega) he
     obtain⟨p',n',q',e,a,b,c,d⟩:=zFz f (n+1) 0 (kas_rev p (n-(q+1)) n) (by omega) (by rw[zFi];omega) (step _ hk) (by omega) (fun i h1 h2=>by congr 1;omega)
     exact⟨p',n',q',by simpa [hq0] using e,a.trans (zCH _ _ _),by omega,by omega,d⟩
   . obtain⟨p',n',q',e,a,b,c,d⟩:=zFz f (n+1) 0 p (by omega) (by omega) (step _ fun _=>rfl) (by omega) (fun i h1 h2=>by congr 1;omega)
     exact⟨p',n',q',by simpa [hq0] using e,a,by omega,by omega,d⟩
  | false=>
   show ∃p' n' q',ev (lt_ key) (if lt_ key (p.getD (n-1) 0) (p.getD n 0)=true then KasT.ret (p,n,q) else kas_desc f p (n+1) (q+1))=(p',n',q')/\_
   cases hr:lt_ key (p.getD (n-1) 0) (p.getD n 0) with
   | true=>exact⟨p,n,q,by simp[ev],.refl _,zH _,by omega,hs,hq,he⟩
   | false=>
    have heq:kk key p n=kk key p (n-1):=KeyOrd.kle_antisymm hr hl
    have hs':Fl key p (n+1):=fun i j hij hj=>by
     by_cases hjn:j<n
     . exact hs i j hij hjn
     . have hj':j=n:=by omega
       subst hj'
       by_cases hi':i=j
       . subst hi';exact KeyOrd.kle_refl _
       . rw[heq];exact hs i (j-1) (by omega) (by omega)
    obtain⟨p',n',q',e,a,b,c,d⟩:=zFz f (n+1) (q+1) p (by omega) (by omega) hs' (by omega) (fun i h1 h2=>by
     rw[show n+1-1=n by omega]
     by_cases hix:i=n
     . subst hix;rfl
     . rw[heq];exact he i (by omega) (by omega))
    exact⟨p',n',q',by simpa using e,a,by omega,by omega,d⟩
theorem zEz {p:Array Nat}{n nrem:Nat}(hn:n+1<=nrem)(hz:nrem<=p.size)(hs:Fl key p (n+1)) :
 ∃m q,ev (lt_ key) (kas_descPart n nrem p)=(m,q)/\q.Perm p/\1<=m/\m<=nrem/\Sr key q m:=by
 unfold kas_descPart
 rw[zDy]
 obtain⟨p',n',q',e,a,b,c,d,hq,he⟩:=zFz (nrem-(n+1)) (n+1) 0 p (by omega) (by omega) hs (by omega) (fun i h1 h2=>by congr 1;omega)
 rw[e]
 dsimp only
 have hz':p'.size=p.size:=a.size_eq
 by_cases hq0:q' > 0
 . rw[if_pos hq0]
   have hk:=zEo (key:=key) (p:=p') (i:=n'-(q'+1)) (j:=n') (by omega) he
   obtain⟨m,r,e2,a2,b2,c2,d2⟩:=zHW (key:=key) (p:=kas_rev p' (n'-(q'+1)) n') (n:=n') (nrem:=nrem) (by omega) (by omega) (by rw[zFi];omega) (fun i j hij hj=>by rw[hk,hk];exact d i j hij hj)
   exact⟨m,r,e2,a2.trans ((zCH _ _ _).trans a),b2,c2,d2⟩
 . rw[if_neg hq0]
   obtain⟨m,r,e2,a2,b2,c2,d2⟩:=zHW (key:=key) (p:=p') (n:=n') (nrem:=nrem) (by omega) (by omega) (by omega) d
   exact⟨m,r,e2,a2.trans a,b2,c2,d2⟩
theorem zLW {p:Array Nat}{nrem:Nat}(h1:1<=nrem)(hz:nrem<=p.size):∃m q,ev (lt_ key) (kas_count nrem p)=(m,q)/\q.Perm p/\1<=m/\m<=nrem/\Sr key q m:=by
 unfold kas_count
 rw[zDy]
 obtain⟨n,e,a,b,hsn,hor⟩:=zKW (key:=key) (p:=p) (nrem-1) 1 (zH _) (fun i j hij hj=>by have:i=j:=(by omega);subst this;exact KeyOrd.kle_refl _)
 rw[e]
 by_cases hnn:n=nrem
 . rw[if_pos (by simpa using hnn)]
   exact⟨n,p,rfl,.refl _,a,by omega,hsn⟩
 . rw[if_neg (by simpa using hnn)]
   have hlt:O.klt (kk key p n) (kk key p (n-1)):=hor.resolve_left (by omega)
   by_cases hgt:n > 1
   . rw[if_pos hgt]
     show ∃m q,ev (lt_ key) (if lt_ key (p.getD 0 0) (p.getD (n-1) 0)=true then KasT.ret (n,p) else kas_descPart n nrem (kas_rev p 0 n))=(m,q)/\_
     cases hr:lt_ key (p.getD 0 0) (p.getD (n-1) 0) with
     | true=>exact⟨n,p,by simp[ev],.refl _,a,by omega,hsn⟩
     | false=>
      have hall:∀k,0<=k->k<n->kk key p k=kk key p (n-1):=fun k _ hk=>
       KeyOrd.kle_antisymm (hsn k (n-1) (by omega) (by omega)) (KeyOrd.kle_trans hr (hsn 0 k (by omega) hk))
      have hk:=zEo (key:=key) (p:=p) (i:=0) (j:=n) (by omega) hall
      obtain⟨m,q,e2,a2,b2,c2,d2⟩:=zEz (key:=key) (p:=kas_rev p 0 n) (n:=n) (nrem:=nrem) (by omega) (by rw[zFi];omega) (fun i j hij hj=>by
       rw[hk,hk]
       by_cases hjn:j<n
       . rw[hall i (by omega) (by omega),hall j (by omega) hjn];exact KeyOrd.kle_refl _
       . have hj':j=n:=by omega
         subst hj'
         by_cases hi':i=j
         . subst hi';exact KeyOrd.kle_refl _
         . rw[hall i (by omega) (by omega)];exact KeyOrd.kle_of_klt hlt)
      exact⟨m,q,by simpa using e2,a2.trans (zCH _ _ _),b2,c2,d2⟩
   . rw[if_neg hgt]
     have hn1:n=1:=by omega
     subst hn1
     refine zEz (by omega) hz fun i j hij hj=>?_
     by_cases hi':i=j
     . subst hi';exact KeyOrd.kle_refl _
     . have hi0:i=0:=by omega
       have hj1:j=1:=by omega
       subst hi0;subst hj1
       exact KeyOrd.kle_of_klt hlt
theorem zFm {p:Array Nat}{k:Nat}(hs:Sr key p k):∀(f l r:Nat),l<=r->r<=k->r-l<=f->(∀i,i<l->O.kle (kk key p i) (kk key p k))->(∀i,r<=i->i<k->O.klt (kk key p k) (kk key p i)) ->
 ∃m,ev (lt_ key) (kas_place p k f l r)=m/\m<=k/\(∀i,i<m->O.kle (kk key p i) (kk key p k))/\(∀i,m<=i->i<k->O.klt (kk key p k) (kk key p i))
 | 0,l,r,hlr,hrk,hf,hlo,hhi=>⟨l,rfl,by omega,hlo,fun i h1 h2=>hhi i (by omega) h2⟩
 | f+1,l,r,hlr,hrk,hf,hlo,hhi=>by
  unfold kas_place
  by_cases hge:l ≥ r
  . rw[if_pos hge]
    exact⟨l,rfl,by omega,hlo,fun i h1 h2=>hhi i (by omega) h2⟩
  . rw[if_neg hge]
    show ∃m,ev (lt_ key) (if lt_ key (p.getD k 0) (p.getD ((l+r)/2) 0)=true then kas_place p k f l ((l+r)/2) else kas_place p k f ((l+r)/2+1) r)=m/\_
    cases hl:lt_ key (p.getD k 0) (p.getD ((l+r)/2) 0) with
    | true=>
     obtain⟨m,e,x⟩:=zFm hs f l ((l+r)/2) (by omega) (by omega) (by omega) hlo (fun i h1 h2=>KeyOrd.klt_of_klt_of_kle hl (hs _ _ h1 h2))
     exact⟨m,by simpa using e,x⟩
    | false=>
     obtain⟨m,e,x⟩:=zFm hs f ((l+r)/2+1) r (by omega) (by omega) (by omega) (fun i h1=>KeyOrd.kle_trans (hs i ((l+r)/2) (by omega) (by omega)) (show O.kle _ _ from hl)) hhi
     exact⟨m,by simpa using e,x⟩
theorem zL5:∀(f:Nat)(p:Array Nat)(k:Nat),k+f=p.size->Sr key p k->∃q,ev (lt_ key) (kas_bin f p k)=q/\q.Perm p/\Sr key q (k+f)
 | 0,p,k,_,hs=>⟨p,rfl,.refl _,hs⟩
 | f+1,p,k,hz,hs=>by
  unfold kas_bin
  rw[zDy]
  obtain⟨l,e,hlk,hlo,hhi⟩:=zFm (key:=key) hs k 0 k (by omega) (by omega) (by omega) (fun i h=>by omega) (fun i h1 h2=>by omega)
  rw[e]
  have hs':Sr key (bubble p k (k-l)) (k+1):=fun i j hij hj=>by
   rw[zGY (by omega) (by omega),zGY (by omega) (by omega),show k-(k-l)=l by omega]
   repeat' split
   all_goals first
    | (exfalso;omega)
    | exact KeyOrd.kle_refl _
    | exact hlo _ (by omega)
    | exact KeyOrd.kle_of_klt (hhi _ (by omega) (by omega))
    | exact hs _ _ (by omega) (by omega)
  obtain⟨q,e2,a,b⟩:=zL5 f (bubble p k (k-l)) (k+1) (by rw[(bubble_perm p k (k-l)).size_eq];omega) hs'
  exact⟨q,e2,a.trans (bubble_perm _ _ _),by rw[show k+(f+1)=k+1+f by omega];exact b⟩
theorem zMK (n:Nat)(h1:1<=n):∃q,ev (lt_ key) (kas_sort n)=q/\q.Perm (List.range n).toArray/\Sr key q n:=by
 unfold kas_sort
 rw[zDy]
 have hz:(List.range n).toArray.size=n:=by simp
 obtain⟨m,q,e,a,b,c,d⟩:=zLW (key:=key) (p:=(List.range n).toArray) h1 (by omega)
 rw[e]
 dsimp only
 have hq:q.size=n:=by rw[a.size_eq,hz]
 by_cases hm:m<n
 . rw[if_pos hm]
   obtain⟨r,e2,a2,b2⟩:=zL5 (key:=key) (n-max m 1) q (max m 1) (by omega) (by rw[show max m 1=m by omega];exact d)
   exact⟨r,e2,a2.trans a,by rw[show max m 1+(n-max m 1)=n by omega] at b2;exact b2⟩
 . rw[if_neg hm]
   have:m=n:=by omega
   subst this
   exact⟨q,rfl,a,d⟩
end
end SortT
namespace SortT
open PySem.W PyProof.Rows
noncomputable def zFH {α:Type}(n:Nat)(R:α->Prop):KasT α->Prop
 | .ret a=>R a
 | .ask i j k=>i<n/\j<n/\∀b,zFH n R (k b)
theorem zFH.bind {α β:Type}{n:Nat}{R:α->Prop}{R':β->Prop}{f:α->KasT β}(hf:∀a,R a->zFH n R' (f a)):∀(t:KasT α),zFH n R t->zFH n R' (t.bind f)
 | .ret a,h=>hf a h
 | .ask _ _ k,h=>⟨h.1,h.2.1,fun b=>zFH.bind hf (k b) (h.2.2 b)⟩
noncomputable def Bd (n:Nat)(p:Array Nat):Prop:=∀i,p.getD i 0<n
theorem Bd.perm {n:Nat}{p q:Array Nat}(h:Bd n q)(hp:p.Perm q):Bd n p:=fun i=>by
 have h0:0<n:=zAx (zb _) (h 0)
 by_cases hi:i<p.size
 . have e:p.getD i 0=p[i]:=by simp[Array.getD,hi]
   rw[e]
   have hm:p[i]∈q.toList:=(Array.perm_iff_toList_perm.mp hp).mem_iff.mp (by simp)
   obtain⟨j,hj,ej⟩:=zAW hm
   have hj':j<q.size:=by simpa using hj
   have:=h j
   rw[show q.getD j 0=q[j] by simp[Array.getD,hj']] at this
   rw[<-ej]
   simpa using this
 . have e:p.getD i 0=0:=by simp[Array.getD,hi]
   rw[e];exact h0
theorem zHP {n:Nat}{p:Array Nat}(hp:Bd n p):∀f m,zFH n (fun _=>True) (kas_asc p f m)
 | 0,_=>trivial
 | f+1,m=>⟨hp _,hp _,fun b=>by
  cases b with
  | true=>exact trivial
  | false=>exact zHP hp f (m+1)⟩
theorem zEL {n:Nat}:∀(f:Nat)(p:Array Nat)(m q:Nat),Bd n p->zFH n (fun r=>Bd n r.1) (kas_desc f p m q)
 | 0,_,_,_,hp=>hp
 | f+1,p,m,q,hp=>⟨hp _,hp _,fun b=>by
  cases b with
  | true=>
   show zFH n _ (if q > 0 then kas_desc f (kas_rev p (m-(q+1)) m) (m+1) 0 else kas_desc f p (m+1) 0)
   split
   . exact zEL f _ _ _ (hp.perm (zCH _ _ _))
   . exact zEL f _ _ _ hp
  | false=>
   refine⟨hp _,hp _,fun d=>?_⟩
   cases d with
   | true=>exact hp
   | false=>exact zEL f _ _ _ hp⟩
theorem zGF {n m nrem:Nat}{p:Array Nat}(hp:Bd n p):zFH n (fun r=>Bd n r.2) (kas_tail3 m nrem p):=by
 unfold kas_tail3
 exact zFH.bind (R:=fun _=>True) (R':=fun r=>Bd n r.2) (f:=fun k=>KasT.ret (k,kas_rev p 0 m)) (fun a _=>hp.perm (zCH p 0 m)) _ (zHP (hp.perm (zCH p 0 m)) _ _)
theorem zD9 {n m nrem:Nat}{p:Array Nat}(hp:Bd n p):zFH n (fun r=>Bd n r.2) (kas_descPart m nrem p):=
 zFH.bind (fun r hr=>by
  split
  . exact zGF (hr.perm (zCH _ _ _))
  . exact zGF hr) _ (zEL _ _ _ _ hp)
theorem zKL {n nrem:Nat}{p:Array Nat}(hp:Bd n p):zFH n (fun r=>Bd n r.2) (kas_count nrem p):=
 zFH.bind (fun r _=>by
  split
  . exact hp
  . split
    . refine⟨hp _,hp _,fun b=>?_⟩
      cases b with
      | true=>exact hp
      | false=>exact zD9 (hp.perm (zCH _ _ _))
    . exact zD9 hp) _ (zHP hp _ _)
theorem zEX {n k:Nat}{p:Array Nat}(hp:Bd n p):∀f l r,zFH n (fun _=>True) (kas_place p k f l r)
 | 0,_,_=>trivial
 | f+1,l,r=>by
  unfold kas_place
  split
  . exact trivial
  . refine⟨hp _,hp _,fun b=>?_⟩
    cases b with
    | true=>exact zEX hp f _ _
    | false=>exact zEX hp f _ _
theorem zKT {n:Nat}:∀(f:Nat)(p:Array Nat)(k:Nat),Bd n p->zFH n (fun _=>True) (kas_bin f p k)
 | 0,_,_,_=>trivial
 | f+1,p,k,hp=>zFH.bind (fun l _=>zKT f _ _ (hp.perm (bubble_perm _ _ _))) _ (zEX hp _ _ _)
theorem zKo {n:Nat}(h:0<n):zFH n (fun _=>True) (kas_sort n):=
 zFH.bind (fun r hr=>by
  split
  . exact zKT _ _ _ hr
  . exact trivial) _ (zKL fun i=>by
    by_cases hi:i<n
    . simp[Array.getD,hi]
    . simp[Array.getD,hi];exact h)
end SortT
namespace SortT
open PySem PySem.W PySem.Calls PyProof.Rows
theorem wp_ev {α:Type}{cmp:Nat->Nat->(Bool->Shared->Prop)->Shared->Prop}{lt:Nat->Nat->Bool}{n:Nat}{s:Shared}(hc:∀i j C,i<n->j<n->C (lt i j) s->cmp i j C s){R:α->Prop}{Q:α->Shared->Prop} :
 ∀t:KasT α,zFH n R t->Q (ev lt t) s->t.kasWp cmp Q s
 | .ret _,_,h=>h
 | .ask i j k,w,h=>hc i j _ w.1 w.2.1 (wp_ev hc (k (lt i j)) (w.2.2 _) h)
section
variable {prog:Program}{w:World}{A:Around}{E:Value->Shared->Prop}{s:Shared}
structure Put {O:KeyOrd}(key:Nat->O.α)(n:Nat)(out:List Nat):Prop where
 perm:out.Perm (List.range n)
 rise:∀(i j a b:Nat),i<=j->out[i]? = some a->out[j]? = some b->O.kle (key a) (key b)
theorem put_of {O:KeyOrd}{key:Nat->O.α}{n:Nat}{q:Array Nat}(hp:q.Perm (List.range n).toArray)(hs:Sr key q n):Put key n q.toList:=by
 have hl:q.toList.Perm (List.range n):=Array.perm_iff_toList_perm.mp hp
 refine⟨hl,fun i j a b hij ha hb=>?_⟩
 have hz:q.size=n:=by have:=hp.size_eq;simpa using this
 have hj:j<q.toList.length:=(zM.mp hb).1
 have hj':j<n:=by rw[<-hz];simpa using hj
 have h:=hs i j hij hj'
 have ga:q.getD i 0=a:=by
  rw[Array.getD_eq_getD_getElem?,<-Array.getElem?_toList,ha];rfl
 have gb:q.getD j 0=b:=by
  rw[Array.getD_eq_getD_getElem?,<-Array.getElem?_toList,hb];rfl
 unfold kk at h
 rw[ga,gb] at h
 exact h
structure Asks (prog:Program)(w:World)(A:Around)(s:Shared)(a:Addr)(vs:List Value){O:KeyOrd}(key:Nat->O.α)(κ:SortKind):Prop where
 kind:∀(h':Heap)(Q:SortKind->Shared->Prop)(E:Value->Shared->Prop),(∀b o,b≠a->s.heap.get? b=some o->h'.get? b=some o)->Q κ { s with heap:=h' }->wpAny (model prog w) A (keyKind' vs.toArray) Q E { s with heap:=h' }
 less:∀(h':Heap)(i j:Nat)(Q:Bool->Shared->Prop)(E:Value->Shared->Prop),(∀b o,b≠a->s.heap.get? b=some o->h'.get? b=some o)->i<vs.length->j<vs.length->Q (O.blt (key i) (key j)) { s with heap:=h' } ->
  wpAny (model prog w) A (keyLt' κ (vs.getD i Value.none) (vs.getD j Value.none)) Q E { s with heap:=h' }
theorem list_sort {a:Addr}{vs:List Value}{n:Nat}{P:PySem.Fin->Shared->Prop}{O:KeyOrd}{key:Nat->O.α}{κ:SortKind}(ho:s.heap.get? a=some (seqObj "list" vs.toArray n)) (h64:vs.length<64)
 (ask:2<=vs.length->Asks prog w A s a vs key κ)
 (h:∀out:List Nat,Put key vs.length out->P (.done (.ret .none)) { s with heap:=sortedHeap s.heap a vs (out.map fun i=>vs.getD i Value.none).toArray }) :
 wpAny (model prog w) A (Builtin.«list.sort» ⟨[.ref a],[]⟩) P E s:=by
 rw[list_sort_plain]
 have ha:a<s.heap.objs.size:=zW ho
 refine zA (listItems_at ho rfl ?_)
 refine zA (listUpdate_at ho rfl ?_ (by rw[zP,sizeLine_eq];omega) (zb _))
 obtain⟨e1,ho1⟩:∃e1,(s.heap.update a (Obj.mapSeq fun _=>#[])).get? a=some (seqObj "list" #[] e1):=⟨_,get?_update_seq ho (fun _=>#[])⟩
 refine zA (seqEpoch_at ho1 rfl ?_)
 refine zA (wpAny_newTuple ?_ (by show vs.length<=_;rw[sizeLine_eq];omega))
 refine zA (wpAny_newList ?_ (zb _))
 refine zx ?_
 have ho6:(((s.heap.update a (Obj.mapSeq fun _=>#[])).push (seqObj "tuple" vs.toArray 0)).push (seqObj "list" #[] 0)).get? a=some (seqObj "list" #[] e1):=by
  rw[Heap.get?_push_ne _ _ _ (by rw[size_push',Heap.size_update];exact zh (zBM ha)),Heap.get?_push_ne _ _ _ (by rw[Heap.size_update];exact zh ha)]
  exact ho1
 have keep:∀b o,b≠a->s.heap.get? b=some o->(((s.heap.update a (Obj.mapSeq fun _=>#[])).push (seqObj "tuple" vs.toArray 0)).push (seqObj "list" #[] 0)).get? b=some o:=fun b o hb e=>by
  refine zI _ (zI _ ?_)
  rw[Heap.get?_update_ne _ _ _ _ hb]
  exact e
 show wpAny (model prog w) A _ P E { s with heap:=((s.heap.update a (Obj.mapSeq fun _=>#[])).push (seqObj "tuple" vs.toArray 0)).push (seqObj "list" #[] 0) }
 dsimp only
 by_cases h2:vs.toArray.size<2
 . rw[if_pos h2,if_pos h2]
   refine zA (zD ?_)
   rw[StateT.run_pure]
   refine zA (zD ?_)
   dsimp only
   refine zA (seqEpoch_at ho6 rfl ?_)
   refine zA (listUpdate_at ho6 rfl ?_ (zb _) (by rw[Array.size_map];show (pairsOf vs).size<=_;rw[pairsOf_size,sizeLine_eq];omega))
   simp only[bne_self_eq_false,zBi,if_false]
   refine zD ?_
   have hlen:vs.length<2:=by simpa using h2
   have hout:(arrOf (SortSt.mk' general' (vs.toArray.zip vs.toArray) #[] 7 none)).map (·.2)=((List.range vs.length).map fun i=>vs.getD i Value.none).toArray:=by
    show (vs.toArray.zip vs.toArray).map (·.2)=_
    match vs,hlen with
    | [],_=>simp
    | [v],_=>simp
    | _::_::_,h=>exfalso;simp only[zY] at h;omega
   have fin:=h (List.range vs.length) ⟨.refl _,fun i j x y hij hx hy=>by
    have hj:j<(List.range vs.length).length:=(zM.mp hy).1
    rw[zAQ] at hj
    have e:i=j:=by omega
    subst e
    rw[hx] at hy
    cases hy
    exact KeyOrd.kle_refl _⟩
   rw[<-hout] at fin
   exact fin
 . rw[if_neg h2,if_neg h2]
   have h2':2<=vs.length:=by
    have:¬ vs.length<2:=by simpa using h2
    omega
   have K:=ask h2'
   refine zA (K.kind _ _ _ keep ?_)
   obtain⟨q,eq,hp,hs⟩:=zMK (key:=key) vs.length (by omega)
   have run:(kas_sort vs.length).kasWp (kas_ask prog w A κ vs) (fun p s'=>p=q/\s'={ s with heap:=((s.heap.update a (Obj.mapSeq fun _=>#[])).push (seqObj "tuple" vs.toArray 0)).push (seqObj "list" #[] 0) })
    { s with heap:=((s.heap.update a (Obj.mapSeq fun _=>#[])).push (seqObj "tuple" vs.toArray 0)).push (seqObj "list" #[] 0) }:=
    wp_ev (lt:=lt_ key) (n:=vs.length) (fun i j C hi hj hC=>K.less _ i j C _ keep hi hj hC) _ (zKo (by omega)) ⟨eq,rfl⟩
   refine zA (zAJ (kat_run (ks:=vs) (vs:=vs) (Q:=fun st' s'=>∃p:Array Nat,p.size=vs.length/\arrOf st'=p.map (kas_item (vs.toArray.zip vs.toArray))/\failedOf st'=none/\p=q/\s'={ s with heap:=((s.heap.update a (Obj.mapSeq fun _=>#[])).push (seqObj "tuple" vs.toArray 0)).push (seqObj "list" #[] 0) })
    rfl h2' h64 (fun p' st' s' a1 a2 a3 a4=>⟨p',a1,a2,a3,a4⟩) run) ?_ fun _ _ e=>e)
   rintro ⟨⟨⟩,st'⟩ s' ⟨p,hsz,har,hf,rfl,rfl⟩
   dsimp only
   refine zA (seqEpoch_at ho6 rfl ?_)
   refine zA (listUpdate_at ho6 rfl ?_ (zb _) (by rw[Array.size_map,har,Array.size_map,hsz,sizeLine_eq];omega))
   rw[hf]
   simp only[bne_self_eq_false,zBi,if_false]
   refine zD ?_
   have hout:=kat_snds (ks:=vs) (vs:=vs) rfl har
   have fin:=h p.toList (put_of hp hs)
   rw[<-hout] at fin
   exact fin
theorem sorted_list {l:Addr}{vs:List Value}{Q:Value->Shared->Prop}{O:KeyOrd}{key:Nat->O.α}{κ:SortKind}(hl:s.heap.IsList l vs.toArray)(h64:vs.length<64)
 (ask:2<=vs.length->∀(s':Shared)(a:Addr),(∀b o,s.heap.get? b=some o->b≠a)->(∀b o,s.heap.get? b=some o->s'.heap.get? b=some o)->Asks prog w A.in1.in1 s' a vs key κ)
 (h:∀(D:Addr)(h':Heap)(out:List Nat)(c:Nat),Put key vs.length out->s.heap.objs.size<=D->(∀b o,s.heap.get? b=some o->h'.get? b=some o) ->
  h'.get? D=some (seqObj "list" (out.map fun i=>vs.getD i Value.none).toArray c)->Q (.ref D) { s with heap:=h' }) :
 wpAny (model prog w) A (call (.builtin "sorted") [.ref l]) Q E s:=by
 refine Calls.call_function_entry kind_sorted plain_sorted entry_sorted (args_sorted1 _) ?_
 unfold Builtin.«sorted»
 refine zA (m:=checkCount "sorted" 1 1 _) (zD ?_)
 refine zA (collect_list hl ?_ (by rw[sizeLine_eq];omega))
 refine zA (wpAny_newList ?_ (by rw[sizeLine_eq];omega))
 have hsz:((s.heap.push (seqObj "list" #[] 0)).update s.heap.objs.size (Obj.mapSeq (· ++ vs.toArray))).objs.size=s.heap.objs.size+1:=by
  rw[Heap.size_update,size_push']
 have hoL:(((s.heap.push (seqObj "list" #[] 0)).update s.heap.objs.size (Obj.mapSeq (· ++ vs.toArray))).push (seqObj "list" vs.toArray 0)).get? (s.heap.objs.size+1)=some (seqObj "list" vs.toArray 0):=by
  rw[<-hsz];exact zO _ rfl
 have keep:∀b o,s.heap.get? b=some o->(((s.heap.push (seqObj "list" #[] 0)).update s.heap.objs.size (Obj.mapSeq (· ++ vs.toArray))).push (seqObj "list" vs.toArray 0)).get? b=some o:=fun b o q=>by
  have hlt:b<s.heap.objs.size:=zW q
  rw[Heap.get?_push_ne _ _ _ (by rw[hsz];exact zh (zBM hlt)),Heap.get?_update_ne _ _ _ _ (zh hlt),Heap.get?_push_ne _ _ _ (zh hlt)]
  exact q
 show wpAny _ _ _ _ _ { s with heap:=((s.heap.push (seqObj "list" #[] 0)).update s.heap.objs.size (Obj.mapSeq (· ++ vs.toArray))).push (seqObj "list" vs.toArray 0) }
 rw[hsz]
 refine zA (zx (zAO slot_list_sort ⟨_,hoL,rfl⟩ entry_list_sort (list_sort (O:=O) (key:=key) (κ:=κ) hoL h64 (fun h2=>ask h2 _ _ (fun b o e=>zh (zBM (zW e))) keep) fun out hp=>⟨_,rfl,?_⟩) (args_list_sort _)))
 refine zD ⟨_,rfl,?_⟩
 obtain⟨c,hc⟩:=sortedAll_at s.heap vs (out.map fun i=>vs.getD i Value.none).toArray
 exact h _ _ out c hp (zBl _) (fun b o e=>sortedAll_old e) hc
end
end SortT
namespace DRaw
open PySem PySem.W PySem.Calls PyProof.Rows
noncomputable def At (h:Heap)(d:Addr)(es:Array DictEntry)(ep:Nat):Prop:=∃o,h.get? d=some o/\o.ExactDict/\o.data = .dict es ep
theorem At.keep {h h':Heap}{d:Addr}{es:Array DictEntry}{ep:Nat}(x:At h d es ep)(k:∀o,h.get? d=some o->h'.get? d=some o):At h' d es ep:=
 let ⟨o,ho,r⟩:=x;⟨o,k o ho,r⟩
theorem At.lt {h:Heap}{d:Addr}{es:Array DictEntry}{ep:Nat}(x:At h d es ep):d<h.objs.size:=let ⟨_,ho,_⟩:=x;zW ho
theorem At.typeIs {s:Shared}{d:Addr}{es:Array DictEntry}{ep:Nat}(x:At s.heap d es ep):s.TypeIs (.ref d) "dict" := let ⟨o,ho,hc,_⟩:=x;⟨o,ho,hc.1⟩
section
variable {prog:Program}{w:World}{A:Around}{E:Value->Shared->Prop}{s:Shared}{it d:Addr}{es:Array DictEntry}{i ep:Nat}
theorem iter {Q:Value->Shared->Prop}(hd:(d==sysModules)=false)(hm:At s.heap d es ep)
 (hQ:Q (.ref s.heap.objs.size) { s with heap:=s.heap.push { cls:=.type "dict_keyiterator",data:=.fields #[.ref d,.int 0 0,.int es.size 0,.int ep 0] } }) :
 wpAny (model prog w) A (pyIter (.ref d)) Q E s:=by
 obtain⟨o,ho,hc,hdat⟩:=id hm
 have hT:=hm.typeIs
 refine wpAny_pyIter_slot hT F.slot_dict_iter (zAO F.slot_dict_iter hT F.entry_dict_iter ?_ (F.args_dict_iter_1 _))
 unfold Builtin.«dict.__iter__»
 refine zA ?_
 unfold Builtin.Dict.dictSlotNone
 refine zA (wpAny_notOrdered_dict hT ?_)
 show wpAny _ _ (pure (Value.ref d)) _ _ s
 refine zD ?_
 show wpAny _ _ (Builtin.Dict.showsAll d >>= _) _ _ s
 unfold Builtin.Dict.showsAll
 rw[if_neg (by rw[hd];exact zt)]
 refine zA (zD ?_)
 refine zA (wpAny_dictEntries ho hdat ?_)
 refine zA (wpAny_dictEpoch ho hdat ?_)
 refine zA (zw (zD ⟨_,rfl, "dict_keyiterator",_,⟨_,zO _ rfl,rfl⟩,F.slot_dict_keyiterator_next.lookup,?_⟩))
 simpa [rawInt] using hQ
theorem next {Q:Option Value->Shared->Prop}(hit:s.heap.IsKeyIter it d i es.size ep)(hm:At s.heap d es ep)(hlt':i<es.size)
 (hQ:∀h',h'.IsKeyIter it d (i+1) es.size ep->Heap.SameBut it s.heap h'->Q (some es[i].key) { s with heap:=h' }):wpAny (model prog w) A (pyNext (.ref it)) Q E s:=by
 obtain⟨o,ho,hc,hd⟩:=id hit
 obtain⟨od,hod,hcd,hdd⟩:=id hm
 unfold pyNext
 refine zA (wpAny_attempt (zAh (name:=Str.ofString "__next__") hit.typeIs F.slot_dict_keyiterator_next
  (zAO F.slot_dict_keyiterator_next hit.typeIs F.entry_dict_keyiterator_next ?_ (F.args_dict_keyiterator_next_1 _))))
 refine zA (zD ?_)
 refine zA ?_
 refine zA ?_
 first | refine zA (zB4 hit.typeIs (zD ?_)) | refine zA (wpAny_typeNameOf_keyiter hit.typeIs (zD ?_))
 refine zA (wpAny_fieldsOf ho hd ?_)
 have hown:Builtin.Dict_items.ownsTuple "dict_keyiterator" = false:=by decide
 simp only[hown,zBi,if_false]
 show wpAny _ _ (if (Value.ref d==Value.none)=true then _ else _) _ _ s
 rw[if_neg (show ¬ ((Value.ref d==Value.none)=true) from zt)]
 refine zA (zD ?_)
 refine zA (wpAny_dictEntries hod hdd ?_)
 rw[if_neg (by simp)]
 refine zA (zD ?_)
 refine zA (wpAny_dictEpoch hod hdd ?_)
 rw[if_neg (by simp)]
 refine zD ?_
 simp only[show ¬ ((i:Int)<0) from by omega,if_false,zAT,Array.getElem?_eq_getElem hlt']
 refine zA ?_
 first | refine zA (zB4 hit.typeIs (zD ?_)) | refine zA (wpAny_typeNameOf_keyiter hit.typeIs (zD ?_))
 refine zA (wpAny_isOneOf_keyiter hit.typeIs ?_)
 show wpAny _ _ (setField (.ref it) 1 (rawInt ((i:Int)+1)) >>= _) _ _ s
 refine zA (zB6 ho hd (by simp) ?_)
 have hit':(s.heap.update it (Obj.mapFields (·.setIfInBounds 1 (rawInt ((i:Int)+1))))).IsKeyIter it d (i+1) es.size ep:=
  ⟨_,zv _ ho (Obj.isFreed_of_fields (Obj.data_mapFields hd _)),(Obj.cls_mapFields ..).trans hc,by rw[Obj.data_mapFields hd];simp[rawInt]⟩
 refine zA (zx ?_)
 refine zA (wpAny_isOneOf_keyiter (s:={ s with heap:=s.heap.update it (Obj.mapFields (·.setIfInBounds 1 (rawInt ((i:Int)+1)))) }) hit'.typeIs ?_)
 show wpAny _ _ (pure es[i].key) _ _ _
 exact zD (zD ⟨_,rfl,zD (hQ _ hit' (zAr ..))⟩)
theorem stop {Q:Option Value->Shared->Prop}(hh:A.handled=none)(hit:s.heap.IsKeyIter it d i es.size ep)(hm:At s.heap d es ep)(hge:es.size<=i)
 (hQ:∀h',Heap.ExtBut it s.heap h'->Q none { s with heap:=h' }):wpAny (model prog w) A (pyNext (.ref it)) Q E s:=by
 obtain⟨o,ho,hc,hd⟩:=id hit
 obtain⟨od,hod,hcd,hdd⟩:=id hm
 unfold pyNext
 refine zA (wpAny_attempt (zAh (name:=Str.ofString "__next__") hit.typeIs F.slot_dict_keyiterator_next
  (zAO F.slot_dict_keyiterator_next hit.typeIs F.entry_dict_keyiterator_next ?_ (F.args_dict_keyiterator_next_1 _))))
 refine zA (zD ?_)
 refine zA ?_
 refine zA ?_
 first | refine zA (zB4 hit.typeIs (zD ?_)) | refine zA (wpAny_typeNameOf_keyiter hit.typeIs (zD ?_))
 refine zA (wpAny_fieldsOf ho hd ?_)
 have hown:Builtin.Dict_items.ownsTuple "dict_keyiterator" = false:=by decide
 simp only[hown,zBi,if_false]
 show wpAny _ _ (if (Value.ref d==Value.none)=true then _ else _) _ _ s
 rw[if_neg (show ¬ ((Value.ref d==Value.none)=true) from zt)]
 refine zA (zD ?_)
 refine zA (wpAny_dictEntries hod hdd ?_)
 rw[if_neg (by simp)]
 refine zA (zD ?_)
 refine zA (wpAny_dictEpoch hod hdd ?_)
 rw[if_neg (by simp)]
 refine zD ?_
 simp only[show ¬ ((i:Int)<0) from by omega,if_false,zAT,Array.getElem?_eq_none hge]
 refine zA ?_
 first | refine zA (zB4 hit.typeIs (zD ?_)) | refine zA (wpAny_typeNameOf_keyiter hit.typeIs (zD ?_))
 show wpAny _ _ (setField (.ref it) 0 .none >>= _) _ _ s
 refine zA (zB6 ho hd (by simp) ?_)
 show wpAny _ _ (newExc (.type "StopIteration") [] >>= _) _ _ _
 refine zA ?_
 simp only[newExc,newTuple]
 refine zA (zw ?_ (by size_fits))
 refine zA (m:=firstArgMember _ _) (wpAny_of_eq (a:=Value.none) (by first | rfl | (simp only[firstArgMember];rfl)) ?_)
 refine zw ?_ (by size_fits)
 simp only[raiseNew]
 refine zA (wpAny_handled ?_)
 rw[show A.in1.handled=none from hh]
 refine zA (zD (wpAny_throw ?_))
 refine zA (zBC (T := "StopIteration") (b:=true) ⟨_,zO _ rfl,rfl⟩ isSubtype_stop ?_)
 exact zD (hQ _ (((zAr ..).extBut.push _).push _))
end
section
variable {prog:Program}{w:World}{A:Around}{d:Addr}{es:Array DictEntry}{ep:Nat}
theorem walks (hh:A.handled=none)(I:Addr)(hne:d≠I):Walks prog w A I [I,d] [I] es.size (fun i v=>∃e,es[i]? = some e/\v=e.key) (fun i h=>h.IsKeyIter I d i es.size ep/\At h d es ep) where
 sub:=fun b hb=>by simp at hb;simp[hb]
 frame:=fun _ _ _ st hk=>⟨st.1.at fun o e=>hk I (by simp) o e,st.2.keep fun o e=>hk d (by simp) o e⟩
 item:=fun i s Q E hi st hQ=>next st.1 st.2 hi fun h' hit' hs'=>
  hQ _ h' s.toks ⟨es[i],by simp[hi],rfl⟩ ⟨hit',st.2.keep fun o e=>hs'.extBut d o hne e⟩ fun b o hb e=>hs'.extBut b o (fun h=>hb (by simp[h])) e
 done:=fun s Q E st hQ=>stop hh st.1 st.2 (zH _) fun h' he'=>hQ h' s.toks fun b o hb e=>he' b o (fun h=>hb (by simp[h])) e
 self:=fun _ _ _ _ st hQ=>wpAny_pyIter_keyiter st.1 hQ
theorem src (lo:(d==sysModules)=false):KdlSrc prog w "dict" d d es.size (fun i v=>∃e,es[i]? = some e/\v=e.key) (fun h=>At h d es ep) where
 type:=fun _ hm=>hm.typeIs
 there:=fun _ hm=>⟨hm.lt,hm.lt⟩
 keep:=fun _ _ hm hk=>hm.keep fun o e=>hk d (.inl rfl) o e
 notList:=by decide
 notTuple:=by decide
 hint:=fun _ _ _ _ hm hq=>kdl_hint_dict hm.typeIs hq
 iter:=fun _ _ hh hm=>⟨_,_,(fun _ _ hq=>iter lo hm hq),walks hh _ (zh hm.lt),⟨⟨_,zO _ rfl,rfl,rfl⟩,hm.keep fun o e=>zI _ e⟩⟩
end
end DRaw
namespace SortT
open PySem PySem.W PySem.Calls PyProof.Rows
theorem sorted_dict {prog:Program}{w:World}{A:Around}{E:Value->Shared->Prop}{s:Shared}{d:Addr}{es:Array DictEntry}{ep:Nat}{vs:List Value}{Q:Value->Shared->Prop}{O:KeyOrd}{key:Nat->O.α}{κ:SortKind}
 (hh:A.handled=none)(lo:(d==sysModules)=false)(hm:DRaw.At s.heap d es ep)(hvs:vs=es.toList.map (·.key))(h64:vs.length<64)
 (ask:2<=vs.length->∀(s':Shared)(a:Addr),(∀b o,s.heap.get? b=some o->b≠a)->(∀b o,s.heap.get? b=some o->s'.heap.get? b=some o)->Asks prog w A.in1.in1 s' a vs key κ)
 (h:∀(h1:Heap)(D:Addr)(h':Heap)(t':Nat)(out:List Nat)(c:Nat),Put key vs.length out->(∀b o,s.heap.get? b=some o->h1.get? b=some o)->h1.objs.size<=D->(∀b o,h1.get? b=some o->h'.get? b=some o) ->
  h'.get? D=some (seqObj "list" (out.map fun i=>vs.getD i Value.none).toArray c)->Q (.ref D) { s with heap:=h',toks:=t' }) :
 wpAny (model prog w) A (call (.builtin "sorted") [.ref d]) Q E s:=by
 have hlen:vs.length=es.size:=by rw[hvs];simp
 refine call_function_entry kind_sorted plain_sorted entry_sorted (args_sorted1 _) ?_
 unfold Builtin.«sorted»
 refine zA (m:=checkCount "sorted" 1 1 _) (zD ?_)
 refine zA (kdu_collect (A:=A.in1) (DRaw.src (es:=es) (ep:=ep) lo) hh hm (by rw[sizeLine_eq];omega) fun h1 tk acc hk hacc=>?_)
 have el:acc.toList=vs:=by
  apply List.ext_getElem?
  intro j
  by_cases hj:j<es.size
  . have hz:j<acc.size:=by rw[hacc.1];exact hj
    obtain⟨e,he,hv⟩:=hacc.2 j acc[j] (by simp[hz])
    rw[Array.getElem?_toList,Array.getElem?_eq_getElem hz,hv,hvs,zZ,Array.getElem?_toList,he]
    rfl
  . rw[zAB (by rw[Array.length_toList,hacc.1];omega),zAB (by omega)]
 rw[el]
 refine zA (wpAny_newList ?_ (by rw[sizeLine_eq];omega))
 have hoL:(h1.push (seqObj "list" vs.toArray 0)).get? h1.objs.size=some (seqObj "list" vs.toArray 0):=zO _ rfl
 have keep1:∀b o,h1.get? b=some o->(h1.push (seqObj "list" vs.toArray 0)).get? b=some o:=fun b o q=>zI _ q
 refine zA (zx (zAO slot_list_sort ⟨_,hoL,rfl⟩ entry_list_sort (list_sort (O:=O) (key:=key) (κ:=κ) hoL h64
  (fun h2=>ask h2 _ _ (fun b o e=>zh (zW (hk b o e))) fun b o e=>keep1 b o (hk b o e)) fun out hp=>⟨_,rfl,?_⟩) (args_list_sort _)))
 refine zD ⟨_,rfl,?_⟩
 obtain⟨c,hc⟩:=sortedHeap_at (vs:=vs) (out:=(out.map fun i=>vs.getD i Value.none).toArray) hoL
 refine h h1 _ _ _ out c hp hk (zH _) (fun b o e=>?_) hc
 have hb:b<h1.objs.size:=zW e
 rw[sortedHeap_old (zh hb) (by rw[zA0];exact zBM hb)]
 exact keep1 b o e
end SortT
namespace L2
open PySem PySem.Spec PyProof.Rows
theorem zFT:∀a:List Int,HT.lexLt a a=false
 | []=>rfl
 | x::r=>by rw[HT.lexLt_cons,if_pos rfl];exact zFT r
theorem zEl:∀a b c:List Int,HT.lexLt a b=true->HT.lexLt b c=true->HT.lexLt a c=true
 | [],[],_,h,_=>by cases h
 | [],_::_,[],_,h=>by cases h
 | [],_::_,_::_,_,_=>rfl
 | _::_,[],_,h,_=>by cases h
 | _::_,_::_,[],_,h=>by cases h
 | x::a,y::b,z::c,h1,h2=>by
  rw[HT.lexLt_cons] at h1 h2 ⊢
  by_cases e1:x=y
  . subst e1
    rw[if_pos rfl] at h1
    by_cases e2:x=z
    . subst e2
      rw[if_pos rfl] at h2 ⊢
      exact zEl a b c h1 h2
    . rw[if_neg e2] at h2 ⊢;exact h2
  . rw[if_neg e1] at h1
    have l1:x<y:=of_decide_eq_true h1
    by_cases e2:y=z
    . subst e2;rw[if_neg e1];exact h1
    . rw[if_neg e2] at h2
      have l2:y<z:=of_decide_eq_true h2
      rw[if_neg (by omega)]
      exact zQ (by omega)
theorem zEm:∀a b:List Int,HT.lexLt a b=false->HT.lexLt b a=false->a=b
 | [],[],_,_=>rfl
 | [],_::_,h,_=>by cases h
 | _::_,[],_,h=>by cases h
 | x::a,y::b,h1,h2=>by
  rw[HT.lexLt_cons] at h1 h2
  by_cases e:x=y
  . subst e
    rw[if_pos rfl] at h1 h2
    rw[zEm a b h1 h2]
  . rw[if_neg e] at h1
    rw[if_neg (Ne.symm e)] at h2
    have l1:=of_decide_eq_false h1
    have l2:=of_decide_eq_false h2
    omega
theorem zMk (a b c:List Int)(h:HT.lexLt a c=true):HT.lexLt a b=true\/HT.lexLt b c=true:=by
 cases h1:HT.lexLt a b with
 | true=>exact .inl rfl
 | false=>
  cases h2:HT.lexLt b a with
  | true=>exact .inr (zEl b a c h2 h)
  | false=>rw[<-zEm a b h1 h2];exact .inr h
noncomputable def zLu:KeyOrd:=⟨List Int,HT.lexLt,zFT,zEl,zMk,zEm⟩
noncomputable def Rises (ms:List (List Int)):Prop:=ms.Pairwise fun a b=>HT.lexLt b a=false
noncomputable def zAy (H:Hp):List V->List (List Int)->Prop
 | [],[]=>True
 | x::xs,k::ks=>(∃a,x = .ref a/\H a=some (.tup (k.map V.int))/\k≠[])/\zAy H xs ks
 | _,_=>False
theorem zAy.length {H:Hp}:∀{xs:List V}{ks:List (List Int)},zAy H xs ks->xs.length=ks.length
 | [],[],_=>rfl
 | [],_::_,h=>h.elim
 | _::_,[],h=>h.elim
 | _::_,_::_,h=>by rw[zY,zY,zAy.length h.2]
theorem zAy.get {H:Hp}:∀{xs:List V}{ks:List (List Int)}{i:Nat}{x:V},zAy H xs ks->xs[i]? = some x->∃a k,x = .ref a/\ks[i]? = some k/\H a=some (.tup (k.map V.int))/\k≠[]
 | [],_,_,_,_,h=>by simp at h
 | _::_,[],_,_,h,_=>h.elim
 | y::_,k::_,0,x,h,e=>by
  obtain⟨⟨a,h1,h2,h3⟩,_⟩:=h
  have e':y=x:=by simpa using e
  subst e'
  exact⟨a,k,h1,rfl,h2,h3⟩
 | _::_,_::_,i+1,x,h,e=>by
  obtain⟨a,k,h1,h2,h3⟩:=zAy.get (i:=i) h.2 (by simpa using e)
  exact⟨a,k,h1,by simpa using h2,h3⟩
theorem zAy.mk {H:Hp}:∀{xs:List V}{ks:List (List Int)},xs.length=ks.length->(∀(i:Nat)(x:V)(k:List Int),xs[i]? = some x->ks[i]? = some k->∃a,x=V.ref a/\H a=some (.tup (k.map V.int))/\k≠[])->zAy H xs ks
 | [],[],_,_=>trivial
 | [],_::_,e,_=>by simp at e
 | _::_,[],e,_=>by simp at e
 | x::xs,k::ks,e,h=>⟨h 0 x k rfl rfl,zAy.mk (by simpa using e) fun i x' k' h1 h2=>h (i+1) x' k' (by simpa using h1) (by simpa using h2)⟩
theorem zAy.keep {H H':Hp}{xs:List V}{ks:List (List Int)}(h:zAy H xs ks)(k:∀b ys,H b=some (.tup ys)->H' b=some (.tup ys)):zAy H' xs ks:=
 zAy.mk h.length fun i x c h1 h2=>by
  obtain⟨a,c',e1,e2,e3,e4⟩:=h.get h1
  rw[h2] at e2
  cases e2
  exact⟨a,e1,k a _ e3,e4⟩
theorem zAy.snoc {H:Hp}:∀{xs:List V}{ks:List (List Int)}{x:V}{k:List Int},zAy H xs ks->(∃a,x = .ref a/\H a=some (.tup (k.map V.int))/\k≠[])->zAy H (xs++[x]) (ks++[k])
 | [],[],_,_,_,h=>⟨h,trivial⟩
 | [],_::_,_,_,t,_=>t.elim
 | _::_,[],_,_,t,_=>t.elim
 | _::_,_::_,_,_,t,h=>⟨t.1,zAy.snoc t.2 h⟩
section
variable {prog:Program}{w:World}{A:Around}{s:Shared}
theorem zEq {fin:Bool}{Q:Bool->Shared->Prop}:∀(ns ms:List Int)(us ws:List Value)(i:Nat),IntsAre us ns->IntsAre ws ms->fin=decide (ns.length<ms.length)->Q (HT.lexLt ns ms) s ->
 PySem.W.KatLex prog w A true fin Q (us.zip ws) i s
 | [],[],_,_,_,.nil,.nil,e,q=>by subst e;exact q
 | [],_::_,_,_,_,.nil,.cons _ _ _,e,q=>by subst e;exact q
 | _::_,[],_,_,_,.cons _ _ _,.nil,e,q=>by subst e;exact q
 | n::ns,m::ms,_,_,i,.cons _ t hu,.cons _ u hw,e,q=>by
  rw[HT.lexLt_cons] at q
  refine PySem.W.kat_cons (wpAny_eqBool_int ?_)
  by_cases h:n=m
  . rw[if_pos h] at q
    rw[show (n==m)=true by simpa using h]
    exact PySem.W.kat_yes (zEq ns ms _ _ (i+1) hu hw (by rw[e];simp) q)
  . rw[if_neg h] at q
    rw[show (n==m)=false by simpa using h]
    refine PySem.W.kat_no ?_
    cases i with
    | zero=>exact oneLt_int q
    | succ j=>exact PySem.W.kat_one _ _ (PyProof.Rows.lt_int q)
theorem zKV {X:Cx}{pins:List (Addr×Obj)}{σ:St}{H:Hp}{s s':Shared}{a:Addr}{ys:List V}{ks:List (List Int)}{vs:List Value}{A:Around}(I:Inv X pins σ H s)(T:zAy H ys ks)(r:zBB ys vs)(hne:0<vs.length)
 (fa:∀b o,s.heap.get? b=some o->b≠a)(kp:∀b o,s.heap.get? b=some o->s'.heap.get? b=some o):SortT.Asks X.prog X.w A s' a vs (O:=zLu) (fun i=>ks.getD i []) (tuples' true):=by
 have hl:=T.length
 have hv:=r.length
 have at_:∀(h':Heap),(∀b o,b≠a->s'.heap.get? b=some o->h'.get? b=some o)->∀i,i<vs.length->∃(p:Addr)(k:List Int)(us:List Value)(o:Obj)(n:Nat),vs[i]? = some (Value.ref p)/\ks[i]? = some k/\k≠[]/\IntsAre us k/\h'.get? p=some o/\o.cls = .type "tuple" /\ o.data = .seq us.toArray n:=fun h' kh i hi=>by
  have hy:i<ys.length:=by omega
  obtain⟨p,k,e1,e2,e3,e4⟩:=T.get (i:=i) (x:=ys[i]) (by simp[hy])
  obtain⟨u,hu,ru⟩:=r.get (i:=i) (x:=ys[i]) (by simp[hy])
  rw[e1] at ru
  cases (show u=Value.ref p from ru)
  obtain⟨_,its,rv,o,ho,hc,n,hd⟩:=I.hok p _ e3
  exact⟨p,k,its,o,n,hu,e2,e4,zB1 rv,kh p o (fa p o ho) (kp p o ho),hc,hd⟩
 refine⟨fun h' Q E kh q=>?_,fun h' i j Q E kh hi hj q=>?_⟩
 . -- all keys are tuples whose first items are ints
   have tups:∀(m:Nat),m<=vs.length->∃fs:List Value,PySem.W.KatTups h' (vs.drop (vs.length-m)) fs/\fs.length=m/\∀f∈fs,∃x t,f=Value.int x t:=by
    intro m
    induction m with
    | zero=>intro _;exact⟨[],by rw[Nat.sub_zero,List.drop_length];exact trivial,rfl,fun f hf=>by simp at hf⟩
    | succ m ih=>
     intro hm
     obtain⟨fs,t,e,hf⟩:=ih (by omega)
     obtain⟨p,k,us,o,n,hu,hk,hk0,hI,ho,hc,hd⟩:=at_ h' kh (vs.length-(m+1)) (by omega)
     have ed:vs.drop (vs.length-(m+1))=Value.ref p::vs.drop (vs.length-m):=by
      have hlt:vs.length-(m+1)<vs.length:=by omega
      rw[List.drop_eq_getElem_cons hlt,show vs.length-(m+1)+1=vs.length-m by omega]
      have:vs[vs.length-(m+1)]=Value.ref p:=by
       rw[zF hlt] at hu
       exact zm hu
      rw[this]
     cases hI with
     | nil=>exact absurd rfl hk0
     | cons x tx hI'=>
      refine⟨Value.int x tx::fs,by rw[ed];exact PySem.W.KatTups.cons ho hc hd rfl t,by rw[zY,e],fun f hf'=>?_⟩
      rcases zR.mp hf' with rfl | hf'
      . exact⟨x,tx,rfl⟩
      . exact hf f hf'
   obtain⟨fs,t,e,hf⟩:=tups vs.length (zH _)
   rw[Nat.sub_self,zBI] at t
   refine PySem.W.kat_kind (T:=Value.type "int") t (by omega) (fun v hv=>?_) (by rfl) q
   obtain⟨x,tx,rfl⟩:=hf v hv
   exact PySem.W.Looks.of_pure rfl
 . obtain⟨p,k,us,o,n,hu,hk,_,hI,ho,hc,hd⟩:=at_ h' kh i hi
   obtain⟨p2,k2,us2,o2,n2,hu2,hk2,_,hI2,ho2,hc2,hd2⟩:=at_ h' kh j hj
   have e1:vs.getD i Value.none = .ref p:=by rw[zU,hu];rfl
   have e2:vs.getD j Value.none = .ref p2:=by rw[zU,hu2];rfl
   have g1:ks.getD i []=k:=by rw[zU,hk];rfl
   have g2:ks.getD j []=k2:=by rw[zU,hk2];rfl
   rw[e1,e2]
   refine PySem.W.kat_lt (s:={ s' with heap:=h' }) ho hd ho2 hd2 ?_
   have q':Q (HT.lexLt k k2) { s' with heap:=h' }:=by
    have:zLu.blt (ks.getD i []) (ks.getD j [])=HT.lexLt k k2:=by rw[g1,g2];rfl
    rw[<-this];exact q
   have l1:=hI.length
   have l2:=hI2.length
   exact zEq k k2 us us2 0 hI hI2 (by simp only[zP];rw[l1,l2]) q'
theorem zKz {H:Hp}{ys:List V}{ks:List (List Int)}{vs:List Value}{out:List Nat}(T:zAy H ys ks)(r:zBB ys vs)(p:SortT.Put (O:=zLu) (fun i=>ks.getD i []) vs.length out) :
 ∃zs ms,zAy H zs ms/\ms.Perm ks/\Rises ms/\zBB zs (out.map fun i=>vs.getD i Value.none)/\zs.length=ys.length:=by
 have hl:=T.length
 have hv:=r.length
 have hb:∀i∈out,i<vs.length:=fun i hi=>zBm.mp (p.perm.mem_iff.mp hi)
 refine⟨out.map fun i=>ys.getD i .non,out.map fun i=>ks.getD i [],zAy.mk (by rw[zE,zE]) fun j x k hx hk=>?_,?_,?_,?_,?_⟩
 . rw[zZ] at hx hk
   cases e:out[j]? with
   | none=>rw[e] at hx;cases hx
   | some i=>
    rw[e] at hx hk
    have hi:=hb i (zi e)
    have hy:i<ys.length:=by omega
    obtain⟨a,c,e1,e2,e3,e4⟩:=T.get (i:=i) (x:=ys[i]) (by simp[hy])
    have ex:ys.getD i .non=x:=zm hx
    have ek:ks.getD i []=k:=zm hk
    rw[zU,zF hy] at ex
    rw[zU,e2] at ek
    have ex':ys[i]=x:=ex
    have ek':c=k:=ek
    subst ek'
    exact⟨a,by rw[<-ex'];exact e1,e3,e4⟩
 . have h1:=p.perm.map fun i=>ks.getD i []
   have h2:(List.range vs.length).map (fun i=>ks.getD i [])=ks:=by
    rw[show vs.length=ks.length by omega]
    apply List.ext_getElem?
    intro j
    rw[zZ]
    by_cases hj:j<ks.length
    . rw[List.getElem?_range hj,zF hj];simp[hj]
    . rw[zAB (by rw[zAQ];omega),zAB (by omega)];rfl
   rw[h2] at h1
   exact h1
 . refine zAV.mpr fun i j hi hj hij=>?_
   rw[zE] at hi hj
   have:=p.rise i j out[i] out[j] (zAl hij) (by simp) (by simp)
   have h3:HT.lexLt (ks.getD out[j] []) (ks.getD out[i] [])=false:=this
   simpa using h3
 . have:∀l:List Nat,(∀i∈l,i<vs.length)->zBB (l.map fun i=>ys.getD i .non) (l.map fun i=>vs.getD i Value.none):=by
    intro l
    induction l with
    | nil=>intro _;exact .nil
    | cons i l ih=>
     intro h
     have hi:=h i zT
     have hy:i<ys.length:=by omega
     obtain⟨u,hu,ru⟩:=r.get (i:=i) (x:=ys[i]) (by simp[hy])
     refine .cons ?_ (ih fun j hj=>h j (zN _ hj))
     show zBe (ys.getD i V.non) (vs.getD i Value.none)
     rw[zU,zF hy,zU,hu]
     exact ru
   exact this out hb
 . rw[zE,p.perm.length_eq,zAQ];omega
theorem zDr {X:Cx}{pins:List (Addr×Obj)}{σ:St}{H:Hp}{s:Shared}{h':Heap}{D:Addr}{c t':Nat}{zs:List V}{us:List Value}(I:Inv X pins σ H s)(hD:s.heap.objs.size<=D)(kp:∀b o,s.heap.get? b=some o->h'.get? b=some o)
 (ho:h'.get? D=some (seqObj "list" us.toArray c)) (r:zBB zs us)(hz:zs.length<=sizeLine):Inv X pins σ (upd H D (.lst zs)) { s with heap:=h',toks:=t' }:=
 I.laid kp hD (show zBY X.prog X.w _ _ _ (.lst zs) from ⟨hz,us,c,r,ho⟩)
end
section
variable {X:Cx}
theorem zGk (hc:X.calm=true):zDI X (.builtin "sorted") (fun xs H Q=>∃p kvs ks,xs=[.ref p]/\H p=some (.dT kvs)/\kvs.map (·.1)=ks.map (List.map Sum.inl)/\(∀k∈ks,k≠[])/\ks.length<64 /\
 ∀l zs ms,H l=none->zAy H zs ms->ms.Perm ks->Rises ms->Q (.ref l) (upd H l (.lst zs))):=by
 intro pins s σ H xs us Q I r h
 obtain⟨p,kvs,ks,rfl,hd,hks,hk0,h64,q⟩:=h
 obtain⟨u,rfl,rx⟩:=zE8 r
 cases rx
 obtain⟨hz,lo,xs,rel,o,es,ep,ho,hx,hdat,hes,hnd⟩:=I.hok p _ hd
 have key:∀(kvs:List (List Key×V))(xs:List (List Key×Addr×Value))(ks:List (List Int)),KT H kvs xs->kvs.map (·.1)=ks.map (List.map Sum.inl)->(∀k∈ks,k≠[]) ->
  zAy H (xs.map fun q=>V.ref q.2.1) ks/\zBB (xs.map fun q=>V.ref q.2.1) ((xs.map (entryOfKey (tupleKind (zBE X.prog X.w)))).map (·.key)):=by
  intro kvs xs ks rel
  induction rel generalizing ks with
  | nil=>
   intro e _
   cases ks with
   | nil=>exact⟨trivial,.nil⟩
   | cons k ks=>simp at e
  | cons hpq _ ih=>
   intro e h0
   cases ks with
   | nil=>simp at e
   | cons k ks=>
    simp only[zAG,List.cons.injEq] at e
    obtain⟨T,V⟩:=ih ks e.2 fun c hc=>h0 c (zN _ hc)
    obtain⟨e1,e2,_⟩:=hpq
    refine⟨⟨⟨_,rfl,?_,h0 k zT⟩,T⟩,.cons rfl V⟩
    rw[e2,e.1,List.map_map]
    rfl
 obtain⟨T,rv⟩:=key kvs xs ks rel hks hk0
 have hl:=T.length
 have hv:=rv.length
 have evs:(xs.map (entryOfKey (tupleKind (zBE X.prog X.w)))).map (·.key)=es.toList.map (·.key):=by rw[hes]
 refine SortT.sorted_dict (O:=zLu) (key:=fun i=>ks.getD i []) (κ:=tuples' true) (vs:=(xs.map (entryOfKey (tupleKind (zBE X.prog X.w)))).map (·.key)) (I.ok.hd hc) lo ⟨o,ho,hx,hdat⟩ evs (by omega) (fun h2 s' a fa kp=>zKV I T rv (by omega) fa kp) fun h1 D h' t' out c pt k1 hD k2 ho=>?_
 obtain⟨zs,ms,T2,hp,hr,rz,hlz⟩:=zKz T rv pt
 have I1:Inv X pins σ H { s with heap:=h1,toks:=s.toks }:=I.kept k1
 refine⟨.ref D,_,zDr (s:={ s with heap:=h1,toks:=s.toks }) (t':=t') I1 hD k2 ho rz ?_,rfl,q D zs ms (I1.hok.fresh hD) T2 hp hr⟩
 have:sizeLine=16777216:=rfl
 omega
end
end L2
namespace L2
open PySem PySem.Spec PyProof.Rows
mutual
inductive zAj (H:Hp):V->PyData->Prop
 | non:zAj H .non .none
 | bl (b:Bool):zAj H (.bl b) (.bool b)
 | int (i:Int):zAj H (.int i) (.int i)
 | str (x:Str):zAj H (.str x) (.str x)
 | tup {a:Addr}{xs:List V}{ds:List PyData}:H a=some (.tup xs)->zq H xs ds->zAj H (.ref a) (.tuple ds)
 | lst {a:Addr}{xs:List V}{ds:List PyData}:H a=some (.lst xs)->zq H xs ds->zAj H (.ref a) (.list ds)
inductive zq (H:Hp):List V->List PyData->Prop
 | nil:zq H [] []
 | cons {x:V}{xs:List V}{d:PyData}{ds:List PyData}:zAj H x d->zq H xs ds->zq H (x::xs) (d::ds)
end
section
variable {P:Program}{w:World}{H:Hp}{h:Heap}
mutual
theorem zAj.reads (ok:HOk P w H h):∀{x:V}{d:PyData},zAj H x d->∀{u:Value},zBe x u->∃as,Reads h u d as
 | _,_,.non,u,r=>by cases (show u=Value.none from r);exact⟨_,.none⟩
 | _,_,.bl b,u,r=>by cases (show u=Value.bool b from r);exact⟨_,.bool b⟩
 | _,_,.int i,u,r=>by obtain⟨t,rfl⟩:=r;exact⟨_,.int i t⟩
 | _,_,.str x,u,r=>by obtain⟨t,rfl⟩:=r;exact⟨_,.str x t⟩
 | _,_,.tup (a:=a) e s,u,r=>by
  cases (show u=Value.ref a from r)
  obtain⟨_,its,rv,o,ho,hc,n,hd⟩:=ok a _ e
  obtain⟨as,ra⟩:=zq.reads ok s rv
  exact⟨_,.tuple ho hc hd (by simpa using ra)⟩
 | _,_,.lst (a:=a) e s,u,r=>by
  cases (show u=Value.ref a from r)
  obtain⟨_,its,n,rv,ho⟩:=ok a _ e
  obtain⟨as,ra⟩:=zq.reads ok s rv
  exact⟨_,.list ho rfl rfl (by simpa using ra)⟩
theorem zq.reads (ok:HOk P w H h):∀{xs:List V}{ds:List PyData},zq H xs ds->∀{us:List Value},zBB xs us->∃as,ReadsAll h us ds as
 | _,_,.nil,us,r=>by cases r;exact⟨_,.nil⟩
 | _,_,.cons s t,us,r=>by
  cases r with
  | cons r1 r2=>
   obtain⟨a1,h1⟩:=zAj.reads ok s r1
   obtain⟨a2,h2⟩:=zq.reads ok t r2
   exact⟨_,.cons h1 h2⟩
end
end
section
variable {X:Cx}
end
end L2
namespace L2
open PySem PySem.Spec PyProof.Rows
section
variable {X:Cx}{es xs:List Expr}{t t1:TA}
theorem zCh {i j pos} (hr:PA X es t):PA X (.Constant (.int i) j pos::es) (zME (tC (.int i)) t):=zC zX hr (by rfl)
theorem pa_lst {pos} (h:PA X xs t1)(hr:PA X es t):PA X (.List xs pos::es) (zME (tLst t1) t):=zC (zBx h) hr (by rfl)
end
inductive zD3:List Expr->List Int->Prop where
 | nil:zD3 [] []
 | cons {i:Int}{j:Nat}{pos:Pos}{es:List Expr}{ns:List Int}:zD3 es ns->zD3 (.Constant (.int i) j pos::es) (i::ns)
theorem zJe {X:Cx}{es:List Expr}{ns:List Int}(h:zD3 es ns):PA X es (fun _ H Q=>Q (ns.map V.int) H):=by
 induction h with
 | nil=>exact zL
 | cons _ ih=>
  intro pos pins s σ H Q I q
  exact (zCh ih) pos pins s σ H Q I q
inductive zDp:List Expr->List (List Int)->Prop where
 | nil:zDp [] []
 | cons {xs:List Expr}{ns:List Int}{pos:Pos}{es:List Expr}{nss:List (List Int)}:zD3 xs ns->ns.length<=sizeLine->zDp es nss->zDp (.List xs pos::es) (ns::nss)
noncomputable def zLd:List (List Int)->TA
 | []=>tNil
 | ns::r=>fun σ H Q=>∀p,H p=none->zLd r σ (upd H p (.lst (ns.map V.int))) fun xs H2=>Q (.ref p::xs) H2
theorem zK5 {X:Cx}{es:List Expr}{nss:List (List Int)}(h:zDp es nss):PA X es (zLd nss):=by
 induction h with
 | nil=>exact zL
 | cons hx hl _ ih=>
  intro pos pins s σ H Q I q
  exact (pa_lst (zJe hx) ih) pos pins s σ H Q I ⟨by rw[zE];exact hl,fun p hp=>q p hp⟩
end L2
namespace WM
theorem zHp {α:Type} [DecidableEq α]:∀{l₁ l₂:List α},l₁.Nodup->(∀x∈l₁,x∈l₂)->l₁.length<=l₂.length
 | [],_,_,_=>zb _
 | x::r,l₂,h,s=>by
  obtain⟨h1,h2⟩:=zA2.mp h
  have hx:x∈l₂:=s x zT
  have ih:=zHp (l₁:=r) (l₂:=l₂.erase x) h2 fun y hy=>by
   have hne:y≠x:=fun e=>h1 (e ▸ hy)
   exact (List.mem_erase_of_ne hne).mpr (s y (zN _ hy))
  rw[List.length_erase_of_mem hx] at ih
  have:0<l₂.length:=List.length_pos_of_mem hx
  rw[zY]
  omega
noncomputable def lowTo (n:Nat):List Int:=(List.range n).map fun (i:Nat)=>(i:Int)
theorem zCi {n:Nat}{x:Int}:x∈lowTo n↔0<=x/\x<n:=by
 unfold lowTo
 rw[zAY]
 constructor
 . rintro ⟨i,hi,rfl⟩
   have:=zBm.mp hi
   omega
 . rintro ⟨h0,h1⟩
   exact⟨x.toNat,zBm.mpr (by omega),by omega⟩
theorem zLs {n:Nat}{l:List Int}(h:l.Nodup)(hb:∀x∈l,0<=x/\x<n):l.length<=n:=by
 have:=zHp h (l₂:=lowTo n) fun x hx=>zCi.mpr (hb x hx)
 simpa [lowTo] using this
theorem zGP:∀{l₁ l₂:List Int},l₁.Pairwise (· < ·)->l₂.Pairwise (· < ·)->(∀x,x∈l₁↔x∈l₂)->l₁=l₂
 | [],[],_,_,_=>rfl
 | [],y::_,_,_,h=>by have:=(h y).mpr zT;simp at this
 | x::_,[],_,_,h=>by have:=(h x).mp zT;simp at this
 | x::r,y::q,h1,h2,h=>by
  obtain⟨a1,b1⟩:=zBh.mp h1
  obtain⟨a2,b2⟩:=zBh.mp h2
  have e:x=y:=by
   rcases zR.mp ((h x).mp zT) with e | e
   . exact e
   . rcases zR.mp ((h y).mpr zT) with e' | e'
     . exact e'.symm
     . have:=a2 x e;have:=a1 y e';omega
  subst e
  refine congrArg (x :: ·) (zGP b1 b2 fun z=>?_)
  constructor
  . intro hz
    rcases zR.mp ((h z).mp (zN _ hz)) with e | e
    . subst e;have:=a1 z hz;omega
    . exact e
  . intro hz
    rcases zR.mp ((h z).mpr (zN _ hz)) with e | e
    . subst e;have:=a2 z hz;omega
    . exact e
theorem zEs (n:Nat):(lowTo n).Pairwise (· < ·):=by
 unfold lowTo
 rw[List.pairwise_map]
 exact List.pairwise_lt_range.imp fun h=>by omega
noncomputable abbrev T3:=Int×Int×Int
noncomputable def tl (t:T3):List Int:=[t.1,t.2.1,t.2.2]
structure GW (n:Int)(ts:List T3):Prop where
 n1:1<=n
 n24:n<=24
 len:ts.length<64
 rng:∀t∈ts,0<=t.1/\t.1<t.2.1/\t.2.1<n/\1<=t.2.2/\t.2.2<=99
 dis:ts.Pairwise fun s t=>¬ (s.1=t.1/\s.2.1=t.2.1)
noncomputable def Adj (ts:List T3)(x y l:Int):Prop:=(x,y,l)∈ts\/(y,x,l)∈ts
theorem Adj.symm {ts:List T3}{x y l:Int}(h:Adj ts x y l):Adj ts y x l:=h.elim .inr .inl
theorem GW.adj {n:Int}{ts:List T3}(g:GW n ts){x y l:Int}(h:Adj ts x y l):0<=x/\x<n/\0<=y/\y<n/\x≠y/\1<=l/\l<=99:=by
 rcases h with h | h <;> (have:=g.rng _ h;simp only at *;omega)
noncomputable def fd (p:Int):List T3->List (List Int)
 | []=>[]
 | t::r=>(if t.1=p then [[t.2.1,t.2.2]] else [])++(if t.2.1=p then [[t.1,t.2.2]] else [])++fd p r
theorem zGf (p:Int):∀a b:List T3,fd p (a++b)=fd p a++fd p b
 | [],b=>rfl
 | t::r,b=>by show _++_++fd p (r++b)=_;rw[zGf p r b];simp[fd,zAc]
theorem zHr {p:Int}{k:List Int}:∀{ts:List T3},k∈fd p ts↔∃y l,k=[y,l]/\Adj ts p y l
 | []=>by simp[fd,Adj]
 | (a,b,c)::r=>by
  have ih:=zHr (p:=p) (k:=k) (ts:=r)
  show k∈_++_++fd p r↔_
  rw[zJ,zJ,ih]
  simp only
  constructor
  . rintro ((h | h) | ⟨y,l,e,h⟩)
    . split at h
      . rename_i e;simp at h;subst e;exact⟨b,c,h,.inl zT⟩
      . simp at h
    . split at h
      . rename_i e;simp at h;subst e;exact⟨a,c,h,.inr zT⟩
      . simp at h
    . exact⟨y,l,e,h.elim (fun z=>.inl (zN _ z)) fun z=>.inr (zN _ z)⟩
  . rintro ⟨y,l,e,h⟩
    rcases h with h | h
    . rcases zR.mp h with q | q
      . injection q with q1 q2;injection q2 with q2 q3;subst q1 q2 q3
        exact .inl (.inl (by simp[e]))
      . exact .inr ⟨y,l,e,.inl q⟩
    . rcases zR.mp h with q | q
      . injection q with q1 q2;injection q2 with q2 q3;subst q1 q2 q3
        exact .inl (.inr (by simp[e]))
      . exact .inr ⟨y,l,e,.inr q⟩
theorem zL1 {n:Int}(p:Int):∀{ts:List T3},(∀t∈ts,t.1<t.2.1)->(fd p ts).length<=ts.length
 | [],_=>zH _
 | t::r,h=>by
  have ih:=zL1 (n:=n) p (ts:=r) fun t ht=>h t (zN _ ht)
  have h0:=h t zT
  show (_++_++fd p r).length<=_
  rw[zB,zB,zY]
  have:(if t.1=p then [[t.2.1,t.2.2]] else ([]:List (List Int))).length+(if t.2.1=p then [[t.1,t.2.2]] else ([]:List (List Int))).length<=1:=by
   split <;> split <;> simp <;> omega
  omega
noncomputable def hd (k:List Int):Int:=k.getD 0 0
theorem zLM {n:Int}{ts:List T3}(g:GW n ts)(p:Int):((fd p ts).map hd).Nodup:=by
 have key:∀(ts:List T3),(∀t∈ts,t.1<t.2.1)->ts.Pairwise (fun s t=>¬ (s.1=t.1/\s.2.1=t.2.1))->((fd p ts).map hd).Nodup:=by
  intro ts
  induction ts with
  | nil=>intro _ _;exact List.nodup_nil
  | cons t r ih=>
   intro hlt hp
   obtain⟨q,hr⟩:=zBh.mp hp
   have h0:=hlt t zT
   have hr':∀t∈r,t.1<t.2.1:=fun t ht=>hlt t (zN _ ht)
   have ih':=ih hr' hr
   have no:∀y c,(∀l,Adj r p y l->False)->([y,c]:List Int)=[y,c]->¬ y∈(fd p r).map hd:=by
    intro y c hn _ hm
    obtain⟨k,hk,e⟩:=zAY.mp hm
    obtain⟨y',l,ek,ha⟩:=zHr.mp hk
    subst ek
    have:y'=y:=e
    subst this
    exact hn l ha
   show ((_++_++fd p r).map hd).Nodup
   by_cases h1:t.1=p
   . have h2:¬ t.2.1=p:=by omega
     rw[if_pos h1,if_neg h2]
     show (t.2.1::(fd p r).map hd).Nodup
     refine zA2.mpr ⟨no _ t.2.2 (fun l ha=>?_) rfl,ih'⟩
     rcases ha with ha | ha
     . exact q _ ha ⟨h1,rfl⟩
     . have:=hr' _ ha;simp only at this;omega
   . by_cases h2:t.2.1=p
     . rw[if_neg h1,if_pos h2]
       show (t.1::(fd p r).map hd).Nodup
       refine zA2.mpr ⟨no _ t.2.2 (fun l ha=>?_) rfl,ih'⟩
       rcases ha with ha | ha
       . have:=hr' _ ha;simp only at this;omega
       . exact q _ ha ⟨rfl,h2⟩
     . rw[if_neg h1,if_neg h2]
       exact ih'
 exact key ts (fun t ht=>(g.rng t ht).2.1) g.dis
end WM
namespace WM
end WM
namespace WM
end WM
namespace WM
end WM
namespace WM
end WM
namespace WM
end WM
namespace L2
open PySem PySem.Spec PyProof.Rows
noncomputable def intO:KeyOrd:=⟨Int,fun a b=>decide (a<b),fun a=>zS (by omega),fun a b c h1 h2=>zQ (by have:=of_decide_eq_true h1;have:=of_decide_eq_true h2;omega),
 fun a b c h=>by
  have h':a<c:=of_decide_eq_true h
  by_cases hab:a<b
  . exact .inl (zQ hab)
  . exact .inr (zQ (by omega)),
 fun a b h1 h2=>by have:=of_decide_eq_false h1;have:=of_decide_eq_false h2;omega⟩
theorem zGs {prog:Program}{w:World}{A:Around}{s:Shared}{a:Addr}{vs:List Value}{ns:List Int}(hI:IntsAre vs ns)(h2:2<=vs.length) :
 SortT.Asks prog w A s a vs (O:=intO) (fun i=>ns.getD i 0) oneType':=by
 have hl:=hI.length
 have at_:∀i,i<vs.length->∃t,vs.getD i Value.none = .int (ns.getD i 0) t:=fun i hi=>by
  obtain⟨n,hn⟩:∃n,ns[i]? = some n:=⟨_,zF (by omega)⟩
  obtain⟨t,ht⟩:=hI.get i n hn
  exact⟨t,by rw[zU,zU,ht,hn];rfl⟩
 refine⟨fun h' Q E kh q=>?_,fun h' i j Q E kh hi hj q=>?_⟩
 . rw[ksk_kind (keys:=vs.toArray) (kz:=ns) (by simpa using hI) (by simpa using h2)]
   exact zD q
 . obtain⟨t,e1⟩:=at_ i hi
   obtain⟨u,e2⟩:=at_ j hj
   rw[e1,e2]
   exact PySem.W.kat_lt_int q
theorem zHe {vs:List Value}{ns:List Int}{out:List Nat}(hI:IntsAre vs ns)(p:SortT.Put (O:=intO) (fun i=>ns.getD i 0) vs.length out) :
 ∃ms:List Int,ms.Perm ns/\ms.Pairwise (· <= ·)/\zBB (ms.map V.int) (out.map fun i=>vs.getD i Value.none)/\ms.length=ns.length:=by
 have hl:=hI.length
 have hb:∀i∈out,i<vs.length:=fun i hi=>zBm.mp (p.perm.mem_iff.mp hi)
 refine⟨out.map fun i=>ns.getD i 0,?_,?_,?_,?_⟩
 . have h1:=p.perm.map fun i=>ns.getD i 0
   have h2:(List.range vs.length).map (fun i=>ns.getD i 0)=ns:=by
    rw[show vs.length=ns.length by omega]
    apply List.ext_getElem?
    intro j
    rw[zZ]
    by_cases hj:j<ns.length
    . rw[List.getElem?_range hj,zF hj];simp[hj]
    . rw[zAB (by rw[zAQ];omega),zAB (by omega)];rfl
   rw[h2] at h1
   exact h1
 . refine zAV.mpr fun i j hi hj hij=>?_
   rw[zE] at hi hj
   have:=p.rise i j out[i] out[j] (zAl hij) (by simp) (by simp)
   have h3:decide (ns.getD out[j] 0<ns.getD out[i] 0)=false:=this
   have h4:=of_decide_eq_false h3
   rw[List.getElem_map,List.getElem_map]
   omega
 . have:∀l:List Nat,(∀i∈l,i<vs.length)->zBB ((l.map fun i=>ns.getD i 0).map V.int) (l.map fun i=>vs.getD i Value.none):=by
    intro l
    induction l with
    | nil=>intro _;exact .nil
    | cons i l ih=>
     intro h
     have hi:=h i zT
     obtain⟨n,hn⟩:∃n,ns[i]? = some n:=⟨_,zF (by omega)⟩
     obtain⟨t,ht⟩:=hI.get i n hn
     refine .cons ?_ (ih fun j hj=>h j (zN _ hj))
     show zBe (V.int (ns.getD i 0)) (vs.getD i Value.none)
     rw[zU,zU,ht,hn]
     exact⟨t,rfl⟩
   exact this out hb
 . rw[zE,p.perm.length_eq,zAQ];omega
section
variable {X:Cx}
end
section
variable {X:Cx}{pins:List (Addr×Obj)}{σ:St}{H:Hp}{s:Shared}
end
section
variable {X:Cx}
end
end L2
namespace L2
open PySem PySem.Spec PyProof.Rows
section
variable {κ:Type} [DecidableEq κ]
end
theorem zIG {α:Type}{xs:List α}{i:Int}{v:α}(h0:0<=i)(h:xs[i.toNat]? = some v):atI xs i=some v:=by
 have:=zCC h
 rwa [Int.toNat_of_nonneg h0] at this
end L2
namespace L2
open PySem PySem.Spec PyProof.Rows
theorem zLE {xs ys:List Int}:((List.range (min xs.length ys.length)).all (fun j=>xs.getD j 0==ys.getD j 0) && xs.length==ys.length)=decide (xs=ys):=by
 by_cases h:xs=ys
 . subst h;simp
 . rw[zS h]
   by_cases hl:xs.length=ys.length
   . have:∃j,j<xs.length/\xs.getD j 0≠ys.getD j 0:=by
      apply zBn
      intro hn
      refine h (List.ext_getElem hl fun j h1 h2=>?_)
      apply zBn
      intro hne
      exact hn ⟨j,h1,by simpa [zU,h1,h2] using hne⟩
     obtain⟨j,hj,hne⟩:=this
     rw[Bool.and_eq_false_iff]
     left
     rw[List.all_eq_false]
     exact⟨j,by rw[zBm];omega,by simpa using hne⟩
   . simp[hl]
section
variable {X:Cx}
noncomputable def rEqT (K:PySem.W.Frag)(neg:Bool):R2:=fun x y H Q=>∃(a b:Addr)(xs ys:List Int),x = .ref a/\y = .ref b/\SqT K H a (xs.map V.int)/\SqT K H b (ys.map V.int)/\Q (.bl (if neg then !decide (xs=ys) else decide (xs=ys))) H
theorem eqAts {A:Around}{s:Shared}{us ws:List Value}{xs ys:List Int}(h1:IntsAre us xs)(h2:IntsAre ws ys)(j:Nat)(a:j<us.toArray.size)(b:j<ws.toArray.size):SeqAt.EqAt A s us.toArray[j] ws.toArray[j] (xs.getD j 0==ys.getD j 0):=by
 have l1:=h1.length
 have l2:=h2.length
 rw[zP] at a b
 obtain⟨n,hn⟩:∃n,xs[j]? = some n:=⟨_,zF (by omega)⟩
 obtain⟨m,hm⟩:∃m,ys[j]? = some m:=⟨_,zF (by omega)⟩
 obtain⟨t,ht⟩:=h1.get j n hn
 obtain⟨u,hu⟩:=h2.get j m hm
 have e1:us.toArray[j] = .int n t:=by
  rw[zF a] at ht
  simpa using zm ht
 have e2:ws.toArray[j] = .int m u:=by
  rw[zF b] at hu
  simpa using zm hu
 rw[e1,e2,zU,zU,hn,hm]
 exact SeqAt.EqAt.int_int n t m u
theorem op_eqT (hu:X.A.units<cLine):OpR X (compareOp .Eq) (rEqT X.K false):=by
 intro pins s σ H x y v u Q I rx ry h
 obtain⟨a,b,xs,ys,rfl,rfl,ha,hb,q⟩:=h
 cases rx
 cases ry
 obtain⟨its,r,pl,hz⟩:=I.tuple ha
 obtain⟨its2,r2,pl2,hz2⟩:=I.tuple hb
 have h1:=zB1 r
 have h2:=zB1 r2
 refine SeqAt.eq_tupleAt (e:=fun j=>xs.getD j 0==ys.getD j 0) pl pl2 hu (fun j a b=>eqAts h1 h2 j a b) ⟨.bl _,H,I,rfl,?_⟩
 rw[zP,zP,h1.length,h2.length,zLE]
 exact q
end
end L2
namespace L2
open PySem PySem.Spec PyProof.Rows
section
variable {X:Cx}
end
end L2
namespace L2
open PySem PySem.Spec PyProof.Rows
section
variable {X:Cx}{pins:List (Addr×Obj)}{σ:St}{H3:Hp}{s3:Shared}{scope:Scope}{fp:List Addr}{N' own cn:List Str}{ci:List Nat}{cv:List V}{yc:Str}
end
end L2
namespace L2
open PySem PySem.Spec PyProof.Rows
noncomputable def zMD (ta:TA):TE:=fun σ H Q=>ta σ H fun vs H1=>∃j:Int,vs=[.int j]/\0<=j/\j<=1000/\∀l,H1 l=none->Q (.ref l) (upd H1 l (.lst ((WM.lowTo j.toNat).map V.int)))
theorem zHU:∀(vs:List Value)(n:Nat),vs.length=n->(∀(j:Nat)(v:Value),vs[j]? = some v->∃t,v = .int (0+(j:Int)*1) t)->zBB ((WM.lowTo n).map V.int) vs:=by
 have key:∀(vs:List Value)(a:Nat),(∀(j:Nat)(v:Value),vs[j]? = some v->∃t,v = .int ((a+j:Nat):Int) t)->zBB ((List.range' a vs.length).map fun (i:Nat)=>V.int (i:Int)) vs:=by
  intro vs
  induction vs with
  | nil=>intro _ _;exact .nil
  | cons v r ih=>
   intro a h
   obtain⟨t,ht⟩:=h 0 v rfl
   rw[zY,List.range'_succ,zAG]
   refine .cons ⟨t,by rw[ht];rfl⟩ (ih (a+1) fun j u hj=>?_)
   obtain⟨t',ht'⟩:=h (j+1) u hj
   exact⟨t',by rw[ht'];congr 1;omega⟩
 intro vs n e h
 subst e
 have:=key vs 0 fun j v hj=>by
  obtain⟨t,ht⟩:=h j v hj
  exact⟨t,by rw[ht];congr 1;omega⟩
 unfold WM.lowTo
 rw[List.map_map,List.range_eq_range']
 exact this
section
variable {X:Cx}
theorem zEa {a:Expr}{ta:TA}{p1 p2 pos1 pos2:Pos}(hc:X.calm=true)(hgL:Gl X "list") (hmL:X.mg "list" = none) (hgR:Gl X "range") (hmR:X.mg "range" = none) (ha:PA X [a] ta)(hs:starEach [a] X.env=[(false,eval a X.env)]:=by rfl)
 (he:starEach [.Call (.Name "range" p2) [a] [] pos2] X.env=[(false,eval (.Call (.Name "range" p2) [a] [] pos2) X.env)]:=by rfl):PE X (.Call (.Name "list" p1) [.Call (.Name "range" p2) [a] [] pos2] [] pos1) (zMD ta):=by
 intro pins s σ H Q I h
 refine zA1 (zCz I hgL hmL (by decide +kernel:bootBuiltins "list" = some (.type "list")) ?_ (by decide) (by decide))
 refine PyProof.Rows.callWith_type1 ?_ he rfl
 rw[he]
 refine Calls.spliced_cons ?_
 refine Call_ (zCz I hgR hmR boot_range (PyProof.Rows.callWith_type1 (thn (ha pos2 pins s σ H _ I h) fun us s1 ⟨vs,H1,I1,r1,q1⟩=>?_) hs rfl))
 obtain⟨j,e,h0,h1,q⟩:=q1
 subst e
 cases r1 with
 | cons r rr=>
  cases rr
  obtain⟨t,rfl⟩:=r
  refine call_range_1 ?_
  refine Calls.spliced_nil ?_
  have hz:Builtin.Range.rangeSize 0 j 1=(j.toNat:Int):=by rw[rangeSize_one];split <;> omega
  refine call_list_range (I.ok.hd hc) (IsRange.new ..) (small_one (by omega) (by omega) (by omega) (by omega)) hz (by omega) fun h' tk acc c' kp hD hI=>?_
  have kp1:∀b o,s1.heap.get? b=some o->h'.get? b=some o:=fun b o e=>kp b o (zI _ e)
  have rv:zBB ((WM.lowTo j.toNat).map V.int) acc.toList:=zHU acc.toList _ (by rw[Array.length_toList];exact hI.1) fun i v hi=>hI.2 i v (by rw[<-hi,Array.getElem?_toList])
  have hsz:s1.heap.objs.size<=(s1.heap.push { cls:=.type "range",data:=.fields #[.int 0 s1.toks,.int j t,.int 1 (s1.toks+1)] }).objs.size:=by rw[zA0];exact zBl _
  refine⟨.ref _,_,I1.laid (t':=tk) kp1 hsz (show zBY X.prog X.w _ h' _ (.lst ((WM.lowTo j.toNat).map V.int)) from ⟨?_,acc.toList,c',rv,by rw[Array.toArray_toList];exact hD⟩),rfl,q _ (I1.hok.fresh hsz)⟩
  rw[zE,WM.lowTo,zE,zAQ]
  have:sizeLine=16777216:=rfl
  omega
theorem zB2:zDI X (.builtin "sorted") (fun xs H Q=>∃(p:Addr)(ns:List Int),xs=[.ref p]/\SqL X.K H p (ns.map V.int)/\ns.length<64 /\
 ∀(l:Addr)(ms:List Int),H l=none->ms.Perm ns->ms.Pairwise (· <= ·)->Q (.ref l) (upd H l (.lst (ms.map V.int)))):=by
 intro pins s σ H xs us Q I r h
 obtain⟨p,ns,rfl,hq,h64,q⟩:=h
 obtain⟨u,rfl,rx⟩:=zE8 r
 cases rx
 obtain⟨its,r',pl,hz⟩:=I.list hq
 have hI:IntsAre its ns:=zB1 r'
 have hl:=hI.length
 refine SortT.sorted_list (O:=intO) (key:=fun i=>ns.getD i 0) (κ:=oneType') pl.isList (by omega) (fun h2 s' a fa kp=>zGs hI h2) fun D h' out c pt hD kp ho=>?_
 obtain⟨ms,hp,hr,rz,hlz⟩:=zHe hI pt
 refine⟨.ref D,_,zDr (t':=s.toks) I hD kp ho rz ?_,rfl,q D ms (I.hok.fresh hD) hp hr⟩
 have:sizeLine=16777216:=rfl
 rw[zE]
 omega
end
section
variable {X:Cx}{pl:List (Addr×Obj)}{N':List Str}{sc:Scope}{fp:List Addr}{s3:Shared}{H3:Hp}
end
section
variable {X:Cx}
noncomputable def rNeE (K:PySem.W.Frag):R2:=fun x y H Q=>∃(a b:Addr)(xs:List V),x = .ref a/\y = .ref b/\SqL K H a xs/\SqL K H b []/\Q (.bl (!xs.isEmpty)) H
theorem zHo (hu:X.A.units<cLine):OpR X (compareOp .NotEq) (rNeE X.K):=by
 intro pins s σ H x y v u Q I rx ry h
 obtain⟨a,b,xs,rfl,rfl,ha,hb,q⟩:=h
 cases rx
 cases ry
 obtain⟨its,r,pl,hz⟩:=I.list ha
 obtain⟨its2,r2,pl2,hz2⟩:=I.list hb
 have l1:=r.length
 have l2:=r2.length
 cases xs with
 | nil=>
  refine PySem.EqBoolInt.of_rcne (SeqAt.RcNeAt.lists (e:=fun _=>true) pl.isList pl2.isList (by rw[zP,zP,<-l1,<-l2]) hu (fun j a b=>absurd a (by rw[zP,<-l1];exact zBu _))) ⟨.bl _,H,I,rfl,?_⟩
  rw[zP,<-l1]
  exact q
 | cons x xs=>
  refine PySem.EqBoolInt.of_rcne (SeqAt.RcNeAt.lists_lengths pl.isList pl2.isList (by rw[zP,zP,<-l1,<-l2];rfl) hu) ⟨.bl _,H,I,rfl,?_⟩
  exact q
end
end L2
namespace L2
open PySem PyProof.Rows
noncomputable def Kp (s0:Shared)(h:Heap):Prop:=∀b o,s0.heap.get? b=some o->h.get? b=some o
structure MinIt (prog:Program)(w:World)(A:Around)(s0:Shared)(I:Addr)(its:List Value)(itAt:Nat->Heap->Prop):Prop where
 stay:∀j h h',itAt j h->h'.get? I=h.get? I->itAt j h'
 next:∀(j:Nat)(h:Heap)(tk:Nat)(v:Value)(Q:Option Value->Shared->Prop)(E:Value->Shared->Prop),Kp s0 h->itAt j h->its[j]? = some v ->
  (∀h',itAt (j+1) h'->(∀b,b≠I->h'.get? b=h.get? b)->Q (some v) { s0 with heap:=h',toks:=tk })->wpAny (model prog w) A (pyNext (.ref I)) Q E { s0 with heap:=h,toks:=tk }
 fin:∀(j:Nat)(h:Heap)(tk:Nat)(Q:Option Value->Shared->Prop)(E:Value->Shared->Prop),Kp s0 h->itAt j h->its[j]? = none ->
  (∀h',(∀b o,b≠I->h.get? b=some o->h'.get? b=some o)->Q none { s0 with heap:=h',toks:=tk })->wpAny (model prog w) A (pyNext (.ref I)) Q E { s0 with heap:=h,toks:=tk }
section
variable {prog:Program}{w:World}{A:Around}{s0:Shared}{I S:Addr}{its:List Value}{itAt:Nat->Heap->Prop}
theorem Kp.upd {h:Heap}{f:Obj->Obj}(K:Kp s0 h)(hS:s0.heap.objs.size<=S):Kp s0 (h.update S f):=fun b o e=>by
 rw[Heap.get?_update_ne _ _ _ _ (zh (zp (zW e) hS))];exact K b o e
theorem Kp.but {h h':Heap}(K:Kp s0 h)(hI:s0.heap.objs.size<=I)(k:∀b o,b≠I->h.get? b=some o->h'.get? b=some o):Kp s0 h':=fun b o e=>
 k b o (zh (zp (zW e) hI)) (K b o e)
theorem zJp {R:Result->Shared->Prop}{kw:List (Str×Value)}(M:MinIt prog w A.in1 s0 I its itAt)(bt:Nat->Nat->Bool)(hS:s0.heap.objs.size<=S)(hI:s0.heap.objs.size<=I)(hSI:S≠I)
 (cmp:∀(i j:Nat)(vi vj:Value)(h:Heap)(tk:Nat)(Q E:Value->Shared->Prop),Kp s0 h->its[i]? = some vi->its[j]? = some vj->Q (.bool (bt i j)) { s0 with heap:=h,toks:=tk }->wpAny (model prog w) A.in1 (richCompare .Lt vi vj) Q E { s0 with heap:=h,toks:=tk })
 (hR:∀(v:Value)(h:Heap)(tk:Nat),its[argBest bt (its.length-1)]? = some v->Kp s0 h->R (.ok (.ret v)) { s0 with heap:=h,toks:=tk })
 : ∀(r j:Nat)(h:Heap)(tk:Nat)(vb:Value)(c:Nat),its.length-(j+1)=r->j+1<=its.length->Kp s0 h->itAt (j+1) h->its[argBest bt j]? = some vb ->
  h.get? S=some { cls:=.type "list",data:=.seq #[vb,vb] c }->codeAny (model prog w) A (.builtin "min.loop" { pos:=[.ref I,.none,.ref S],kw:=kw }) R { s0 with heap:=h,toks:=tk }:=by
 intro r
 induction r with
 | zero=>
  intro j h tk vb c hr hj K hit hv hSo
  refine codeAny_builtin PySem.F.entry_min_loop ?_
  unfold Builtin.«min.loop»
  refine zA (wpAny_seqItems hSo rfl ?_)
  dsimp only
  refine zA (wpAny_tryCatch (M.fin (j+1) h tk _ _ K hit (zAB (by omega)) fun h' k=>?_))
  have hS':=k S _ hSI hSo
  refine zA (zBs hS' rfl (zA (wpAny_letGo (zD ?_))) (by show 2<=sizeLine;decide) (by show 0<=sizeLine+1;decide))
  refine hR vb _ tk ?_ ((K.but hI k).upd hS)
  rw[show its.length-1=j by omega];exact hv
 | succ r ih=>
  intro j h tk vb c hr hj K hit hv hSo
  obtain⟨x,hx⟩:∃x,its[j+1]? = some x:=⟨_,zF (by omega)⟩
  refine codeAny_builtin PySem.F.entry_min_loop ?_
  unfold Builtin.«min.loop»
  refine zA (wpAny_seqItems hSo rfl ?_)
  dsimp only
  refine zA (wpAny_tryCatch (M.next (j+1) h tk x _ _ K hit hx fun h' hit' k=>?_))
  have K':Kp s0 h':=K.but hI fun b o hb e=>by rw[k b hb];exact e
  have hS':h'.get? S=some { cls:=.type "list",data:=.seq #[vb,vb] c }:=by rw[k S hSI];exact hSo
  refine zA (zD ?_)
  refine zA (wpAny_tryCatch (zx (zA (cmp (j+1) (argBest bt j) x vb h' tk _ _ K' hx hv ?_))))
  refine zA (zx (zBJ (zA (wpAny_letGo (zD ?_)))))
  have eb:argBest bt (j+1)=if bt (j+1) (argBest bt j)=true then j+1 else argBest bt j:=argBest.eq_2 bt j
  cases e:bt (j+1) (argBest bt j) with
  | true=>
   rw[if_pos e] at eb
   refine zA (zBs hS' rfl (zA (wpAny_letGo (zD ⟨rfl,?_⟩))) (by show 2<=sizeLine;decide) (by show 2<=sizeLine+1;decide))
   exact ih (j+1) _ tk x c (by omega) (by omega) (K'.upd hS) (M.stay _ _ _ hit' (Heap.get?_update_ne _ _ _ _ (Ne.symm hSI))) (by rw[eb];exact hx) (zv _ hS' rfl)
  | false=>
   rw[e,if_neg (by decide)] at eb
   refine zA (wpAny_letGo (zD ⟨rfl,?_⟩))
   exact ih (j+1) h' tk vb c (by omega) (by omega) K' hit' (by rw[eb];exact hv) hS'
theorem zFS {R:Result->Shared->Prop}{d:Value}(M:MinIt prog w A.in1 s0 I its itAt)(bt:Nat->Nat->Bool)(hS:s0.heap.objs.size<=S)(hI:s0.heap.objs.size<=I)(hSI:S≠I)
 (cmp:∀(i j:Nat)(vi vj:Value)(h:Heap)(tk:Nat)(Q E:Value->Shared->Prop),Kp s0 h->its[i]? = some vi->its[j]? = some vj->Q (.bool (bt i j)) { s0 with heap:=h,toks:=tk }->wpAny (model prog w) A.in1 (richCompare .Lt vi vj) Q E { s0 with heap:=h,toks:=tk })
 (hR:∀(v:Value)(h:Heap)(tk:Nat),its[argBest bt (its.length-1)]? = some v->Kp s0 h->R (.ok (.ret v)) { s0 with heap:=h,toks:=tk })
 (h0:its=[]->∀(h:Heap)(tk:Nat),Kp s0 h->R (.ok (.ret d)) { s0 with heap:=h,toks:=tk })
 (h:Heap)(tk:Nat)(c:Nat)(K:Kp s0 h)(hit:itAt 0 h)(hSo:h.get? S=some { cls:=.type "list",data:=.seq #[] c }) :
 codeAny (model prog w) A (.builtin "min.loop" { pos:=[.ref I,.none,.ref S],kw:=[(Str.ofString "default",d)] }) R { s0 with heap:=h,toks:=tk }:=by
 refine codeAny_builtin PySem.F.entry_min_loop ?_
 unfold Builtin.«min.loop»
 refine zA (wpAny_seqItems hSo rfl ?_)
 dsimp only
 cases e:its with
 | nil=>
  subst e
  refine zA (wpAny_tryCatch (M.fin 0 h tk _ _ K hit rfl fun h' k=>?_))
  exact zA (wpAny_rule (zD (h0 rfl h' tk (K.but hI k))))
 | cons x xs=>
  have hx:its[0]? = some x:=by rw[e];rfl
  refine zA (wpAny_tryCatch (M.next 0 h tk x _ _ K hit hx fun h' hit' k=>?_))
  have K':Kp s0 h':=K.but hI fun b o hb e=>by rw[k b hb];exact e
  have hS':h'.get? S=some { cls:=.type "list",data:=.seq #[] c }:=by rw[k S hSI];exact hSo
  refine zA (zD ?_)
  refine zA (zBs hS' rfl (zD ⟨rfl,?_⟩) (by show 0<=sizeLine;decide) (by show 2<=sizeLine+1;decide))
  refine zJp M bt hS hI hSI cmp hR (its.length-1) 0 _ tk x (c+1) rfl (by rw[e];simp) (K'.upd hS) (M.stay _ _ _ hit' (Heap.get?_update_ne _ _ _ _ (Ne.symm hSI))) hx (zv _ hS' rfl)
end
end L2
namespace L2
open PySem PyProof.Rows
theorem wpAny_of_eq {α:Type}{M:Model}{A:Around}{E:Value->Shared->Prop}{s:Shared}{m m':Sem α}{Q:α->Shared->Prop}(e:m=m')(h:wpAny M A m' Q E s):wpAny M A m Q E s:=by subst e;exact h
theorem zE2 {O:KeyOrd}(ky:Nat->O.α):∀k,argBest (fun i j=>O.blt (ky i) (ky j)) k<=k/\∀j,j<=k->O.blt (ky j) (ky (argBest (fun i j=>O.blt (ky i) (ky j)) k))=false
 | 0=>⟨zH _,fun j hj=>by obtain rfl:j=0:=(by omega);exact O.irrefl _⟩
 | k+1=>by
  obtain⟨h1,h2⟩:=zE2 ky k
  rw[argBest.eq_2]
  cases e:O.blt (ky (k+1)) (ky (argBest (fun i j=>O.blt (ky i) (ky j)) k)) with
  | true=>
   rw[if_pos rfl]
   refine⟨zH _,fun j hj=>?_⟩
   by_cases c:j=k+1
   . subst c;exact O.irrefl _
   . cases e2:O.blt (ky j) (ky (k+1)) with
     | false=>rfl
     | true=>rw[<-h2 j (by omega)];exact (O.trans _ _ _ e2 e).symm
  | false=>
   rw[if_neg (by decide)]
   refine⟨by omega,fun j hj=>?_⟩
   by_cases c:j=k+1
   . subst c;exact e
   . exact h2 j (by omega)
theorem zGl {prog:Program}{w:World}{A:Around}{s:Shared}{p:Addr}{its:List Value}{d:Value}{Q E:Value->Shared->Prop}(hA:A.handled=none)(bt:Nat->Nat->Bool)(hp:s.heap.IsList p its.toArray\/s.heap.IsTuple p its.toArray)
 (cmp:∀(i j:Nat)(vi vj:Value)(h:Heap)(tk:Nat)(Q E:Value->Shared->Prop),Kp s h->its[i]? = some vi->its[j]? = some vj->Q (.bool (bt i j)) { s with heap:=h,toks:=tk }->wpAny (model prog w) A.in1 (richCompare .Lt vi vj) Q E { s with heap:=h,toks:=tk })
 (hR:∀(v:Value)(h:Heap)(tk:Nat),its[argBest bt (its.length-1)]? = some v->Kp s h->Q v { s with heap:=h,toks:=tk })
 (h0:its=[]->∀(h:Heap)(tk:Nat),Kp s h->Q d { s with heap:=h,toks:=tk }) :
 wpAny (model prog w) A (call (.builtin "min") [.ref p] [(Str.ofString "default",d)]) Q E s:=by
 refine zB7 (codeAny_call_builtin PySem.F.plain_min PySem.F.entry_min (wpAny_of_eq (show checkBuiltinCall "min" { pos:=[.ref p],kw:=[(Str.ofString "default",d)] }=pure () from rfl) (zD ?_)))
 unfold Builtin.min
 refine zA (wpAny_of_eq (show Builtin.Builtins.bindParams "min" ["key", "default"] 0 { kw:=[(Str.ofString "default",d)] }=pure [none,some d] from rfl) (zD ?_))
 dsimp only
 refine zA (zD ?_)
 have kp0:∀(o1 o2:Obj),Kp s ((s.heap.push o1).push o2):=fun o1 o2 b o e=>zI _ (zI _ e)
 rcases hp with hp | hp
 . refine zA (wpAny_pyIter_list hp (zA (wpAny_newList (zD ⟨rfl,?_⟩) (by show 0<=sizeLine;decide))))
   have hSe:(s.heap.push { cls:=.type "list_iterator",data:=.fields #[.ref p,.int 0 0] }).objs.size=s.heap.objs.size+1:=zA0 ..
   rw[hSe]
   refine zFS (s0:=s) (I:=s.heap.objs.size) (S:=s.heap.objs.size+1) (itAt:=fun j h=>h.IsListIter s.heap.objs.size p j) ⟨fun j h h' a e=>?_,fun j h tk v Q E K hit hv q=>?_,fun j h tk Q E K hit hv q=>?_⟩ bt (zBl _) (zH _) (Nat.succ_ne_self _) cmp hR h0 _ s.toks 0 (kp0 _ _) ?_ ?_
   . obtain⟨o,ho,hc⟩:=a
     exact⟨o,by rw[e];exact ho,hc⟩
   . obtain⟨o,ho,hc⟩:=hp
     exact wpAny_pyNext_list_item hit ⟨o,K _ _ ho,hc⟩ (by rw[zAe];exact hv) fun h' a b=>q h' a fun c hc=>b.2 c hc
   . obtain⟨o,ho,hc⟩:=hp
     exact wpAny_pyNext_list_end hA hit ⟨o,K _ _ ho,hc⟩ (by rw[zAe];exact hv) fun h' b=>q h' b
   . exact⟨_,zI _ (zO _ rfl),rfl,rfl⟩
   . rw[<-hSe];exact zO _ rfl
 . refine zA (wpAny_pyIter_tuple hp (zA (wpAny_newList (zD ⟨rfl,?_⟩) (by show 0<=sizeLine;decide))))
   have hSe:(s.heap.push { cls:=.type "tuple_iterator",data:=.fields #[.ref p,.int 0 0] }).objs.size=s.heap.objs.size+1:=zA0 ..
   rw[hSe]
   refine zFS (s0:=s) (I:=s.heap.objs.size) (S:=s.heap.objs.size+1) (itAt:=fun j h=>h.IsTupleIter s.heap.objs.size p j) ⟨fun j h h' a e=>?_,fun j h tk v Q E K hit hv q=>?_,fun j h tk Q E K hit hv q=>?_⟩ bt (zBl _) (zH _) (Nat.succ_ne_self _) cmp hR h0 _ s.toks 0 (kp0 _ _) ?_ ?_
   . obtain⟨o,ho,hc⟩:=a
     exact⟨o,by rw[e];exact ho,hc⟩
   . obtain⟨o,ho,hc⟩:=hp
     exact wpAny_pyNext_tuple_item hit ⟨o,K _ _ ho,hc⟩ (by rw[zAe];exact hv) fun h' a b=>q h' a fun c hc=>b.2 c hc
   . obtain⟨o,ho,hc⟩:=hp
     exact wpAny_pyNext_tuple_end hA hit ⟨o,K _ _ ho,hc⟩ (by rw[zAe];exact hv) fun h' b=>q h' b
   . exact⟨_,zI _ (zO _ rfl),rfl,rfl⟩
   . rw[<-hSe];exact zO _ rfl
section
variable {X:Cx}
noncomputable def rMinD (K:PySem.W.Frag)(x dv:V)(H:Hp)(Q:VK):Prop:=∃(p:Addr)(ys:List V),x = .ref p/\(SqL K H p ys\/SqT K H p ys)/\(ys=[]->Q dv H) /\
 ((∃ks,zAy H ys ks/\∀(i:Nat)(y:V)(k:List Int),ys[i]? = some y->ks[i]? = some k->(∀k'∈ks,HT.lexLt k' k=false)->Q y H)\/(∃ns:List Int,ys=ns.map V.int/\∀n∈ns,(∀m∈ns,n<=m)->Q (.int n) H))
noncomputable def tMinD (K:PySem.W.Frag)(t:TA)(td:TE):TE:=fun σ H Q=>t σ H fun vs H1=>∃x,vs=[x]/\td σ H1 fun dv H2=>rMinD K x dv H2 Q
theorem zMU {e de:Expr}{t:TA}{td:TE}{pos np kpos:Pos}(hc:X.calm=true)(hu:X.A.units+1<cLine)(hg:Gl X "min") (hm:X.mg "min" = none) (he:PA X [e] t)(hd:PE X de td)
 (hs1:backTo pos (starEach [e] X.env)=(false,eval e X.env)::backTo pos (starEach [] X.env):=by rfl)(hs2:(backTo pos (starEach [e] X.env)).any (·.1)=false:=by rfl) :
 PE X (.Call (.Name "min" np) [e] [⟨some "default",de,kpos⟩] pos) (tMinD X.K t td):=by
 intro pins s σ H Q I h
 refine zA1 (zCz I hg hm (by decide +kernel:bootBuiltins "min" = some (.builtin "min")) ?_)
 refine PyProof.Rows.callWith_kw (thn (he pos pins s σ H _ I h) fun us s1 ⟨vs,H1,I1,r,q1⟩=>?_) hs1 hs2
 obtain⟨x,rfl,q1⟩:=q1
 obtain⟨u,rfl,rx⟩:=zE8 r
 show wpAny _ _ (evalAll ((do let v <-eval de X.env;standAt pos;pure v)::[])) _ _ s1
 refine wpAny_evalAll_cons (zA (thn (hd pins s1 σ H1 _ I1 q1) fun ud s2 ⟨dv,H2,I2,rd,q2⟩=>zA (wpAny_standAt (zD (wpAny_evalAll_nil ?_)))))
 show wpAny _ _ (call (.builtin "min") [u] [(Str.ofString "default",ud)]) _ _ s2
 obtain⟨p,ys,rfl,hp,q0,hk⟩:=q2
 cases rx
 obtain⟨its,rv,hpp⟩:∃its:List Value,zBB ys its/\(s2.heap.IsList p its.toArray\/s2.heap.IsTuple p its.toArray):=by
  rcases hp with hp | hp
  . obtain⟨its,r',pl,_⟩:=I2.list hp
    exact⟨its,r',.inl pl.isList⟩
  . obtain⟨its,r',pl,_⟩:=I2.tuple hp
    exact⟨its,r',.inr pl⟩
 have hlen:=rv.length
 have e0:its=[]->ys=[]:=fun z=>zBF.mp (by rw[hlen,z];rfl)
 rcases hk with ⟨ks,T,q⟩ | ⟨ns,rfl,q⟩
 . have hl:=T.length
   refine zGl (I2.ok.hd hc) (fun i j=>zLu.blt (ks.getD i []) (ks.getD j [])) hpp (fun i j vi vj h tk Q E K hi hj q=>?_) (fun v h tk hv K=>?_) (fun z h tk K=>⟨dv,H2,I2.kept K,rd,q0 (e0 z)⟩)
   . have look:∀(i:Nat)(v:Value),its[i]? = some v->∃(p:Addr)(k:List Int)(us:List Value),v = .ref p/\ks[i]? = some k/\IntsAre us k/\IsTup h p us.toArray:=fun i v hv=>by
      have hi:i<ys.length:=by have:=(zM.mp hv).1;omega
      obtain⟨p,k,e1,e2,e3,_⟩:=T.get (i:=i) (x:=ys[i]) (by simp[hi])
      obtain⟨u,hu,ru⟩:=rv.get (i:=i) (x:=ys[i]) (by simp[hi])
      rw[hv] at hu;cases hu
      rw[e1] at ru
      cases (show v=Value.ref p from ru)
      obtain⟨_,us,rv',o,ho,hc⟩:=I2.hok p _ e3
      exact⟨p,k,us,rfl,e2,zB1 rv',o,K _ _ ho,hc⟩
     obtain⟨p1,k1,us1,rfl,g1,i1,t1⟩:=look i vi hi
     obtain⟨p2,k2,us2,rfl,g2,i2,t2⟩:=look j vj hj
     refine HT.lt_tupInts (ns:=k1) (ms:=k2) t1 t2 i1 i2 hu ?_
     have:zLu.blt (ks.getD i []) (ks.getD j [])=HT.lexLt k1 k2:=by rw[zU,zU,g1,g2];rfl
     rw[<-this];exact q
   . obtain⟨b1,b2⟩:=zE2 (O:=zLu) (fun i=>ks.getD i []) (its.length-1)
     have hlt:=(zM.mp hv).1
     generalize eb:argBest (fun i j=>zLu.blt (ks.getD i []) (ks.getD j [])) (its.length-1)=bi at hv hlt b1 b2
     have hy:bi<ys.length:=by omega
     obtain⟨u,hu,ru⟩:=rv.get (i:=bi) (x:=ys[bi]) (by simp[hy])
     rw[hv] at hu;cases hu
     obtain⟨pa,k,e1,e2,e3,_⟩:=T.get (i:=bi) (x:=ys[bi]) (by simp[hy])
     refine⟨ys[bi],H2,I2.kept K,ru,q bi ys[bi] k (by simp[hy]) e2 fun k' hk'=>?_⟩
     obtain⟨j,hj,ej⟩:=zAW hk'
     have:=b2 j (by omega)
     have g1:ks.getD j []=k':=by rw[zU,zF hj,ej];rfl
     have g2:ks.getD bi []=k:=by rw[zU,e2];rfl
     rw[g1,g2] at this
     exact this
 . have hI:IntsAre its ns:=zB1 rv
   have hl:=hI.length
   have look:∀(i:Nat)(v:Value),its[i]? = some v->∃t,v = .int (ns.getD i 0) t:=fun i v hv=>by
    have hi:i<ns.length:=by have:=(zM.mp hv).1;omega
    obtain⟨u,hu,ru⟩:=rv.get (i:=i) (x:=.int ns[i]) (by simp[hi])
    rw[hv] at hu;cases hu
    obtain⟨t,rfl⟩:=(show ∃t,v=Value.int ns[i] t from ru)
    exact⟨t,by rw[zU,zF hi];rfl⟩
   refine zGl (I2.ok.hd hc) (fun i j=>decide (ns.getD i 0<ns.getD j 0)) hpp (fun i j vi vj h tk Q E K hi hj q=>?_) (fun v h tk hv K=>?_) (fun z h tk K=>⟨dv,H2,I2.kept K,rd,q0 (e0 z)⟩)
   . obtain⟨t1,rfl⟩:=look i vi hi
     obtain⟨t2,rfl⟩:=look j vj hj
     exact PyProof.Rows.lt_int q
   . obtain⟨b1,b2⟩:=argBest_lt (fun i=>ns.getD i 0) (its.length-1)
     have hlt:=(zM.mp hv).1
     generalize eb:argBest (fun i j=>decide (ns.getD i 0<ns.getD j 0)) (its.length-1)=bi at hv hlt b1 b2
     obtain⟨t,rfl⟩:=look bi v hv
     have hy:bi<ns.length:=by omega
     refine⟨.int (ns.getD bi 0),H2,I2.kept K,⟨t,rfl⟩,q _ ?_ fun m hm=>?_⟩
     . rw[zU,zF hy];exact zAS hy
     . obtain⟨j,hj,ej⟩:=zAW hm
       have:=b2 j (by omega)
       have g1:ns.getD j 0=m:=by rw[zU,zF hj,ej];rfl
       rw[g1] at this
       exact this
end
end L2
namespace L2
open PySem PyProof.Rows
section
variable {prog:Program}{w:World}{A:Around}{s0:Shared}{D I l:Addr}{its:List Value}{qs:List (Key×Value)}
end
section
variable {X:Cx}
end
end L2
namespace L2
open PySem PySem.Spec PyProof.Rows
section
variable {X:Cx}
theorem zCJ {x:Str}{T:String}{pos:Pos}(hg:Gl X x)(hm:X.mg x=none)(hv:bootBuiltins x=some (.type T))(hn:x ≠ "__name__" := by decide) (hdb:(x==("__debug__" : Str))=false:=by decide):PE X (.Name x pos) (tC (.ty T)):=
 fun pins s σ H Q I h=>zCz I hg hm hv ⟨.ty T,H,I,rfl,h⟩ hn hdb
theorem zAq:zDI X (.builtin "isinstance") (fun xs H Q=>∃x T t b,xs=[x,.ty T]/\zHQ X.K H x t/\PySem.W.kitOne X.K t (.type T)=some b/\Q (.bl b) H):=by
 intro pins s σ H xs us Q I r h
 obtain⟨x,T,t,b,rfl,ty,e,q⟩:=h
 obtain⟨u,w',rfl,rx,rT⟩:=zIw r
 cases (show w'=Value.type T from rT)
 exact zJ1 I rx ty e fun tk=>⟨.bl b,H,I.tok tk,rfl,q⟩
theorem ps_no {st:Stmt}:PS X st (fun _ _ _=>False):=fun _ _ _ _ _ _ h=>h.elim
end
section
variable {prog:Program}{w:World}{A:Around}{s0:Shared}{I l:Addr}{bs:List Bool}
theorem zLY {R:Result->Shared->Prop}(hA:A.handled=none)(hI:s0.heap.objs.size<=I)(hl:s0.heap.IsList l (bs.map Value.bool).toArray)
 (hR:∀(h:Heap)(tk:Nat),Kp s0 h->R (.ok (.ret (.bool (bs.all id)))) { s0 with heap:=h,toks:=tk }) :
 ∀(r j:Nat)(h:Heap)(tk:Nat),bs.length-j=r->j<=bs.length->Kp s0 h->h.IsListIter I l j->(bs.take j).all id=true ->
  codeAny (model prog w) A (.builtin "all.loop" { pos:=[.ref I] }) R { s0 with heap:=h,toks:=tk }:=by
 have hl':∀h,Kp s0 h->h.IsList l (bs.map Value.bool).toArray:=fun h K=>by
  obtain⟨o,ho,hc⟩:=hl
  exact⟨o,K _ _ ho,hc⟩
 intro r
 induction r with
 | zero=>
  intro j h tk hr hj K hit ha
  refine codeAny_builtin PySem.F.entry_all_loop ?_
  unfold Builtin.«all.loop»
  refine zA (wpAny_pyNext_list_end hA hit (hl' h K) (by rw[zAe];exact zAB (by rw[zE];omega)) fun h' b=>?_)
  refine zA (wpAny_rule (zD ?_))
  rw[za (by omega)] at ha
  have:=hR h' tk (K.but hI b)
  rw[ha] at this
  exact this
 | succ r ih=>
  intro j h tk hr hj K hit ha
  obtain⟨x,hx⟩:∃x,bs[j]? = some x:=⟨_,zF (by omega)⟩
  refine codeAny_builtin PySem.F.entry_all_loop ?_
  unfold Builtin.«all.loop»
  refine zA (wpAny_pyNext_list_item hit (hl' h K) (x:=.bool x) (by rw[zAe,zZ,hx];rfl) fun h' hit' b=>?_)
  have K':Kp s0 h':=K.but hI fun c o hc e=>by rw[b.2 c hc];exact e
  refine zA (zx (zBJ (zA (wpAny_letGo ?_))))
  cases x with
  | true=>
   refine zD ⟨rfl,?_⟩
   exact ih (j+1) h' tk (by omega) (by omega) K' hit' (by rw[zAb,hx,List.all_append,ha];rfl)
  | false=>
   refine zA (wpAny_rule (zD ?_))
   have e:bs.all id=false:=by
    cases z:bs.all id with
    | false=>rfl
    | true=>have:=zA7.mp z false (zi hx);simp at this
   have:=hR h' tk K'
   rw[e] at this
   exact this
end
section
variable {X:Cx}
theorem zIF:∀{bs:List Bool}{its:List Value},zBB (bs.map V.bl) its->its=bs.map Value.bool
 | [],[],_=>rfl
 | b::bs,u::its,h=>by
  cases h with
  | cons h1 h2=>rw[zAG,<-zIF h2,show u=Value.bool b from h1]
 | [],_::_,h=>by cases h
 | _::_,[],h=>by cases h
theorem zF6 (hc:X.calm=true):zDI X (.builtin "all") (fun xs H Q=>∃(p:Addr)(bs:List Bool),xs=[.ref p]/\SqL X.K H p (bs.map V.bl)/\Q (.bl (bs.all id)) H):=by
 intro pins s σ H xs us Q I r h
 obtain⟨p,bs,rfl,hq,q⟩:=h
 obtain⟨u,rfl,rx⟩:=zE8 r
 cases rx
 obtain⟨its,r',pl,hz⟩:=I.list hq
 rw[zIF r'] at pl
 refine zB7 (codeAny_call_builtin PySem.F.plain_all PySem.F.entry_all (wpAny_of_eq (m':=pure ()) rfl (zD ?_)))
 unfold Builtin.all
 refine zA (wpAny_of_eq (m':=pure (Value.ref p)) rfl (zD (zA (wpAny_pyIter_list pl.isList (zD ⟨rfl,?_⟩)))))
 refine zLY (s0:=s) (l:=p) (bs:=bs) (I.ok.hd hc) (zH _) pl.isList ?_ bs.length 0 _ s.toks rfl (zb _) (fun b o e=>zI _ e) ?_ rfl
 . exact fun h tk K=>⟨.bl _,H,I.kept K,rfl,q⟩
 . exact⟨_,zO _ rfl,rfl,rfl⟩
end
end L2
namespace L2
open PySem PySem.Spec PyProof.Rows
end L2
namespace L2
open PySem PySem.Spec PyProof.Rows
section
variable {X:Cx}
variable {o e:Expr}{es:List Expr}{to:TE}{t:TA}{name:Str}{apos cpos:Pos}{id:String}{r:V->List V->Hp->VK->Prop}
end
section
variable {prog:Program}{w:World}{A:Around}{E:Value->Shared->Prop}
end
section
variable {X:Cx}
end
section
variable {X:Cx}{pl:List (Addr×Obj)}{N':List Str}{sc:Scope}{fp:List Addr}{s3:Shared}{H3:Hp}
end
end L2
namespace L2
open PySem PySem.Spec PyProof.Rows
section
variable {X:Cx}
end
end L2
namespace L2
open PySem PySem.Spec PyProof.Rows
section
variable {prog:Program}{w:World}{A:Around}{s:Shared}{l:Addr}{its:List Value}{ns:List Int}{v:Int}{tv:Tok}
end
section
variable {X:Cx}
end
end L2
namespace WM
open L2
end WM
namespace L2
open PySem PyProof.Rows
end L2
namespace WM
end WM
namespace L2
open PySem PySem.Spec PyProof.Rows
section
variable {X:Cx}
end
end L2
namespace SortT
open PySem PySem.W PySem.Calls PyProof.Rows
section
variable {prog:Program}{w:World}{A:Around}{E:Value->Shared->Prop}{s:Shared}
end
end SortT
namespace L2
open PySem PySem.Spec PyProof.Rows
section
variable {X:Cx}
end
section
variable {X:Cx}{pl:List (Addr×Obj)}{N':List Str}{sc:Scope}{fp:List Addr}{s3:Shared}{H3:Hp}
end
end L2
namespace L2
open PySem PySem.Spec PyProof.Rows
section
variable {X:Cx}
noncomputable def rCatA (K:PySem.W.Frag):R2:=fun x y H Q=>∃a b xs ys,x = .ref a/\y = .ref b/\SqT K H a xs/\SqT K H b ys/\xs.length+ys.length<=sizeLine /\
 (xs=[]->Q (.ref b) H)/\(xs≠[]->ys=[]->Q (.ref a) H)/\(xs≠[]->ys≠[]->∀p,H p=none->Q (.ref p) (upd H p (.tup (xs++ys))))
theorem zM2 {prog:Program}{w:World}{A:Around}{E:Value->Shared->Prop}{s:Shared}{t b:Addr}{ws:List Value}{Q:Value->Shared->Prop}(ht:IsTup s.heap t #[])(hb:IsTup s.heap b ws.toArray)
 (h:Q (.ref b) s):wpAny (model prog w) A (binaryOp .Add (.ref t) (.ref b)) Q E s:=by
 obtain⟨⟨cls,dd,data,sl⟩,ho,hc,n,hd⟩:=id ht
 obtain⟨⟨cls2,dd2,data2,sl2⟩,ho2,hc2,n2,hd2⟩:=id hb
 simp only at hc hd hc2 hd2
 subst hc hd hc2 hd2
 exact concat_meets ⟨_,ho,rfl⟩ ⟨_,ho2,rfl⟩ noFill_tuple_add seq_tuple_add PySem.F.slot_tuple_add PySem.F.entry_tuple_add (PySem.F.args_tuple_add_2 _ _)
  (tuple_addW0 t b #[] ws.toArray n n2 dd dd2 sl sl2 rfl) ⟨ho,ho2,h⟩
theorem zG9:OpR X (binaryOp .Add) (rCatA X.K):=by
 intro pins s σ H x y v u Q I rx ry h
 obtain⟨a,b,xs,ys,rfl,rfl,ha,hb,hz,q0,q1,q2⟩:=h
 by_cases hx:xs=[]
 . subst hx
   cases rx
   cases ry
   obtain⟨its,r1,p1,_⟩:=I.tuple ha
   obtain⟨its2,r2,p2,_⟩:=I.tuple hb
   cases r1
   exact zM2 p1 p2 ⟨.ref b,H,I,rfl,q0 rfl⟩
 . exact zMZ pins s σ H _ _ v u Q I rx ry ⟨a,b,xs,ys,rfl,rfl,ha,hb,hx,hz,q1 hx,q2 hx⟩
end
end L2
namespace L2
open PySem PySem.Spec PyProof.Rows
section
variable {X:Cx}
theorem zKR:zDI X (.type "str") (fun xs H Q=>∃i:Int,xs=[.int i]/\i.natAbs<1000000000/\Q (.str (Str.ofString (toString i))) H):=by
 intro pins s σ H xs us Q I r h
 obtain⟨i,rfl,hi,q⟩:=h
 obtain⟨u,rfl,rx⟩:=zE8 r
 obtain⟨t,rfl⟩:=rx
 exact str_of_int_fit (N:=1000000000) (by split <;> omega) (by decide) fun _=>⟨.str _,H,I.tok _,⟨_,rfl⟩,q⟩
noncomputable def rNeTE (K:PySem.W.Frag):R2:=fun x y H Q=>∃(a b:Addr)(xs:List V),x = .ref a/\y = .ref b/\SqT K H a xs/\SqT K H b []/\Q (.bl (!xs.isEmpty)) H
theorem zJg (hu:X.A.units<cLine):OpR X (compareOp .NotEq) (rNeTE X.K):=by
 intro pins s σ H x y v u Q I rx ry h
 obtain⟨a,b,xs,rfl,rfl,ha,hb,q⟩:=h
 cases rx
 cases ry
 obtain⟨its,r,pl,hz⟩:=I.tuple ha
 obtain⟨its2,r2,pl2,hz2⟩:=I.tuple hb
 have l1:=r.length
 have e2:its2=[]:=by cases r2;rfl
 subst e2
 refine PySem.EqBoolInt.of_rcne (SeqAt.RcNeAt.tuples (e:=fun _=>true) pl pl2 hu (fun j _ h2=>absurd h2 (by simp))) ⟨.bl _,H,I,rfl,?_⟩
 have e:(!((List.range (min its.toArray.size ([]:List Value).toArray.size)).all (fun _=>true) && its.toArray.size==([]:List Value).toArray.size)) = !xs.isEmpty:=by
  cases xs with
  | nil=>cases r;rfl
  | cons x xs=>cases r;simp
 rw[e]
 exact q
end
end L2
namespace HT
open PySem PySem.Spec PyProof.Rows
section
open PySem.SeqAt
open PySem.AutoSeq1 (wpAny_loadPart')
open PySem.MeetsSeq PySem.MeetsSeq2 PySem.MeetsSeq3
end
end HT
namespace L2
open PySem PySem.Spec PyProof.Rows
section
variable {X:Cx}
end
end L2
namespace HT
open PySem PySem.Spec PyProof.Rows
section
variable {prog:Program}{w:World}{A:Around}{E:Value->Shared->Prop}{s:Shared}
theorem getItem_tuple_all {t sl:Addr}{items:Array Value}{vl vu:Value}{lo hi:Option Int}{Q:Value->Shared->Prop}(ht:IsTup s.heap t items)(hs:s.heap.IsSliceOf sl vl vu .none)(pl:IsPart vl lo)(pu:IsPart vu hi)
 (hw:sIx items.size 0 lo=0/\sIx items.size items.size hi=items.size)(h:Q (.ref t) s):wpAny (model prog w) A (getItem (.ref t) (.ref sl)) Q E s:=by
 obtain⟨os,hos,hcs,hds⟩:=id hs
 have hTs:s.TypeIs (.ref sl) "slice" := ⟨os,hos,hcs⟩
 unfold getItem
 try with_reducible refine zx ?_
 first | refine zA (zD ?_) | skip
 refine zA (wpAny_sequenceKey ht.typeIs (by decide) ?_)
 refine zA (zAh (name:=Str.ofString "__getitem__") ht.typeIs PyProof.Rows.slot_tuple_getitem
  (zAO PyProof.Rows.slot_tuple_getitem ht.typeIs entry_tuple_getitem ?_ (args_tuple_getitem _ _)))
 show wpAny _ _ (Builtin.Tuple.tupleItemsOf (.ref t) >>= _) _ _ s
 refine zA (tupleItemsOf_ ht ?_)
 refine zA (zBH hTs ?_)
 rw[if_pos (by decide)]
 refine zA (zCx hs pl pu ?_)
 have hyes:(((sIx items.size 0 lo:Nat):Int)==0 && (1:Int)==1 && (sIx items.size items.size hi-sIx items.size 0 lo)==items.size)=true:=by
  rw[hw.1,hw.2];simp
 show wpAny _ _ (if (((sIx items.size 0 lo:Nat):Int)==0 && (1:Int)==1 && (sIx items.size items.size hi-sIx items.size 0 lo)==items.size)=true then _ else _) _ _ s
 rw[if_pos hyes]
 unfold Builtin.Tuple.tupleIsExact
 refine zA (zA (zBH ht.typeIs (zD ?_)))
 rw[if_pos (by decide)]
 first
  | exact zA (wpAny_rule (zD ⟨_,rfl,zD h⟩))
  | exact zA (wpAny_rule (zD (zD ⟨_,rfl,zD h⟩)))
  | exact zA (wpAny_rule (zA (zD (zD ⟨_,rfl,zD h⟩))))
  | exact wpAny_rule (zD ⟨_,rfl,zD h⟩)
theorem zEB {sl:Addr}{vk:Value}{n:Nat}{os:Obj}{Q:Int×Int×Nat->Shared->Prop}(hos:s.heap.get? sl=some os)(hds:os.data = .fields #[.none,.none,vk])(pk:IsPart vk (some (-1)))
 (h:Q ((n:Int)-1,-1,n) s):wpAny (model prog w) A (Builtin.Slice.sliceApplied (.ref sl) (pure (n:Int))) Q E s:=by
 unfold Builtin.Slice.sliceApplied Builtin.Slice.sliceFields
 refine zA (zA (wpAny_field hos hds (x:=.none) rfl (zA (wpAny_field hos hds (x:=.none) rfl (zA (wpAny_field hos hds (x:=vk) rfl (zD ?_)))))))
 refine zA (zDs pk ?_)
 show wpAny _ _ (if ((-1:Int)==0)=true then _ else _) _ _ s
 rw[if_neg (by decide)]
 refine zA (slicePart_none (zA (slicePart_none (zA (zD ?_)))))
 have e:Builtin.Slice.sliceAdjust none none (-1) (n:Int)=((n:Int)-1,-1):=rfl
 show wpAny _ _ (match Builtin.Slice.sliceAdjust none none (-1) (n:Int) with | (lo,hi)=>pure (lo,(-1:Int),Builtin.Slice.slicePlaces lo hi (-1))) _ _ s
 rw[e]
 have e2:Builtin.Slice.slicePlaces ((n:Int)-1) (-1) (-1)=n:=by
  unfold Builtin.Slice.slicePlaces
  rw[if_neg (by decide)]
  cases n with
  | zero=>rfl
  | succ m=>
   rw[if_pos (by omega),Int.neg_neg,Int.ediv_one]
   omega
 show wpAny _ _ (pure ((n:Int)-1,(-1:Int),Builtin.Slice.slicePlaces ((n:Int)-1) (-1) (-1))) _ _ s
 rw[e2]
 exact zD h
theorem zH2 {α β:Type}{f g:α->Option β}:∀{l:List α},(∀m∈l,f m=g m)->l.filterMap f=l.filterMap g
 | [],_=>rfl
 | a::l,h=>by
  have ih:=zH2 (l:=l) fun m hm=>h m (zN _ hm)
  rw[zA9,zA9,h a zT,ih]
theorem zK0 (xs:Array Value):((List.range xs.size).filterMap fun (m:Nat)=>xs[(((xs.size:Int)-1)+(m:Int)*(-1)).toNat]?).toArray=xs.toList.reverse.toArray:=by
 have e:((List.range xs.size).filterMap fun (m:Nat)=>xs[(((xs.size:Int)-1)+(m:Int)*(-1)).toNat]?)=((List.range xs.size).map fun k=>xs.size-1-k).filterMap (xs[·]?):=by
  rw[List.filterMap_map]
  apply zH2
  intro m hm
  have:=zBm.mp hm
  show xs[_]? = xs[_]?
  rw[show (((xs.size:Int)-1)+(m:Int)*(-1)).toNat=xs.size-1-m by omega]
 rw[e,PySem.W.krv_range,List.filterMap_reverse,PySem.W.krv_all]
theorem getItem_tuple_rev {t sl:Addr}{items:Array Value}{vk:Value}{os:Obj}{Q:Value->Shared->Prop}(ht:IsTup s.heap t items)(hos:s.heap.get? sl=some os)(hcs:os.cls = .type "slice") (hds:os.data = .fields #[.none,.none,vk])(pk:IsPart vk (some (-1)))
 (h:Q (.ref s.heap.objs.size) { s with heap:=s.heap.push { cls:=.type "tuple",data:=.seq items.toList.reverse.toArray } }) (hsz:items.size<=sizeLine):wpAny (model prog w) A (getItem (.ref t) (.ref sl)) Q E s:=by
 have hTs:s.TypeIs (.ref sl) "slice" := ⟨os,hos,hcs⟩
 have htake:sizeOk (.seq items.toList.reverse.toArray):=by
  show items.toList.reverse.toArray.size<=sizeLine
  rw[zP,zBU,Array.length_toList]
  exact hsz
 unfold getItem
 try with_reducible refine zx ?_
 first | refine zA (zD ?_) | skip
 refine zA (wpAny_sequenceKey ht.typeIs (by decide) ?_)
 refine zA (zAh (name:=Str.ofString "__getitem__") ht.typeIs PyProof.Rows.slot_tuple_getitem
  (zAO PyProof.Rows.slot_tuple_getitem ht.typeIs entry_tuple_getitem ?_ (args_tuple_getitem _ _)))
 show wpAny _ _ (Builtin.Tuple.tupleItemsOf (.ref t) >>= _) _ _ s
 refine zA (tupleItemsOf_ ht ?_)
 refine zA (zBH hTs ?_)
 rw[if_pos (by decide)]
 refine zA (zEB hos hds pk ?_)
 have hno:¬ ((((items.size:Int)-1)==0 && (-1:Int)==1 && items.size==items.size)=true):=by
  intro q
  rw[zAC,zAC] at q
  exact absurd q.1.2 (by decide)
 show wpAny _ _ (if (((items.size:Int)-1)==0 && (-1:Int)==1 && items.size==items.size)=true then _ else _) _ _ s
 rw[if_neg hno,zK0]
 first
  | exact zA (m:=Builtin.Tuple.tupleExact _) (zw (zD ⟨_,rfl,zD h⟩) htake)
  | exact zA (m:=Builtin.Tuple.tupleExact _) (zw (zA (zD (zD ⟨_,rfl,zD h⟩))) htake)
  | exact zA (zA (m:=Builtin.Tuple.tupleExact _) (zw (zD (zD ⟨_,rfl,zD h⟩)) htake))
  | exact zA (zA (m:=Builtin.Tuple.tupleExact _) (zw (zD ⟨_,rfl,zD h⟩) htake))
end
end HT
namespace L2
open PySem PySem.Spec PyProof.Rows
section
variable {X:Cx}{e:Expr}{te:TE}{pos p2 p3 p4:Pos}
noncomputable def rSlA (K:PySem.W.Frag):V->Option Int->Option Int->Hp->VK->Prop:=fun x lo hi H Q=>∃a xs,x = .ref a/\SqT K H a xs /\
 ((HT.sIx xs.length 0 lo=0/\HT.sIx xs.length xs.length hi=xs.length)->Q (.ref a) H)/\(¬ (HT.sIx xs.length 0 lo=0/\HT.sIx xs.length xs.length hi=xs.length)->∀p,H p=none->Q (.ref p) (upd H p (.tup (zEM xs lo hi))))
theorem zI7:SlR X (rSlA X.K):=by
 intro pins s σ H x v vl vu lo hi sl Q I rx hs pl pu h
 obtain⟨a,xs,rfl,hx,q1,q2⟩:=h
 by_cases c:HT.sIx xs.length 0 lo=0/\HT.sIx xs.length xs.length hi=xs.length
 . cases rx
   obtain⟨its,r,ht,hz⟩:=I.tuple hx
   have hlen:its.toArray.size=xs.length:=by rw[zP];exact r.length.symm
   refine⟨"tuple",_,PyProof.Rows.slot_tuple_getitem.lookup,ht.typeIs,?_⟩
   exact HT.getItem_tuple_all ht hs pl pu (by rw[hlen];exact c) ⟨.ref a,H,I,rfl,q1 c⟩
 . exact sl_tup pins s σ H _ v vl vu lo hi sl Q I rx hs pl pu ⟨a,xs,rfl,hx,c,q2 c⟩
noncomputable def tRev (K:PySem.W.Frag)(te:TE):TE:=fun σ H Q=>te σ H fun x H1=>∃a xs,x = .ref a/\SqT K H1 a xs/\∀p,H1 p=none->Q (.ref p) (upd H1 p (.tup xs.reverse))
theorem zGA {xs:List V}{us:List Value}(h:zBB xs us):zBB xs.reverse us.reverse:=by
 induction h with
 | nil=>exact .nil
 | cons r _ ih=>rw[zBv,zBv];exact ih.append (.cons r .nil)
theorem pe_rev {m:Expr}{ops:Value->Value->List Value}(he:PE X e te)(hm:PE X m (tC (.int (-1))))(hsub:∀a d,subscripted (.Slice none none (some m) p2) false a d=operate (ops a d) (getItem a d)):PE X (.Subscript e (.Slice none none (some m) p2) pos) (tRev X.K te):=by
 intro pins s σ H Q I h
 refine Subscript_ (thn (he pins s σ H _ I h) fun v s1 ⟨x,H1,I1,r1,q1⟩=>?_)
 obtain⟨a,xs,rfl,hx,q⟩:=q1
 refine wpAny_Slice ?_
 rw[evalPart_none]
 refine zD (zD ?_)
 rw[evalPart_some]
 refine thn (hm pins s1 σ H1 (fun y H2=>y = .int (-1)/\H2=H1) I1 ⟨rfl,rfl⟩) fun vk s3 ⟨y,H3,I3,rk,ey,eH⟩=>?_
 subst ey eH
 obtain⟨t,rfl⟩:=rk
 cases r1
 have I4:Inv X pins σ H3 { s3 with heap:=s3.heap.push { cls:=.type "slice",data:=.fields #[.none,.none,.int (-1) t] } }:=I3.kept (t':=s3.toks) fun b ob q=>zI _ q
 obtain⟨its,r,ht,hz⟩:=I4.tuple hx
 have hlen:its.toArray.size=xs.length:=by rw[zP];exact r.length.symm
 show wpAny (model X.prog X.w) X.A (subscriptTail e (.Slice none none (some m) p2) (.ref a) (.ref s3.heap.objs.size)) (EP X pins σ Q) X.xe { s3 with heap:=s3.heap.push { cls:=.type "slice",data:=.fields #[.none,.none,.int (-1) t] } }
 refine tail_any (ops:=ops (.ref a) (.ref s3.heap.objs.size)) ht.typeIs PyProof.Rows.slot_tuple_getitem.lookup (HT.getItem_tuple_rev ht (zO _ rfl) rfl rfl (.int (-1) t) ?_ (by rw[hlen];exact hz)) (hsub _ _)
 refine⟨.ref _,_,I4.laid (t':=s3.toks) (o:=.tup xs.reverse) (fun b ob q=>zI _ q) (zH _) ?_,rfl,q _ (I4.hok.fresh (zH _))⟩
 exact⟨⟨by rw[zBU];exact hz,_,zO _ rfl,rfl⟩,_,zGA r,IsTup.new _ _⟩
end
end L2
namespace STb
open PySem
noncomputable def Ris (xs:Array Nat):Prop:=xs.toList.Pairwise (· < ·)
theorem Ris.lt {xs:Array Nat}(h:Ris xs){i j:Nat}{a b:Nat}(hij:i<j)(hi:xs[i]? = some a)(hj:xs[j]? = some b):a<b:=by
 obtain⟨h1,e1⟩:=Array.getElem?_eq_some_iff.mp hi
 obtain⟨h2,e2⟩:=Array.getElem?_eq_some_iff.mp hj
 have:=zAV.mp h i j (by simpa using h1) (by simpa using h2) hij
 simpa [e1,e2] using this
theorem zMp {xs:Array Nat}(h:Ris xs)(j:Nat):∀(fuel lo hi:Nat),hi-lo<=fuel->lo<=hi->hi<=xs.size->(∀k v,k<lo->xs[k]? = some v->v<j)->(∀k v,hi<=k->xs[k]? = some v->j<=v) ->
 lo<=SetTable.below.go xs j fuel lo hi/\SetTable.below.go xs j fuel lo hi<=hi/\(∀k v,k<SetTable.below.go xs j fuel lo hi->xs[k]? = some v->v<j)/\(∀k v,SetTable.below.go xs j fuel lo hi<=k->xs[k]? = some v->j<=v):=by
 intro fuel
 induction fuel with
 | zero=>
  intro lo hi hf hl hs h1 h2
  have:lo=hi:=by omega
  subst this
  exact⟨zH _,zH _,h1,h2⟩
 | succ fuel ih=>
  intro lo hi hf hl hs h1 h2
  unfold SetTable.below.go
  by_cases c:lo<hi
  . rw[if_pos c]
    have hm:(lo+hi)/2<xs.size:=by omega
    have em:xs[(lo+hi)/2]? = some xs[(lo+hi)/2]:=Array.getElem?_eq_getElem hm
    have eg:xs.getD ((lo+hi)/2) j=xs[(lo+hi)/2]:=by simp[Array.getD,hm]
    dsimp only
    rw[eg]
    by_cases d:xs[(lo+hi)/2]<j
    . rw[if_pos d]
      obtain⟨a,b,c1,c2⟩:=ih ((lo+hi)/2+1) hi (by omega) (by omega) hs (fun k v hk e=>by
       by_cases z:k=(lo+hi)/2
       . subst z;rw[em] at e;cases e;exact d
       . have:=h.lt (i:=k) (j:=(lo+hi)/2) (by omega) e em;omega) h2
      exact⟨by omega,b,c1,c2⟩
    . rw[if_neg d]
      obtain⟨a,b,c1,c2⟩:=ih lo ((lo+hi)/2) (by omega) (by omega) (by omega) h1 (fun k v hk e=>by
       by_cases z:k=(lo+hi)/2
       . subst z;rw[em] at e;cases e;omega
       . have:=h.lt (i:=(lo+hi)/2) (j:=k) (by omega) em e;omega)
      exact⟨a,by omega,c1,c2⟩
  . rw[if_neg c]
    have:lo=hi:=by omega
    subst this
    exact⟨zH _,zH _,h1,h2⟩
theorem zD2 {xs:Array Nat}(h:Ris xs)(j:Nat):SetTable.below xs j<=xs.size/\(∀k v,k<SetTable.below xs j->xs[k]? = some v->v<j)/\(∀k v,SetTable.below xs j<=k->xs[k]? = some v->j<=v):=by
 obtain⟨_,a,b,c⟩:=zMp h j xs.size 0 xs.size (by omega) (by omega) (zH _) (fun k v hk _=>absurd hk (zBu _)) (fun k v hk e=>by
  have:=(Array.getElem?_eq_some_iff.mp e).1;omega)
 exact⟨a,b,c⟩
theorem zIp {xs:Array Nat}(h:Ris xs){i a:Nat}(e:xs[i]? = some a):SetTable.below xs (a+1)=i+1:=by
 obtain⟨h1,h2,h3⟩:=zD2 h (a+1)
 have hi:=(Array.getElem?_eq_some_iff.mp e).1
 rcases Nat.lt_trichotomy (SetTable.below xs (a+1)) (i+1) with c | c | c
 . have:=h3 i a (by omega) e;omega
 . exact c
 . have hl:i+1<xs.size:=by omega
   have e2:xs[i+1]? = some xs[i+1]:=Array.getElem?_eq_getElem hl
   have a1:=h2 (i+1) _ c e2
   have a2:=h.lt (i:=i) (j:=i+1) (by omega) e e2
   omega
theorem zIo {xs:Array Nat}(h:Ris xs):SetTable.below xs 0=0:=by
 obtain⟨h1,h2,h3⟩:=zD2 h 0
 rcases Nat.eq_zero_or_pos (SetTable.below xs 0) with c | c
 . exact c
 . have hl:0<xs.size:=by omega
   have:=h2 0 _ c (Array.getElem?_eq_getElem hl)
   omega
theorem zIi {xs:Array Nat}(h:Ris xs){j:Nat}(ne:xs[SetTable.below xs j]?≠some j):Ris (SetTable.insertAt xs (SetTable.below xs j) j):=by
 obtain⟨h1,h2,h3⟩:=zD2 h j
 unfold Ris
 rw[SetTable.toList_insertAt]
 have hp:(xs.toList.take (SetTable.below xs j)++xs.toList.drop (SetTable.below xs j)).Pairwise (· < ·):=by rw[zAd];exact h
 obtain⟨p1,p2,p3⟩:=List.pairwise_append.mp hp
 have lo:∀a∈xs.toList.take (SetTable.below xs j),a<j:=fun a ha=>by
  obtain⟨k,hk,e⟩:=zAW ha
  rw[zd] at hk
  rw[List.getElem_take] at e
  exact h2 k a (by omega) (by rw[<-Array.getElem?_toList,zF (by omega),e])
 have hi:∀a∈xs.toList.drop (SetTable.below xs j),j<a:=fun a ha=>by
  obtain⟨k,hk,e⟩:=zAW ha
  rw[zAR] at hk
  rw[List.getElem_drop] at e
  have eg:xs[SetTable.below xs j+k]? = some a:=by rw[<-Array.getElem?_toList,zF (by omega),e]
  have:=h3 _ a (by omega) eg
  by_cases c:k=0
  . subst c
    rw[Nat.add_zero] at eg
    have:a≠j:=fun z=>ne (by rw[eg,z])
    omega
  . have hz:SetTable.below xs j<xs.size:=by simp at hk;omega
    have e0:xs[SetTable.below xs j]? = some xs[SetTable.below xs j]:=Array.getElem?_eq_getElem hz
    have a0:=h3 _ _ (zH _) e0
    have a1:=h.lt (i:=SetTable.below xs j) (j:=SetTable.below xs j+k) (by omega) e0 eg
    omega
 refine List.pairwise_append.mpr ⟨p1,zBh.mpr ⟨hi,p2⟩,fun a ha b hb=>?_⟩
 rcases zR.mp hb with rfl | hb
 . exact lo a ha
 . exact p3 a ha b hb
structure GT (led:Bool)(t:SetTable):Prop where
 dm:t.dummies = #[]
 ld:t.led=led
 rs:t.plain=true->Ris t.place
theorem zLK (led:Bool):GT led (SetTable.fresh 0 0 led):=⟨rfl,rfl,fun _=>List.Pairwise.nil⟩
theorem zJ8 (j:Nat):SetTable.has #[] j=false:=by
 unfold SetTable.has
 simp
theorem zFJ {t:SetTable}(hd:t.dummies = #[]){j:Nat}:(t.slot j = .empty->t.place[SetTable.below t.place j]?≠some j)/\t.slot j ≠ .dummy:=by
 unfold SetTable.slot
 rw[hd,zJ8]
 dsimp only
 constructor
 . intro h e
   rw[e] at h
   simp at h
 . split <;> simp
theorem zG6 {t:SetTable}(hd:t.dummies = #[]){ha:Nat->Int}{hh:Int}{j:Nat}{d:Option Nat}:∀(fuel:Nat)(p:SetTable.Probe),p.dummy=none->SetTable.probe.go t ha hh fuel p=some (.empty j d)->t.slot j = .empty/\d=none:=by
 intro fuel
 induction fuel with
 | zero=>intro p _ h;unfold SetTable.probe.go at h;cases h
 | succ fuel ih=>
  intro p hp h
  unfold SetTable.probe.go at h
  cases e:t.slot p.j with
  | empty=>
   rw[e] at h
   simp only[Option.some.injEq,SetTable.Met.empty.injEq] at h
   exact⟨by rw[<-h.1];exact e,by rw[<-h.2];exact hp⟩
  | dummy=>exact absurd e (zFJ hd).2
  | live i=>
   rw[e] at h
   dsimp only at h
   split at h
   . cases h
   . refine ih _ ?_ h
     unfold SetTable.advance
     split
     . exact hp
     . exact hp
theorem zIl {t:SetTable}(hd:t.dummies = #[]){hh:Int}{j:Nat}{w:Bool}(h:t.freeSlot hh=some (j,w)):t.place[SetTable.below t.place j]?≠some j:=by
 unfold SetTable.freeSlot at h
 cases e:t.probe (fun _=>hh+1) hh (t.probeStart hh) with
 | none=>rw[e] at h;cases h
 | some met=>
  rw[e] at h
  cases met with
  | candidate a b c=>cases h
  | empty j' d=>
   obtain⟨e1,e2⟩:=zG6 hd _ _ rfl e
   subst e2
   simp only[Option.getD_none,Option.some.injEq,Prod.mk.injEq] at h
   rw[<-h.1]
   exact (zFJ hd).1 e1
theorem gt_put {led:Bool}{t:SetTable}(g:GT led t){j:Nat}(h:t.place[SetTable.below t.place j]?≠some j):GT led (t.put j).1:=by
 unfold SetTable.put
 refine⟨?_,g.ld,fun hp=>zIi (g.rs hp) h⟩
 dsimp only
 rw[g.dm,zJ8]
 rfl
theorem zEK {led:Bool}{t:SetTable}(g:GT led t)(n:Nat):GT led (t.standIn n):=⟨rfl,g.ld,fun h=>by cases h⟩
theorem gt_or {led:Bool}{t:SetTable}(g:GT led t)(n:Nat):GT led (t.orStandIn n):=by
 unfold SetTable.orStandIn
 split
 . exact g
 . exact zEK g n
theorem gt_lay {led:Bool}{t:SetTable}(g:GT led t)(es:Array (Int×Value))(h:Int)(x:Value):GT led (layNew t es h x).2.1:=by
 unfold layNew
 cases e:t.freeSlot h with
 | none=>exact zEK g _
 | some q=>
  obtain⟨j,w⟩:=q
  exact gt_or (gt_put g (zIl g.dm e)) _
theorem zIR {f:Nat->Option Nat}:∀(l:List Nat),l.Pairwise (· < ·)->((l.filterMap fun j=>(f j).map (j,·)).map (·.1)).Pairwise (· < ·):=by
 intro l h
 rw[List.pairwise_map,List.pairwise_filterMap]
 refine h.imp fun {a b} hab x hx y hy=>?_
 cases ea:f a with
 | none=>rw[ea] at hx;cases hx
 | some u=>
  cases eb:f b with
  | none=>rw[eb] at hy;cases hy
  | some v=>
   rw[ea] at hx
   rw[eb] at hy
   cases hx
   cases hy
   exact hab
theorem zLJ {led:Bool}{t:SetTable}(g:GT led t)(es:Array (Int×Value))(n:Nat):GT led (relayAll t es n).2.1:=by
 unfold relayAll
 cases e:t.relaid (es.map (·.1)) n with
 | none=>exact zEK g _
 | some q=>
  obtain⟨t',order⟩:=q
  dsimp only
  split
  . unfold SetTable.relaid SetTable.laid at e
    simp only[Option.bind_eq_bind,Option.bind_eq_some_iff,Option.pure_def,Option.some.injEq,Prod.mk.injEq] at e
    obtain⟨owner,_,e1,_⟩:=e
    rw[<-e1]
    refine⟨rfl,g.ld,fun _=>?_⟩
    show List.Pairwise _ (List.map _ _).toArray.toList
    exact zIR _ List.pairwise_lt_range
  . exact zEK g _
end STb
namespace STb
open PySem PySem.Spec PyProof.Rows L2
section
variable {prog:Program}{w:World}{A:Around}{E:Value->Shared->Prop}{s:Shared}
structure Brs (prog:Program)(w:World)(led:Bool)(S:Int->Bool)(n:Nat)(el:Array (Int×Value))(tb:SetTable):Prop where
 elm:ElemsOf (intKind prog w) el.toList
 mem:∀k,S k=true↔∃e∈el.toList,(intKind prog w).is k e.2=true
 few:el.size<scanBound
 fit:tb.fits el.size=true
 siz:el.size=n
 gt:GT led tb
noncomputable def zF7 (prog:Program)(w:World)(led:Bool)(h:Heap)(a:Addr)(S:Int->Bool)(n:Nat):Prop:=
 ∃ob el ep tb,h.get? a=some ob/\ob.ExactSet/\ob.data = .set el ep tb/\Brs prog w led S n el tb
theorem zF7.keep {led:Bool}{h h':Heap}{a:Addr}{S:Int->Bool}{n:Nat}(x:zF7 prog w led h a S n)(k:∀o,h.get? a=some o->h'.get? a=some o):zF7 prog w led h' a S n:=
 let ⟨ob,el,ep,tb,g1,g2,g3,g4⟩:=x;⟨ob,el,ep,tb,k _ g1,g2,g3,g4⟩
theorem zF7.congr {led:Bool}{h:Heap}{a:Addr}{S S':Int->Bool}{n n':Nat}(x:zF7 prog w led h a S n)(e:∀k,S' k=S k)(en:n'=n):zF7 prog w led h a S' n':=by
 obtain⟨ob,el,ep,tb,g1,g2,g3,g4⟩:=x
 subst en
 exact⟨ob,el,ep,tb,g1,g2,g3,⟨g4.elm,fun k=>by rw[e k];exact g4.mem k,g4.few,g4.fit,g4.siz,g4.gt⟩⟩
theorem zLi {h:Heap}{a:Addr}{ob:Obj}{el:Array (Int×Value)}{ep:Nat}{tb:SetTable}(g1:h.get? a=some ob)(g3:ob.data = .set el ep tb)(el':Array (Int×Value))(tb':SetTable) :
 (h.update a (Obj.putSet el' tb')).get? a=some { ob with data:=.set el' (ep+1) tb' }:=by
 have q:=zv (Obj.putSet el' tb') g1 (by rw[putSet_of el' tb' g3];rfl)
 rwa [putSet_of el' tb' g3] at q
theorem zLc {led:Bool}{a:Addr}{ob:Obj}{el el1:Array (Int×Value)}{ep:Nat}{tb tb1:SetTable}{S:Int->Bool}{n:Nat}{wd:Bool}{R:Option Bool->Shared->Prop}{note:Bool->Sem Unit}
 (hn:∀(b:Bool)(s₁:Shared)(Q':Unit->Shared->Prop),Q' () s₁->wpAny (model prog w) A (note b) Q' E s₁)
 (g1:s.heap.get? a=some ob)(g2:ob.ExactSet)(g3:ob.data = .set el ep tb)(B:Brs prog w led S n el1 tb1)
 (q:∀h',Heap.SameBut a s.heap h'->zF7 prog w led h' a S n->R (some true) { s with heap:=h' }) :
 wpAny (model prog w) A (storeSet a el1 tb1 >>= fun _=>if (!wd && tb1.tooFull)=true then (note (relayAll tb1 el1 (SetTable.grown el1.size)).2.2 >>= fun _=>storeSet a (relayAll tb1 el1 (SetTable.grown el1.size)).1 (relayAll tb1 el1 (SetTable.grown el1.size)).2.1 >>= fun _=>pure (some true)) else pure (some true)) R E s:=by
 refine zA (wpAny_storeSet_of g1 g3 ?_ (fits_of_scanBound B.few))
 have p1:=zLi g1 g3 el1 tb1
 have b1:=zAr s.heap a (Obj.putSet el1 tb1)
 by_cases c:(!wd && tb1.tooFull)=true
 . rw[if_pos c]
   have pm:=relayAll_perm tb1 el1 (SetTable.grown el1.size)
   have pf:=relayAll_fits tb1 el1 (SetTable.grown el1.size)
   have pg:=zLJ B.gt el1 (SetTable.grown el1.size)
   generalize relayAll tb1 el1 (SetTable.grown el1.size)=ra at pm pf pg ⊢
   obtain⟨el2,tb2,gv⟩:=ra
   dsimp only at pm pf pg ⊢
   have z:el2.size=el1.size:=by rw[<-Array.length_toList,pm.length_eq,Array.length_toList]
   refine zA (hn _ _ _ (zA (wpAny_storeSet_of p1 rfl ?_ (fits_of_scanBound (by rw[z];exact B.few)))))
   refine zD (q _ (b1.trans (zAr _ a _)) ⟨_,el2,_,tb2,zLi p1 rfl el2 tb2,g2,rfl,⟨B.elm.perm pm,fun k=>(B.mem k).trans ?_,by rw[z];exact B.few,pf,by rw[z];exact B.siz,pg⟩⟩)
   exact⟨fun ⟨e,he,u⟩=>⟨e,pm.mem_iff.mpr he,u⟩,fun ⟨e,he,u⟩=>⟨e,pm.mem_iff.mp he,u⟩⟩
 . rw[if_neg c]
   exact zD (q _ b1 ⟨_,el1,_,tb1,p1,g2,rfl,B⟩)
theorem add_g {led:Bool}{a:Addr}{S:Int->Bool}{n:Nat}{k:Int}{tk:Tok}{Q:Bool->Shared->Prop}(G:zF7 prog w led s.heap a S n)(room:n+1<scanBound)
 (q:∀h',Heap.SameBut a s.heap h'->zF7 prog w led h' a (fun j=>S j || decide (j=k)) (if S k then n else n+1)->Q (!S k) { s with heap:=h' }) :
 wpAny (model prog w) A (setAddHashed a (.int k tk) ((intKind prog w).hash k)) Q E s:=by
 have kk:(intKind prog w).is k (.int k tk)=true:=intKind_is _ _ _ _
 obtain⟨ob,el,ep,tb,g1,g2,g3,B⟩:=G
 unfold setAddHashed setAddHashedIn
 refine zx (zA (zBK g1 g3 B.fit ?_))
 dsimp only
 rw[byScan_of (knd:=intKind prog w) (x:=.int k tk) rfl B.few B.elm]
 rw[if_pos rfl]
 unfold setAddByScan
 refine zA (zA (wpAny_rule (zA (wpAny_setScan_of kk g1 g3 B.fit B.elm ?_))))
 cases fi:el.toList.findIdx? (fun e=>(intKind prog w).is k e.2) with
 | some j=>
  obtain⟨hj,hp,_⟩:=List.findIdx?_eq_some_iff_getElem.mp fi
  have yes:S k=true:=(B.mem k).mpr ⟨_,zAS hj,hp⟩
  refine zD (zD ?_)
  have r:=q s.heap (Heap.SameBut.refl a s.heap) ⟨ob,el,ep,tb,g1,g2,g3,⟨B.elm,fun i=>?_,B.few,B.fit,by rw[yes];exact B.siz,B.gt⟩⟩
  . rw[yes] at r
    exact r
  . rw[Bool.or_eq_true,decide_eq_true_eq,<-B.mem i]
    exact⟨fun z=>z.elim id fun e=>by rw[e];exact yes,.inl⟩
 | none=>
  have no:S k=false:=by
   cases hk:S k with
   | false=>rfl
   | true=>
    obtain⟨e,he,hp⟩:=(B.mem k).mp hk
    have:=List.findIdx?_eq_none_iff.mp fi e he
    rw[hp] at this
    cases this
  dsimp only
  have pm:=layNew_perm tb el ((intKind prog w).hash k) (.int k tk)
  have pf:=layNew_fits tb el ((intKind prog w).hash k) (.int k tk)
  have pg:=gt_lay B.gt el ((intKind prog w).hash k) (.int k tk)
  generalize layNew tb el ((intKind prog w).hash k) (.int k tk)=la at pm pf pg ⊢
  obtain⟨el1,tb1,wd,gv⟩:=la
  dsimp only at pm pf pg ⊢
  rw[Array.toList_push] at pm
  have z:el1.size=n+1:=by
   rw[<-Array.length_toList,pm.length_eq,zB,Array.length_toList,B.siz]
   rfl
  have B1:Brs prog w led (fun j=>S j || decide (j=k)) (n+1) el1 tb1:=⟨(B.elm.push kk rfl).perm pm,mem_push_iff kk B.mem pm,by rw[z];exact room,pf,z,pg⟩
  have fin:∀h',Heap.SameBut a s.heap h'->zF7 prog w led h' a (fun j=>S j || decide (j=k)) (n+1)->Q true { s with heap:=h' }:=fun h' hs hG=>by
   have r:=q h' hs
   rw[no] at r
   exact r hG
  have nt:∀(b:Bool)(s₁:Shared)(Q':Unit->Shared->Prop),Q' () s₁->wpAny (model prog w) A (match b with | true=>rule "set.scan.the-table-gave-way" | false=>pure ()) Q' E s₁:=fun b s₁ Q' u=>by
   cases b
   . exact zD u
   . exact wpAny_rule u
  refine zA (nt gv _ _ ?_)
  by_cases c:tb1.plain=true
  . rw[if_pos c]
    refine zA (wpAny_of_eq (m':=pure true) rfl (zD ?_))
    rw[if_pos rfl]
    exact zLc nt g1 g2 g3 B1 fun h' hs hG=>zD (fin h' hs hG)
  . rw[if_neg c]
    refine zA (zD ?_)
    rw[if_pos rfl]
    exact zLc nt g1 g2 g3 B1 fun h' hs hG=>zD (fin h' hs hG)
end
end STb
namespace STb
open PySem PySem.Spec PyProof.Rows L2
theorem zCU:Slot "set_iterator" "__next__" "set_iterator.__next__" := .of (owner := "set_iterator") (n := "__next__") (by rw[typeLookup_type,builtinLookup_eq_fast];kernel_rfl) (by decide +kernel) (by decide +kernel) (by decide +kernel) (by first | exact .inl (by decide +kernel) | exact .inr (by decide +kernel)) (by rw[isSubtype_type];kernel_rfl)
theorem zI8:Slot "set_iterator" "__iter__" "set_iterator.__iter__" := .of (owner := "set_iterator") (n := "__iter__") (by rw[typeLookup_type,builtinLookup_eq_fast];kernel_rfl) (by decide +kernel) (by decide +kernel) (by decide +kernel) (by first | exact .inl (by decide +kernel) | exact .inr (by decide +kernel)) (by rw[isSubtype_type];kernel_rfl)
theorem zCQ:entryFor table "set_iterator.__next__" = some Builtin.«set_iterator.__next__» := entryFor_of_tree (by kernel_rfl)
theorem zFe:entryFor table "set_iterator.__iter__" = some Builtin.«dict_keyiterator.__iter__» := entryFor_alias (id' := "dict_keyiterator.__iter__") (by kernel_rfl) (by first | rfl | decide +kernel) (by decide +kernel) (by kernel_rfl)
theorem zFA:entryFor table "set.__iter__" = some Builtin.«frozenset.__iter__» := entryFor_alias (id' := "frozenset.__iter__") (by kernel_rfl) (by first | rfl | decide +kernel) (by decide +kernel) (by kernel_rfl)
theorem zHY:Manifest.owners.lookup (String.ofList ['r','o','t','a','r','e','t','i','_','t','e','s'].reverse)=some Manifest.sig_set_iterator:=by kernel_rfl
theorem zCf (a:Value):argsOk "set_iterator.__next__" ⟨[a],[]⟩:=by
 unfold argsOk
 rw[signature?_of (id := "set_iterator.__next__") (n:=['_','_','t','x','e','n','_','_']) (o:=['r','o','t','a','r','e','t','i','_','t','e','s']) (by kernel_rfl) zHY]
 kernel_rfl
theorem zGJ (a:Value):argsOk "set_iterator.__iter__" ⟨[a],[]⟩:=by
 unfold argsOk
 rw[signature?_of (id := "set_iterator.__iter__") (n:=['_','_','r','e','t','i','_','_']) (o:=['r','o','t','a','r','e','t','i','_','t','e','s']) (by kernel_rfl) zHY]
 kernel_rfl
theorem zHK {α:Type}:∀{l:List α}{k:Nat}{x:α},l[k]? = some x->(x::l.eraseIdx k).Perm l
 | [],_,_,h=>by simp at h
 | _::_,0,_,h=>by simp at h;subst h;exact zCD _
 | y::r,k+1,x,h=>by
  show (x::y::r.eraseIdx k).Perm (y::r)
  exact (List.Perm.swap y x _).trans ((zHK (by simpa using h)).cons y)
theorem zJW {α:Type}(next:Nat->Nat):∀(fuel k:Nat)(left:List α)(out:Array α),left.length=fuel->(pickOrder.go next fuel k left out).toList.Perm (out.toList++left)
 | 0,k,left,out,h=>by
  have:left=[]:=zBF.mp h
  subst this
  unfold pickOrder.go
  rw[zr]
 | fuel+1,k,left,out,h=>by
  unfold pickOrder.go
  have hl:next k%left.length<left.length:=Nat.mod_lt _ (by omega)
  have e:left[next k%left.length]? = some left[next k%left.length]:=zF hl
  rw[e]
  dsimp only
  refine (zJW next fuel (k+1) _ _ (by rw[List.length_eraseIdx,if_pos hl];omega)).trans ?_
  rw[Array.toList_push,zAc]
  exact (zHK e).append_left _
theorem zGT {α:Type}(next:Nat->Nat)(xs:Array α):(pickOrder next xs).toList.Perm xs.toList:=by
 have:=zJW next xs.size 0 xs.toList #[] (by simp)
 simpa [pickOrder] using this
section
variable {prog:Program}{w:World}{A:Around}{E:Value->Shared->Prop}
theorem ch_wp {src:Source}{n:Nat}{s:Shared}{Q:Nat->Shared->Prop}(hn:n≠0)(h:∀i d',i<n->Q i { s with drawn:=d' }):wpAny (model prog w) A (choose src n) Q E s:=
 fun _ _ _=>⟨hn,h _ _ (Nat.mod_lt _ (Nat.pos_of_ne_zero hn))⟩
theorem zKI {α:Type}:∀(k:Nat)(xs:List α)(s:Shared)(Q:List α->Shared->Prop),xs.length=k->(∀ys d',ys.Perm xs->Q ys { s with drawn:=d' })->wpAny (model prog w) A (drawOrder k xs) Q E s
 | 0,xs,s,Q,h,q=>by
  have:xs=[]:=zBF.mp h
  subst this
  unfold drawOrder
  exact zD (q [] s.drawn (zCD _))
 | k+1,[],s,Q,h,q=>by cases h
 | k+1,x::r,s,Q,h,q=>by
  unfold drawOrder
  refine zA (ch_wp (by simp) fun i d' hi=>?_)
  have e:(x::r)[i]? = some (x::r)[i]:=zF hi
  rw[e]
  dsimp only
  refine zA (zKI k _ _ _ (by rw[List.length_eraseIdx,if_pos hi];omega) fun ys d2 hp=>zD ?_)
  exact q _ d2 ((hp.cons _).trans (zHK e))
end
noncomputable def zE7 (h:Heap)(a:Addr)(el:Array (Int×Value))(ep:Nat)(tb:SetTable):Prop:=∃ob,h.get? a=some ob/\ob.ExactSet/\ob.data = .set el ep tb
theorem zE7.keep {h h':Heap}{a:Addr}{el:Array (Int×Value)}{ep:Nat}{tb:SetTable}(x:zE7 h a el ep tb)(k:∀o,h.get? a=some o->h'.get? a=some o):zE7 h' a el ep tb:=let ⟨ob,g,r⟩:=x;⟨ob,k _ g,r⟩
theorem zE7.typeIs {s:Shared}{a:Addr}{el:Array (Int×Value)}{ep:Nat}{tb:SetTable}(x:zE7 s.heap a el ep tb):s.TypeIs (.ref a) "set" := let ⟨ob,g,c,_⟩:=x;⟨ob,g,c.1⟩
theorem zE7.lt {h:Heap}{a:Addr}{el:Array (Int×Value)}{ep:Nat}{tb:SetTable}(x:zE7 h a el ep tb):a<h.objs.size:=let ⟨_,g,_⟩:=x;zW g
noncomputable def SI (h:Heap)(I:Addr)(f:Value)(i n ep:Nat)(a:Addr):Prop:=∃o,h.get? I=some o/\o.cls = .type "set_iterator" /\ o.data = .fields #[f,.int i 0,.ref a,.int n 0,.int ep 0]
theorem SI.typeIs {s:Shared}{I:Addr}{f:Value}{i n ep:Nat}{a:Addr}(x:SI s.heap I f i n ep a):s.TypeIs (.ref I) "set_iterator" := let ⟨o,h,c,_⟩:=x;⟨o,h,c⟩
theorem SI.keep {h h':Heap}{I:Addr}{f:Value}{i n ep:Nat}{a:Addr}(x:SI h I f i n ep a)(k:∀o,h.get? I=some o->h'.get? I=some o):SI h' I f i n ep a:=let ⟨o,g,r⟩:=x;⟨o,k _ g,r⟩
section
variable {prog:Program}{w:World}{A:Around}{E:Value->Shared->Prop}{s:Shared}{a I:Addr}{el:Array (Int×Value)}{ep:Nat}{tb:SetTable}
noncomputable def zED (f:Value)(n ep:Nat)(a:Addr):Obj:={ cls:=.type "set_iterator",data:=.fields #[f,.int 0 0,.ref a,.int n 0,.int ep 0] }
theorem zMm {Q:Value->Shared->Prop}(hm:zE7 s.heap a el ep tb)(hf:tb.fits el.size=true)
 (qa:(w.params.followText "set-order" = true\/tb.plain=true\/el.size<=1)->Q (.ref s.heap.objs.size) { s with heap:=s.heap.push (zED (.int 0 0) el.size ep a) })
 (qb:∀(ys:List Nat)(d':Drawn),ys.Perm (List.range el.size)->Q (.ref (s.heap.push { cls:=.type "tuple",data:=.seq (ys.map fun (i:Nat)=>rawInt i).toArray }).objs.size) { s with heap:=(s.heap.push { cls:=.type "tuple",data:=.seq (ys.map fun (i:Nat)=>rawInt i).toArray }).push (zED (.ref s.heap.objs.size) el.size ep a),drawn:=d' }) (hz:el.size<=100000) :
 wpAny (model prog w) A (pyIter (.ref a)) Q E s:=by
 obtain⟨ob,g1,g2,g3⟩:=id hm
 refine wpAny_pyIter_slot hm.typeIs F.slot_set_iter (zAO F.slot_set_iter hm.typeIs zFA ?_ (F.args_set_iter_1 _))
 unfold Builtin.«frozenset.__iter__»
 refine zA ?_
 refine zA (zD (zD ?_))
 refine zA ?_
 unfold Builtin.Frozenset.sizeOf
 refine zA (wpAny_setEntries_of g1 g3 hf (zD ?_))
 unfold setDrawn setsByText
 refine zA (zA (zBK g1 g3 hf (zA (zA (wpAny_askSetting (zD (zD ?_)))))))
 show wpAny _ _ (if (!w.params.followText "set-order" && (!tb.plain && decide (el.size > 1)))=true then _ else _) _ _ s
 by_cases c:(!w.params.followText "set-order" && (!tb.plain && decide (el.size > 1)))=true
 . rw[if_pos c]
   refine zA (zKI _ _ _ _ (by rw[zAQ]) fun ys d' hp=>zA ?_)
   unfold newTuple
   refine zw ?_ ?_
   . unfold setEpoch
     refine zA (zA (zBK (zI _ g1) g3 hf (zD ?_)))
     refine zA (zw (zD ⟨_,rfl, "set_iterator",_,⟨_,zO _ rfl,rfl⟩,zCU.lookup,?_⟩))
     exact qb ys d' hp
   . show (List.toArray _).size<=sizeLine
     rw[zP,zE,hp.length_eq,zAQ]
     have:sizeLine=16777216:=rfl
     omega
 . rw[if_neg c]
   refine zA (zD ?_)
   unfold setEpoch
   refine zA (zA (zBK g1 g3 hf (zD ?_)))
   refine zA (zw (zD ⟨_,rfl, "set_iterator",_,⟨_,zO _ rfl,rfl⟩,zCU.lookup,?_⟩))
   refine qa ?_
   by_cases c1:w.params.followText "set-order" = true
   . exact .inl c1
   . right
     by_cases c2:tb.plain=true
     . exact .inl c2
     . right
       by_cases c3:el.size<=1
       . exact c3
       . exact absurd (by simp[c1,c2];omega) c
theorem zI6 {slot given:Nat}{Q:Option (Value×Nat)->Shared->Prop}(hm:zE7 s.heap a el ep tb)(hf:tb.fits el.size=true)(ht:w.params.followText "set-order" = true)
 (q:Q (((pickOrder (w.params.setOrder a ep) el)[given]?).map fun e=>(e.2,slot)) s):wpAny (model prog w) A (setNext a slot given ep) Q E s:=by
 obtain⟨ob,g1,g2,g3⟩:=id hm
 unfold setNext setsByText
 refine zA (zBK g1 g3 hf (zA (zA (wpAny_askSetting (zD ?_)))))
 show wpAny _ _ (if w.params.followText "set-order" = true then _ else _) _ _ s
 rw[if_pos ht]
 show wpAny _ _ (if (ep != ep)=true then _ else _) _ _ s
 rw[if_neg (by simp)]
 unfold setWalk setsByText
 refine zA (zA (zBK g1 g3 hf (zA (zA (wpAny_askSetting (zD ?_))))))
 show wpAny _ _ (if w.params.followText "set-order" = true then _ else _) _ _ s
 rw[if_pos ht]
 refine zA (wpAny_askSetting (zD (zD q)))
theorem zHX {slot given i:Nat}{Q:Option (Value×Nat)->Shared->Prop}(hm:zE7 s.heap a el ep tb)(hf:tb.fits el.size=true)(ht:w.params.followText "set-order" = false) (hp:tb.plain=true\/el.size<=1)(hl:tb.led=true)(hi:SetTable.below tb.place slot=i)
 (q:Q (match el[i]?,tb.place[i]? with | some (_,x),some j=>some (x,j+1) | _,_=>none) s):wpAny (model prog w) A (setNext a slot given ep) Q E s:=by
 obtain⟨ob,g1,g2,g3⟩:=id hm
 unfold setNext setsByText
 refine zA (zBK g1 g3 hf (zA (zA (wpAny_askSetting (zD ?_)))))
 show wpAny _ _ (if w.params.followText "set-order" = true then _ else _) _ _ s
 rw[if_neg (by rw[ht];simp)]
 show wpAny _ _ (if (!tb.plain && decide (el.size > 1))=true then _ else _) _ _ s
 rw[if_neg (by rcases hp with z | z <;> simp[z])]
 show wpAny _ _ ((if (!tb.led && !el.isEmpty)=true then _ else _) >>= _) _ _ s
 rw[if_neg (by rw[hl];simp)]
 refine zA (zD ?_)
 dsimp only
 rw[hi]
 exact zD q
noncomputable def zKX (prog:Program)(w:World)(a:Addr)(slot i ep:Nat)(r:Option (Value×Nat))(s:Shared):Prop:=∀(A:Around)(E:Value->Shared->Prop)(Q:Option (Value×Nat)->Shared->Prop),Q r s->wpAny (model prog w) A (setNext a slot i ep) Q E s
theorem si_upd {h:Heap}{f f':Value}{i n:Nat}{o:Obj}(ho:h.get? I=some o)(hc:o.cls = .type "set_iterator") (hd:o.data = .fields #[f,.int i 0,.ref a,.int n 0,.int ep 0]) :
 SI ((h.update I (Obj.mapFields (·.setIfInBounds 0 f'))).update I (Obj.mapFields (·.setIfInBounds 1 (rawInt ((i:Int)+1))))) I f' (i+1) n ep a:=by
 have e1:(h.update I (Obj.mapFields (·.setIfInBounds 0 f'))).get? I=some (Obj.mapFields (·.setIfInBounds 0 f') o):=zv _ ho (Obj.isFreed_of_fields (Obj.data_mapFields hd _))
 have d1:=Obj.data_mapFields hd (·.setIfInBounds 0 f')
 refine⟨_,zv _ e1 (Obj.isFreed_of_fields (Obj.data_mapFields d1 _)),(Obj.cls_mapFields ..).trans ((Obj.cls_mapFields ..).trans hc),?_⟩
 rw[Obj.data_mapFields d1]
 simp[rawInt]
theorem si_up1 {h:Heap}{f:Value}{i n:Nat}{o:Obj}(ho:h.get? I=some o)(hc:o.cls = .type "set_iterator") (hd:o.data = .fields #[f,.int i 0,.ref a,.int n 0,.int ep 0]) :
 SI (h.update I (Obj.mapFields (·.setIfInBounds 1 (rawInt ((i:Int)+1))))) I f (i+1) n ep a:=by
 refine⟨_,zv _ ho (Obj.isFreed_of_fields (Obj.data_mapFields hd _)),(Obj.cls_mapFields ..).trans hc,?_⟩
 rw[Obj.data_mapFields hd]
 simp[rawInt]
theorem zLr {slot i nx:Nat}{x:Value}{Q:Option Value->Shared->Prop}(hit:SI s.heap I (.int slot 0) i el.size ep a)(hm:zE7 s.heap a el ep tb)(hf:tb.fits el.size=true)(hs:zKX prog w a slot i ep (some (x,nx)) s)
 (hQ:∀h',SI h' I (.int nx 0) (i+1) el.size ep a->Heap.SameBut I s.heap h'->Q (some x) { s with heap:=h' }):wpAny (model prog w) A (pyNext (.ref I)) Q E s:=by
 obtain⟨o,ho,hc,hd⟩:=id hit
 obtain⟨ob,g1,g2,g3⟩:=id hm
 unfold pyNext
 refine zA (wpAny_attempt (zAh (name:=Str.ofString "__next__") hit.typeIs zCU (zAO zCU hit.typeIs zCQ ?_ (zCf _))))
 unfold Builtin.«set_iterator.__next__»
 refine zA (zD ?_)
 refine zA (wpAny_fieldsOf ho hd ?_)
 refine zA (wpAny_setEntries_of g1 g3 hf ?_)
 rw[if_neg (by simp)]
 dsimp only
 rw[zAT,zAT,zAT]
 refine zA (hs _ _ _ ?_)
 dsimp only
 refine zA (zB6 ho hd (by simp) ?_)
 have e1:(s.heap.update I (Obj.mapFields (·.setIfInBounds 0 (rawInt (nx:Int))))).get? I=some (Obj.mapFields (·.setIfInBounds 0 (rawInt (nx:Int))) o):=zv _ ho (Obj.isFreed_of_fields (Obj.data_mapFields hd _))
 refine zA (zB6 e1 (Obj.data_mapFields hd _) (by simp) ?_)
 refine zD ⟨_,rfl,zD (hQ _ (si_upd ho hc hd) ((zAr ..).trans (zAr ..)))⟩
theorem zGG {h0:Heap}{Q:Option Value->Shared->Prop}(hh:A.handled=none)(hQ:∀h',(∀b o,h0.get? b=some o->h'.get? b=some o)->Q none { s with heap:=h' }){R:Fin->Shared->Prop} :
 wpAny (model prog w) A.in1 (newExc (.type "StopIteration") [] >>= fun e=>raiseNew (α:=Fin) e) R (fun e s'=>wpAny (model prog w) A (isInstance e (.type "StopIteration") >>= fun b=>if b=true then pure none else throw e) Q E s') { s with heap:=h0 }:=by
 refine zA ?_
 simp only[newExc,newTuple]
 refine zA (zw ?_ (by size_fits))
 refine zA (m:=firstArgMember _ _) (wpAny_of_eq (m':=pure Value.none) (by first | rfl | (simp only[firstArgMember];rfl)) (zD ?_))
 refine zw ?_ (by size_fits)
 simp only[raiseNew]
 refine zA (wpAny_handled ?_)
 rw[show A.in1.handled=none from hh]
 refine zA (zD (wpAny_throw ?_))
 refine zA (zBC (T := "StopIteration") (b:=true) ⟨_,zO _ rfl,rfl⟩ isSubtype_stop ?_)
 exact zD (hQ _ fun b o e=>zI _ (zI _ e))
theorem end_a {slot i:Nat}{Q:Option Value->Shared->Prop}(hh:A.handled=none)(hit:SI s.heap I (.int slot 0) i el.size ep a)(hm:zE7 s.heap a el ep tb)(hf:tb.fits el.size=true)(hs:zKX prog w a slot i ep none s)
 (hQ:∀h',(∀b o,b≠I->s.heap.get? b=some o->h'.get? b=some o)->Q none { s with heap:=h' }):wpAny (model prog w) A (pyNext (.ref I)) Q E s:=by
 obtain⟨o,ho,hc,hd⟩:=id hit
 obtain⟨ob,g1,g2,g3⟩:=id hm
 unfold pyNext
 refine zA (wpAny_attempt (zAh (name:=Str.ofString "__next__") hit.typeIs zCU (zAO zCU hit.typeIs zCQ ?_ (zCf _))))
 unfold Builtin.«set_iterator.__next__»
 refine zA (zD ?_)
 refine zA (wpAny_fieldsOf ho hd ?_)
 refine zA (wpAny_setEntries_of g1 g3 hf ?_)
 rw[if_neg (by simp)]
 dsimp only
 rw[zAT,zAT,zAT]
 refine zA (hs _ _ _ ?_)
 dsimp only
 refine zA (zB6 ho hd (by simp) ?_)
 refine zGG hh fun h' k=>hQ h' fun b o' nb e=>k b o' ((zAr s.heap I _).extBut b o' nb e)
end
end STb
namespace STb
open PySem PySem.Spec PyProof.Rows L2
section
variable {prog:Program}{w:World}{A:Around}{E:Value->Shared->Prop}{s:Shared}{a I tp:Addr}{el:Array (Int×Value)}{ep:Nat}{tb:SetTable}
noncomputable def zHR (h:Heap)(tp:Addr)(ys:List Nat):Prop:=∃o n,h.get? tp=some o/\o.data = .seq (ys.map fun (i:Nat)=>rawInt i).toArray n
theorem zHR.keep {h h':Heap}{tp:Addr}{ys:List Nat}(x:zHR h tp ys)(k:∀o,h.get? tp=some o->h'.get? tp=some o):zHR h' tp ys:=let ⟨o,n,e,d⟩:=x;⟨o,n,k _ e,d⟩
theorem next_b {i y:Nat}{ys:List Nat}{e:Int×Value}{Q:Option Value->Shared->Prop}(hit:SI s.heap I (.ref tp) i el.size ep a)(hm:zE7 s.heap a el ep tb)(hf:tb.fits el.size=true)(ht:zHR s.heap tp ys)(hy:ys[i]? = some y)(he:el[y]? = some e)
 (hQ:∀h',SI h' I (.ref tp) (i+1) el.size ep a->Heap.SameBut I s.heap h'->Q (some e.2) { s with heap:=h' }):wpAny (model prog w) A (pyNext (.ref I)) Q E s:=by
 obtain⟨o,ho,hc,hd⟩:=id hit
 obtain⟨ob,g1,g2,g3⟩:=id hm
 obtain⟨ot,n,t1,t2⟩:=ht
 unfold pyNext
 refine zA (wpAny_attempt (zAh (name:=Str.ofString "__next__") hit.typeIs zCU (zAO zCU hit.typeIs zCQ ?_ (zCf _))))
 unfold Builtin.«set_iterator.__next__»
 refine zA (zD ?_)
 refine zA (wpAny_fieldsOf ho hd ?_)
 refine zA (wpAny_setEntries_of g1 g3 hf ?_)
 rw[if_neg (by simp)]
 refine zA (wpAny_seqItems t1 t2 ?_)
 dsimp only
 have ey:(ys.map fun (i:Nat)=>rawInt i).toArray[(i:Int).toNat]? = some (.int (y:Int) 0):=by
  rw[zAT,zAe,zZ,hy]
  rfl
 rw[ey]
 dsimp only
 rw[zAT,zAT]
 unfold setNextDrawn
 refine zA (zA (zBK g1 g3 hf ?_))
 show wpAny _ _ (if (ep != ep)=true then _ else _) _ _ s
 rw[if_neg (by simp)]
 obtain⟨e1,e2⟩:=e
 show wpAny _ _ (match el[y]? with | some (_,x)=>_ | _=>_) _ _ s
 rw[he]
 refine zD ?_
 refine zA (zB6 ho hd (by simp) ?_)
 exact zD ⟨_,rfl,zD (hQ _ (si_up1 ho hc hd) (zAr ..))⟩
theorem end_b {i:Nat}{ys:List Nat}{Q:Option Value->Shared->Prop}(hh:A.handled=none)(hit:SI s.heap I (.ref tp) i el.size ep a)(hm:zE7 s.heap a el ep tb)(hf:tb.fits el.size=true)(ht:zHR s.heap tp ys)(hy:ys[i]? = none)
 (hQ:∀h',(∀b o,b≠I->s.heap.get? b=some o->h'.get? b=some o)->Q none { s with heap:=h' }):wpAny (model prog w) A (pyNext (.ref I)) Q E s:=by
 obtain⟨o,ho,hc,hd⟩:=id hit
 obtain⟨ob,g1,g2,g3⟩:=id hm
 obtain⟨ot,n,t1,t2⟩:=ht
 unfold pyNext
 refine zA (wpAny_attempt (zAh (name:=Str.ofString "__next__") hit.typeIs zCU (zAO zCU hit.typeIs zCQ ?_ (zCf _))))
 unfold Builtin.«set_iterator.__next__»
 refine zA (zD ?_)
 refine zA (wpAny_fieldsOf ho hd ?_)
 refine zA (wpAny_setEntries_of g1 g3 hf ?_)
 rw[if_neg (by simp)]
 refine zA (wpAny_seqItems t1 t2 ?_)
 dsimp only
 have ey:(ys.map fun (i:Nat)=>rawInt i).toArray[(i:Int).toNat]? = none:=by
  rw[zAT,zAe,zZ,hy]
  rfl
 rw[ey]
 dsimp only
 refine zA (zB6 ho hd (by simp) ?_)
 have e1:(s.heap.update I (Obj.mapFields (·.setIfInBounds 0 (rawInt 0)))).get? I=some (Obj.mapFields (·.setIfInBounds 0 (rawInt 0)) o):=zv _ ho (Obj.isFreed_of_fields (Obj.data_mapFields hd _))
 refine zA (zB6 e1 (Obj.data_mapFields hd _) (by simp) ?_)
 refine zGG hh fun h' k=>hQ h' fun b o' nb e=>k b o' ((zAr _ I _).extBut b o' nb ((zAr s.heap I _).extBut b o' nb e))
theorem zJF {f:Value}{i:Nat}{Q:Value->Shared->Prop}(hit:SI s.heap I f i el.size ep a)(h:Q (.ref I) s):wpAny (model prog w) A (pyIter (.ref I)) Q E s:=by
 refine wpAny_pyIter_slot hit.typeIs zI8 (zAO zI8 hit.typeIs zFe ?_ (zGJ _))
 show wpAny _ _ (ret (.ref I)) _ _ s
 exact zD ⟨_,rfl, "set_iterator",_,hit.typeIs,zCU.lookup,h⟩
noncomputable def zIW (w:World)(a:Addr)(ep:Nat)(el:Array (Int×Value)):List (Int×Value):=if w.params.followText "set-order" = true then (pickOrder (w.params.setOrder a ep) el).toList else el.toList
theorem zEc:(zIW w a ep el).Perm el.toList:=by
 unfold zIW
 split
 . exact zGT _ _
 . exact zCD _
theorem zJM {xs:Array Nat}(h:xs.size<=1):Ris xs:=by
 unfold Ris
 have hl:xs.toList.length<=1:=by simpa using h
 generalize xs.toList=l at hl
 cases l with
 | nil=>exact List.Pairwise.nil
 | cons x r=>cases r with
  | nil=>exact List.pairwise_singleton _ _
  | cons y r=>simp at hl
theorem walk_a (hh:A.handled=none)(hIa:a≠I)(hf:tb.fits el.size=true)(hc:w.params.followText "set-order" = true\/tb.plain=true\/el.size<=1) (gt:GT (!w.params.followText "set-order") tb) :
 Walks prog w A I [I,a] [I] el.size (fun i v=>∃e,(zIW w a ep el)[i]? = some e/\v=e.2) (fun i h=>∃slot:Nat,SI h I (.int slot 0) i el.size ep a/\zE7 h a el ep tb/\(w.params.followText "set-order" = false->SetTable.below tb.place slot=i)) where
 sub:=fun b hb=>by simp at hb;simp[hb]
 frame:=fun _ _ _ ⟨slot,h1,h2,h3⟩ hk=>⟨slot,h1.keep fun o e=>hk I (by simp) o e,h2.keep fun o e=>hk a (by simp) o e,h3⟩
 item:=fun i s Q E hi ⟨slot,h1,h2,h3⟩ hQ=>by
  have lo:i<(zIW w a ep el).length:=by rw[zEc.length_eq];simpa using hi
  cases ht:w.params.followText "set-order" with
  | true=>
   have ei:(pickOrder (w.params.setOrder a ep) el)[i]? = some (zIW w a ep el)[i]:=by
    rw[<-Array.getElem?_toList]
    have:(pickOrder (w.params.setOrder a ep) el).toList=zIW w a ep el:=by unfold zIW;rw[if_pos ht]
    rw[this]
    exact zF lo
   refine zLr (x:=(zIW w a ep el)[i].2) (nx:=slot) h1 h2 hf (fun A' E' Q' q=>zI6 h2 hf ht (by rw[ei];exact q)) fun h' st sb=>?_
   exact hQ _ h' s.toks ⟨_,zF lo,rfl⟩ ⟨slot,st,h2.keep fun o e=>sb.extBut a o hIa e,fun z=>by rw[ht] at z;cases z⟩ fun b o hb e=>sb.extBut b o (fun z=>hb (by simp[z])) e
  | false=>
   have hp:tb.plain=true\/el.size<=1:=hc.resolve_left (by rw[ht];simp)
   have ps:tb.place.size=el.size:=by
    simp only[SetTable.fits,zAC,beq_iff_eq] at hf
    exact hf.1
   have rs:Ris tb.place:=hp.elim gt.rs fun z=>zJM (by omega)
   have eo:zIW w a ep el=el.toList:=by unfold zIW;rw[if_neg (by rw[ht];simp)]
   have e1:el[i]? = some el[i]:=Array.getElem?_eq_getElem hi
   have e2:tb.place[i]? = some (tb.place[i]'(by omega)):=Array.getElem?_eq_getElem (by omega)
   refine zLr (x:=el[i].2) (nx:=tb.place[i]'(by omega)+1) h1 h2 hf (fun A' E' Q' q=>zHX (i:=i) h2 hf ht hp (by rw[gt.ld,ht];rfl) (h3 ht) (by rw[e1,e2];exact q)) fun h' st sb=>?_
   exact hQ _ h' s.toks ⟨el[i],by rw[eo,Array.getElem?_toList];exact e1,rfl⟩ ⟨_,st,h2.keep fun o e=>sb.extBut a o hIa e,fun _=>zIp rs e2⟩ fun b o hb e=>sb.extBut b o (fun z=>hb (by simp[z])) e
 done:=fun s Q E ⟨slot,h1,h2,h3⟩ hQ=>by
  cases ht:w.params.followText "set-order" with
  | true=>
   have ei:(pickOrder (w.params.setOrder a ep) el)[el.size]? = none:=by
    rw[<-Array.getElem?_toList]
    exact zAB (by rw[(zGT _ _).length_eq];simp)
   exact end_a hh h1 h2 hf (fun A' E' Q' q=>zI6 h2 hf ht (by rw[ei];exact q)) fun h' k=>hQ h' s.toks fun b o hb e=>k b o (fun z=>hb (by simp[z])) e
  | false=>
   have hp:tb.plain=true\/el.size<=1:=hc.resolve_left (by rw[ht];simp)
   exact end_a hh h1 h2 hf (fun A' E' Q' q=>zHX (i:=el.size) h2 hf ht hp (by rw[gt.ld,ht];rfl) (h3 ht) (by rw[Array.getElem?_eq_none (zH _)];exact q)) fun h' k=>hQ h' s.toks fun b o hb e=>k b o (fun z=>hb (by simp[z])) e
 self:=fun i s Q E ⟨slot,h1,_⟩ h=>zJF h1 h
theorem walk_b {ys:List Nat}(hh:A.handled=none)(hIa:a≠I)(hIt:tp≠I)(hf:tb.fits el.size=true)(hp:ys.Perm (List.range el.size)) :
 Walks prog w A I [I,a,tp] [I] el.size (fun i v=>∃y e,ys[i]? = some y/\el[y]? = some e/\v=e.2) (fun i h=>SI h I (.ref tp) i el.size ep a/\zE7 h a el ep tb/\zHR h tp ys) where
 sub:=fun b hb=>by simp at hb;simp[hb]
 frame:=fun _ _ _ ⟨h1,h2,h3⟩ hk=>⟨h1.keep fun o e=>hk I (by simp) o e,h2.keep fun o e=>hk a (by simp) o e,h3.keep fun o e=>hk tp (by simp) o e⟩
 item:=fun i s Q E hi ⟨h1,h2,h3⟩ hQ=>by
  have hl:ys.length=el.size:=by rw[hp.length_eq,zAQ]
  have e1:ys[i]? = some ys[i]:=zF (by omega)
  have hy:ys[i]<el.size:=zBm.mp (hp.mem_iff.mp (zAS _))
  have e2:el[ys[i]]? = some el[ys[i]]:=Array.getElem?_eq_getElem hy
  refine next_b h1 h2 hf h3 e1 e2 fun h' st sb=>?_
  exact hQ _ h' s.toks ⟨_,_,e1,e2,rfl⟩ ⟨st,h2.keep fun o e=>sb.extBut a o hIa e,h3.keep fun o e=>sb.extBut tp o hIt e⟩ fun b o hb e=>sb.extBut b o (fun z=>hb (by simp[z])) e
 done:=fun s Q E ⟨h1,h2,h3⟩ hQ=>by
  have hl:ys.length=el.size:=by rw[hp.length_eq,zAQ]
  exact end_b hh h1 h2 hf h3 (zAB (by omega)) fun h' k=>hQ h' s.toks fun b o hb e=>k b o (fun z=>hb (by simp[z])) e
 self:=fun i s Q E ⟨h1,_⟩ h=>zJF h1 h
end
end STb
namespace STb
open PySem PySem.Spec PyProof.Rows PySem.Calls L2
section
variable {prog:Program}{w:World}{A:Around}{E:Value->Shared->Prop}{s:Shared}{a:Addr}{el:Array (Int×Value)}{ep:Nat}{tb:SetTable}
theorem zHw {Q:Bool->Shared->Prop}(hT:s.TypeIs (.ref a) "set") (h:Q false s):wpAny (model prog w) A (Builtin.List.listLengthHint (.ref a)) Q E s:=by
 unfold Builtin.List.listLengthHint
 refine zA (wpAny_specialOf hT PySem.F.slot_set_len.lookup ?_)
 generalize hid:("set.__len__" : String)=id0
 wp_delta
 rw[show splitId id0=some ("set", "__len__") from by subst hid;decide +kernel]
 subst hid
 refine zA (zBC (T := "set") (b:=true) hT sub_set_self ?_)
 refine wpAny_ite_split (fun hab=>absurd hab (by decide)) (fun _=>?_)
 refine wpAny_ite_split (fun _=>zA (zBH hT (zD h))) (fun hab=>absurd (by decide +kernel) hab)
theorem zHz {I S:Addr}{fp:List Addr}{n:Nat}{P:Nat->Value->Prop}{St:Nat->Heap->Prop}{res:Value}{c:Nat}{R:Result->Shared->Prop}{s0:Shared}(W:Walks prog w A.in1 I fp [I] n P St)(hSf:S∉fp)(hn:n<=sizeLine)(hI:s0.heap.objs.size<=I)
 (k0:∀b o,b≠S->s0.heap.get? b=some o->s.heap.get? b=some o)(st:St 0 s.heap)(hS:s.heap.get? S=some { cls:=.type "list",data:=.seq #[] c })
 (q:∀(s':Shared)(acc:Array Value)(c':Nat),s'.gens=s.gens->s'.drawn=s.drawn->s'.os=s.os->(∀b o,b≠S->s0.heap.get? b=some o->s'.heap.get? b=some o)->s'.heap.get? S=some { cls:=.type "list",dict:=none,data:=.seq acc c',slots:=#[] }->ItemsOf P acc n->R (.ok (.ret res)) s') :
 codeAny (model prog w) A (.builtin "list.extend.loop" ⟨[.ref S,.ref I,res],[]⟩) R s:=by
 refine codeAny_extend_loopS W.toS hn S hSf res n 0 s #[] c rfl (zb _) st hS (ItemsOf.nil _) fun s' acc c' mv hS' ha=>?_
 refine q s' acc c' mv.gens mv.drawn mv.os (fun b o hb e=>mv.heap b o (fun z=>?_) (k0 b o hb e)) hS' ha
 rcases zR.mp z with z | z
 . exact hb z
 . have hlt:=zW e
   rw[zk.mp z] at hlt
   exact absurd (zp hlt hI) (zBf _)
noncomputable def Gath (el:Array (Int×Value))(acc:Array Value):Prop:=∃l:List (Int×Value),l.Perm el.toList/\acc.toList=l.map (·.2)
theorem zLy {acc:Array Value}(h:ItemsOf (fun i v=>∃e,(zIW w a ep el)[i]? = some e/\v=e.2) acc el.size):Gath el acc:=by
 refine⟨zIW w a ep el,zEc,?_⟩
 have hl:(zIW w a ep el).length=el.size:=by rw[zEc.length_eq];simp
 apply List.ext_getElem?
 intro j
 by_cases hj:j<el.size
 . have hz:j<acc.size:=by rw[h.1];exact hj
   obtain⟨e,he,hv⟩:=h.2 j acc[j] (by simp[hz])
   rw[Array.getElem?_toList,Array.getElem?_eq_getElem hz,hv,zZ,he]
   rfl
 . rw[zAB (by rw[Array.length_toList,h.1];omega),zAB (by rw[zE];omega)]
theorem zIT {α:Type}{l:List α}{ys:List Nat}(h:ys.Perm (List.range l.length)):(ys.filterMap fun i=>l[i]?).Perm l:=by
 refine (h.filterMap _).trans ?_
 rw[List.filterMap_getElem?_range_length]
theorem zLx {ys:List Nat}{acc:Array Value}(hp:ys.Perm (List.range el.size))(h:ItemsOf (fun i v=>∃y e,ys[i]? = some y/\el[y]? = some e/\v=e.2) acc el.size):Gath el acc:=by
 have hl:ys.length=el.size:=by rw[hp.length_eq,zAQ]
 refine⟨ys.map fun y=>el.toList.getD y (0,.none),?_,?_⟩
 . have e:(ys.map fun y=>el.toList.getD y (0,.none))=ys.filterMap fun i=>el.toList[i]?:=by
    rw[<-List.filterMap_eq_map]
    refine fm_eq fun y hy=>?_
    have hy':y<el.toList.length:=by have:=zBm.mp (hp.mem_iff.mp hy);simpa using this
    simp only[Function.comp]
    rw[zU,zF hy']
    rfl
   rw[e]
   exact zIT (by simpa using hp)
 . apply List.ext_getElem?
   intro j
   by_cases hj:j<el.size
   . have hz:j<acc.size:=by rw[h.1];exact hj
     obtain⟨y,e,h1,h2,hv⟩:=h.2 j acc[j] (by simp[hz])
     rw[Array.getElem?_toList,Array.getElem?_eq_getElem hz,hv,zZ,zZ,h1]
     show some e.2=some (el.toList.getD y (0,.none)).2
     rw[zU,Array.getElem?_toList,h2]
     rfl
   . rw[zAB (by rw[Array.length_toList,h.1];omega),zAB (by rw[zE,zE];omega)]
where
 fm_eq {α β:Type}{f g:α->Option β}:∀{l:List α},(∀m∈l,f m=g m)->l.filterMap f=l.filterMap g
  | [],_=>rfl
  | x::r,h=>by
   rw[zA9,zA9,h x zT,fm_eq fun m hm=>h m (zN _ hm)]
theorem zIN {S:Addr}{res:Value}{c:Nat}{R:Result->Shared->Prop}(hh:A.handled=none)(hm:zE7 s.heap a el ep tb)(hf:tb.fits el.size=true)(gt:GT (!w.params.followText "set-order") tb) (hz:el.size<=100000)(hSa:S≠a)
 (hS:s.heap.get? S=some { cls:=.type "list",data:=.seq #[] c })
 (q:∀(s':Shared)(acc:Array Value)(c':Nat),s'.gens=s.gens->s'.os=s.os->(∀b o,b≠S->s.heap.get? b=some o->s'.heap.get? b=some o)->s'.heap.get? S=some { cls:=.type "list",dict:=none,data:=.seq acc c',slots:=#[] }->Gath el acc->R (.ok (.ret res)) s') :
 wpAny (model prog w) A.in1 (Builtin.List.listExtendWith (.ref S) (.ref a) res)
  (fun fin s'=>match fin with | .done f=>R (.ok f) s' | .again c'=>c'.quiet=true/\codeAny (model prog w) A c' R s') (fun e s'=>R (.error e) s') s:=by
 have nS:el.size<=sizeLine:=by have:sizeLine=16777216:=rfl;omega
 unfold Builtin.List.listExtendWith
 refine zA (zBH (T := "set") hm.typeIs ?_)
 have h1:Builtin.List.listSameRef (.ref S) (.ref a)=false:=by simp[Builtin.List.listSameRef,hSa]
 have h2:(Value.type "set" == Value.type "list")=false:=by decide
 have h3:(Value.type "set" == Value.type "tuple")=false:=by decide
 simp only[h1,h2,h3,Bool.or_false,zBi,if_false]
 have nSI:∀I,s.heap.objs.size<=I->S≠I:=fun I h z=>absurd (zp (zW hS) h) (by rw[z];exact zBf _)
 have naI:∀I,s.heap.objs.size<=I->a≠I:=fun I h z=>absurd (zp hm.lt h) (by rw[z];exact zBf _)
 refine zA (zMm hm hf (fun hc=>?_) (fun ys d' hp=>?_) hz)
 . have W:=walk_a (prog:=prog) (w:=w) (A:=A.in1) (I:=s.heap.objs.size) (ep:=ep) hh (naI _ (zH _)) hf hc gt
   have nf:S∉[s.heap.objs.size,a]:=by simp only[zR,zA6,or_false,not_or];exact⟨nSI _ (zH _),hSa⟩
   have kp:∀b o,s.heap.get? b=some o->(s.heap.push (zED (.int 0 0) el.size ep a)).get? b=some o:=fun b o e=>zI _ e
   have st0:∃slot:Nat,SI (s.heap.push (zED (.int 0 0) el.size ep a)) s.heap.objs.size (.int slot 0) 0 el.size ep a/\zE7 (s.heap.push (zED (.int 0 0) el.size ep a)) a el ep tb/\(w.params.followText "set-order" = false->SetTable.below tb.place slot=0):=by
    refine⟨0,⟨_,zO _ rfl,rfl,rfl⟩,hm.keep fun o e=>kp _ o e,fun ht=>zIo ?_⟩
    have ps:tb.place.size=el.size:=by
     simp only[SetTable.fits,zAC,beq_iff_eq] at hf
     exact hf.1
    exact (hc.resolve_left (by rw[ht];simp)).elim gt.rs fun z=>zJM (by omega)
   refine zA (zx (zHw (zE7.typeIs (hm.keep fun o e=>kp _ o e)) ?_))
   refine wpAny_ite_split (fun _=>?_) (fun _=>?_)
   . refine zA (wpAny_rule (zA ?_))
     show wpAny _ _ (updateSeq S (·.push .none) >>= fun _=>updateSeq S (·.pop)) _ _ _
     refine zA (zBs (kp _ _ hS) rfl ?_)
     have hS2:=zv (Obj.mapSeq (·.push Value.none)) (kp _ _ hS) rfl
     refine zBs (hz:=by seq_fits) hS2 rfl ?_
     have hS3:=zv (Obj.mapSeq (·.pop)) hS2 rfl
     have up:∀b o,b≠S->(s.heap.push (zED (.int 0 0) el.size ep a)).get? b=some o->(((s.heap.push (zED (.int 0 0) el.size ep a)).update S (Obj.mapSeq (·.push Value.none))).update S (Obj.mapSeq (·.pop))).get? b=some o:=fun b o hb e=>(zAn _ _ (Ne.symm hb)).trans ((zAn _ _ (Ne.symm hb)).trans e)
     refine zD ⟨plainId_quiet PySem.F.plain_extend_loop _,zHz W nf nS (zH _) (fun b o hb e=>up b o hb (kp b o e)) (W.frame 0 _ _ st0 fun b hb o e=>up b o (fun z=>nf (z ▸ hb)) e) hS3 fun s' acc c' e1 _ e3 k hS' ha=>q s' acc c' e1 e3 k hS' (zLy ha)⟩
   . exact zD ⟨plainId_quiet PySem.F.plain_extend_loop _,zHz W nf nS (zH _) (fun b o _ e=>kp b o e) st0 (kp _ _ hS) fun s' acc c' e1 _ e3 k hS' ha=>q s' acc c' e1 e3 k hS' (zLy ha)⟩
 . have hT:(s.heap.push { cls:=.type "tuple",data:=.seq (ys.map fun (i:Nat)=>rawInt i).toArray }).objs.size=s.heap.objs.size+1:=zA0 ..
   have hI:s.heap.objs.size<=(s.heap.push { cls:=.type "tuple",data:=.seq (ys.map fun (i:Nat)=>rawInt i).toArray }).objs.size:=by rw[hT];exact zBl _
   have ntI:s.heap.objs.size≠(s.heap.push { cls:=.type "tuple",data:=.seq (ys.map fun (i:Nat)=>rawInt i).toArray }).objs.size:=by rw[hT];exact zh (Nat.lt_succ_self _)
   have W:=walk_b (prog:=prog) (w:=w) (A:=A.in1) (I:=(s.heap.push { cls:=.type "tuple",data:=.seq (ys.map fun (i:Nat)=>rawInt i).toArray }).objs.size) (tp:=s.heap.objs.size) (tb:=tb) (ep:=ep) hh (naI _ hI) ntI hf hp
   have nf:S∉[(s.heap.push { cls:=.type "tuple",data:=.seq (ys.map fun (i:Nat)=>rawInt i).toArray }).objs.size,a,s.heap.objs.size]:=by
    simp only[zR,zA6,or_false,not_or]
    exact⟨nSI _ hI,hSa,nSI _ (zH _)⟩
   have kp:∀b o,s.heap.get? b=some o->((s.heap.push { cls:=.type "tuple",data:=.seq (ys.map fun (i:Nat)=>rawInt i).toArray }).push (zED (.ref s.heap.objs.size) el.size ep a)).get? b=some o:=fun b o e=>zI _ (zI _ e)
   have st0:SI ((s.heap.push { cls:=.type "tuple",data:=.seq (ys.map fun (i:Nat)=>rawInt i).toArray }).push (zED (.ref s.heap.objs.size) el.size ep a)) (s.heap.push { cls:=.type "tuple",data:=.seq (ys.map fun (i:Nat)=>rawInt i).toArray }).objs.size (.ref s.heap.objs.size) 0 el.size ep a/\zE7 ((s.heap.push { cls:=.type "tuple",data:=.seq (ys.map fun (i:Nat)=>rawInt i).toArray }).push (zED (.ref s.heap.objs.size) el.size ep a)) a el ep tb/\zHR ((s.heap.push { cls:=.type "tuple",data:=.seq (ys.map fun (i:Nat)=>rawInt i).toArray }).push (zED (.ref s.heap.objs.size) el.size ep a)) s.heap.objs.size ys:=
    ⟨⟨_,zO _ rfl,rfl,rfl⟩,hm.keep fun o e=>kp _ o e,⟨_,_,zI _ (zO _ rfl),rfl⟩⟩
   generalize (s.heap.push { cls:=.type "tuple",data:=.seq (ys.map fun (i:Nat)=>rawInt i).toArray }).objs.size=I0 at hT hI ntI W nf st0 kp ⊢
   generalize (s.heap.push { cls:=.type "tuple",data:=.seq (ys.map fun (i:Nat)=>rawInt i).toArray }).push (zED (.ref s.heap.objs.size) el.size ep a)=h0 at st0 kp ⊢
   refine zA (zx (zHw (zE7.typeIs (hm.keep fun o e=>kp _ o e)) ?_))
   refine wpAny_ite_split (fun _=>?_) (fun _=>?_)
   . refine zA (wpAny_rule (zA ?_))
     show wpAny _ _ (updateSeq S (·.push .none) >>= fun _=>updateSeq S (·.pop)) _ _ _
     refine zA (zBs (kp _ _ hS) rfl ?_)
     have hS2:=zv (Obj.mapSeq (·.push Value.none)) (kp _ _ hS) rfl
     refine zBs (hz:=by seq_fits) hS2 rfl ?_
     have hS3:=zv (Obj.mapSeq (·.pop)) hS2 rfl
     have up:∀b o,b≠S->h0.get? b=some o->((h0.update S (Obj.mapSeq (·.push Value.none))).update S (Obj.mapSeq (·.pop))).get? b=some o:=fun b o hb e=>(zAn _ _ (Ne.symm hb)).trans ((zAn _ _ (Ne.symm hb)).trans e)
     refine zD ⟨plainId_quiet PySem.F.plain_extend_loop _,zHz (s0:=s) W nf nS hI (fun b o hb e=>up b o hb (kp b o e)) (W.frame 0 _ _ st0 fun b hb o e=>up b o (fun z=>nf (z ▸ hb)) e) hS3 fun s' acc c' e1 _ e3 k hS' ha=>q s' acc c' e1 e3 k hS' (zLx hp ha)⟩
   . exact zD ⟨plainId_quiet PySem.F.plain_extend_loop _,zHz (s0:=s) W nf nS hI (fun b o _ e=>kp b o e) st0 (kp _ _ hS) fun s' acc c' e1 _ e3 k hS' ha=>q s' acc c' e1 e3 k hS' (zLx hp ha)⟩
theorem zGx {R:List Value->Shared->Prop}(hh:A.handled=none)(hm:zE7 s.heap a el ep tb)(hf:tb.fits el.size=true)(gt:GT (!w.params.followText "set-order") tb) (hz:el.size<=100000)
 (q:∀(s':Shared)(acc:Array Value),s'.gens=s.gens->s'.os=s.os->(∀b o,s.heap.get? b=some o->s'.heap.get? b=some o)->Gath el acc->R acc.toList s'):wpAny (model prog w) A (collect (.ref a)) R E s:=by
 unfold collect
 refine zA (wpAny_runValue (codeAny_builtin entry_proto_collect' ?_))
 rw[Around.under_plainId PySem.F.plain_proto_collect _]
 refine zA (m:=newList []) (zw ?_)
 refine zD ⟨plainId_quiet PySem.F.plain_list_iadd _,codeAny_builtin entry_list_iadd' ?_⟩
 rw[Around.under_plainId PySem.F.plain_list_iadd _]
 have hS:(s.heap.push { cls:=.type "list",data:=.seq ([]:List Value).toArray }).get? s.heap.objs.size=some { cls:=.type "list",data:=.seq #[] }:=zO _ rfl
 show wpAny _ A.in1 (Builtin.List.listExtendWith (.ref s.heap.objs.size) (.ref a) (.ref s.heap.objs.size)) _ _ _
 have key:=zIN (prog:=prog) (w:=w) (A:=A) (s:={ s with heap:=s.heap.push { cls:=.type "list",data:=.seq ([]:List Value).toArray } }) (res:=.ref s.heap.objs.size)
  (R:=fun (u:Result)(s':Shared)=>∃(acc:Array Value)(c':Nat),u = .ok (.ret (.ref s.heap.objs.size))/\s'.gens=s.gens/\s'.os=s.os/\(∀b o,s.heap.get? b=some o->s'.heap.get? b=some o)/\s'.heap.get? s.heap.objs.size=some { cls:=.type "list",dict:=none,data:=.seq acc c',slots:=#[] }/\Gath el acc)
  hh (hm.keep fun o e=>zI _ e) hf gt hz (Nat.ne_of_gt hm.lt) hS (fun s' acc c' e1 e2 k hS' g=>⟨acc,c',rfl,e1,e2,fun b o e=>k b o (zh (zW e)) (zI _ e),hS',g⟩)
 refine zAJ key (fun fin s' x=>?_) fun e s' x=>?_
 . cases fin with
   | done f=>
    obtain⟨acc,c',e,e1,e2,k,hS',g⟩:=x
    cases e
    exact zA (wpAny_load hS' (zD (q s' acc e1 e2 k g)))
   | again c1=>
    refine⟨x.1,codeAny_mono x.2 fun u s2 y=>?_⟩
    obtain⟨acc,c',rfl,e1,e2,k,hS',g⟩:=y
    exact zA (wpAny_load hS' (zD (q s2 acc e1 e2 k g)))
 . obtain⟨_,_,e',_⟩:=x
   cases e'
end
end STb
namespace STb
open PySem PySem.Spec PyProof.Rows L2
section
variable {prog:Program}{w:World}{A:Around}{E:Value->Shared->Prop}{s:Shared}
theorem zLt {I S:Addr}{fp:List Addr}{n:Nat}{P:Nat->Value->Prop}{St:Nat->Heap->Prop}{led:Bool}{R:Result->Shared->Prop}(W:Walks prog w A.in1 I fp [I] n P St)(hSf:S∉fp)(hSI:S≠I)(val:Nat->Int)(hv:∀i v,P i v->∃t,v = .int (val i) t)(hb:n+1<scanBound) :
 ∀(k i:Nat)(s:Shared),n-i=k->i<=n->St i s.heap->zF7 prog w led s.heap S (fun z=>(firstMet val i).any fun x=>x==z) (firstMet val i).length ->
  (∀s':Shared,s'.gens=s.gens->s'.drawn=s.drawn->s'.os=s.os->(∀b o,b≠S->b≠I->s.heap.get? b=some o->s'.heap.get? b=some o)->zF7 prog w led s'.heap S (fun z=>(firstMet val n).any fun x=>x==z) (firstMet val n).length->R (.ok (.ret .none)) s') ->
  codeAny (model prog w) A (.builtin "set.update.loop" ⟨[.ref S,.ref I],[]⟩) R s:=by
 intro k
 induction k with
 | zero=>
  intro i s hk hi st G q
  obtain rfl:i=n:=by omega
  refine codeAny_builtin PyProof.Rows.F.entry_set_update_loop ?_
  rw[Around.under_plainId PyProof.Rows.F.plain_set_update_loop _]
  refine zA (m:=pyNext (.ref I)) (W.done s _ _ st fun h' tk kp=>?_)
  refine zD (q _ rfl rfl rfl (fun b o _ hbI e=>kp b o (fun z=>hbI (by simpa using z)) e) (G.keep fun o e=>kp S o (fun z=>hSI (by simpa using z)) e))
 | succ k ih=>
  intro i s hk hi st G q
  have hlt:i<n:=by omega
  refine codeAny_builtin PyProof.Rows.F.entry_set_update_loop ?_
  rw[Around.under_plainId PyProof.Rows.F.plain_set_update_loop _]
  refine zA (m:=pyNext (.ref I)) (W.item i s _ _ hlt st fun v h' tk hP st' kp=>?_)
  obtain⟨t,rfl⟩:=hv i v hP
  have G':zF7 prog w led h' S (fun z=>(firstMet val i).any fun x=>x==z) (firstMet val i).length:=G.keep fun o e=>kp S o (fun z=>hSI (by simpa using z)) e
  refine zA (m:=holding [Value.int (val i) t] (setAdd S (.int (val i) t))) (zx ?_)
  unfold setAdd
  refine zx (zA ((intKind prog w).pyHash (k:=val i) (intKind_is _ _ _ _) ?_))
  refine add_g (s:={ s with heap:=h',toks:=tk+1 }) G' (by have:=firstMet_length_le val i;omega) fun h2 sb G2=>?_
  have Gi:zF7 prog w led h2 S (fun z=>(firstMet val (i+1)).any fun x=>x==z) (firstMet val (i+1)).length:=G2.congr (fun z=>by rw[firstMet_succ,step_any]) (by rw[firstMet_succ,step_length])
  refine zD ⟨plainId_quiet PyProof.Rows.F.plain_set_update_loop _,ih (i+1) _ (by omega) hlt (W.frame _ _ _ st' fun b hb o e=>(sb.2 b fun z=>hSf (z ▸ hb)).trans e) Gi fun s'' e1 e2 e3 kp2 G3=>?_⟩
  exact q s'' e1 e2 e3 (fun b o hbS hbI e=>kp2 b o hbS hbI ((sb.2 b hbS).trans (kp b o (fun z=>hbI (by simpa using z)) e))) G3
noncomputable def zCE (w:World):Obj:={ cls:=.type "set",dict:=none,data:=.set #[] 0 (.fresh 0 0 (!w.params.followText "set-order")) }
theorem zGK (h:Heap):zF7 prog w (!w.params.followText "set-order") (h.push (zCE w)) h.objs.size (fun _=>false) 0:=
 ⟨_,#[],0,_,zO _ rfl,⟨rfl,rfl,rfl⟩,rfl,⟨fun e he=>by simp at he,fun k=>by simp,by decide,by rfl,rfl,zLK _⟩⟩
theorem new_g (a:Value){Q₁:Value->Shared->Prop}(h:Q₁ (.ref s.heap.objs.size) { s with heap:=s.heap.push (zCE w) }):codeAny (model prog w) A (.call (.builtin "set.__new__") ⟨[.type "set",a],[]⟩) (wants Q₁ E) s:=by
 refine codeAny_of_tree (zA (m:=checkBuiltinCall "set.__new__" ⟨[.type "set",a],[]⟩) (wpAny_of_eq (PySem.F.newCall_set_1 a) (zD ⟨plainId_quiet PySem.F.plain_set_new _,codeAny_builtin PySem.F.entry_set_new ?_⟩)))
 rw[Around.under_plainId PySem.F.plain_set_new _]
 unfold Builtin.«set.__new__» Builtin.Frozenset.newClass
 have sub:=sub_set_self
 obtain⟨hp,g,d,tk,os⟩:=s
 dsimp only
 wp_walk
 refine wpAny_askSetting (zD ?_)
 dsimp only
 simp only[newObj]
 exact zA (wpAny_alloc (zD (zD h)))
theorem zMi {l:Addr}{its:List Value}{ns:List Int}{Q:Value->Shared->Prop}(hA:A.handled=none)(hl:s.heap.IsList l its.toArray)(hi:IntsAre its ns)(hz:its.length+1<scanBound)
 (q:∀(h:Heap)(tk:Nat),(∀b o,s.heap.get? b=some o->h.get? b=some o)->zF7 prog w (!w.params.followText "set-order") h s.heap.objs.size (fun z=>(firstMet (fun i=>ns.getD i 0) its.length).any fun x=>x==z) (firstMet (fun i=>ns.getD i 0) its.length).length->Q (.ref s.heap.objs.size) { s with heap:=h,toks:=tk }) :
 wpAny (model prog w) A (call (.type "set") [.ref l]) Q E s:=by
 refine zB7 (codeAny_of_tree (zD ⟨Code.quiet_builtin _ (by decide +kernel),codeAny_builtin PySem.F.entry_type_call ?_⟩))
 unfold Builtin.«type.__call__»
 dsimp only
 rw[if_neg (by rw[PySem.F.called_set.notType];decide)]
 rw[if_neg (by rw[PySem.F.called_set.canCreate];decide)]
 obtain⟨c,tl,hm⟩:=PySem.F.called_set.mro
 refine zA (wpAny_of_eq (PySem.F.typeCall_set_1 _) (zD (zA (wpAny_of_eq hm (zD ?_)))))
 refine zA (wpAny_of_eq PySem.F.called_set.made (zD (zA (zD ?_))))
 refine zA (zx (zB7 (codeAny_mono (new_g (E:=E) (.ref l) (Q₁:=fun obj s₁=>obj = .ref s.heap.objs.size/\s₁={ s with heap:=s.heap.push (zCE w) }) ⟨rfl,rfl⟩) fun r s₁ e=>?_)))
 match r,e with
 | .ok (.ret obj),e=>
  obtain⟨rfl,rfl⟩:=e
  have h0:∀b o,s.heap.get? b=some o->(s.heap.push (zCE w)).get? b=some o:=fun b o e=>zI _ e
  have ht:∀h:Heap,(∀b o,s.heap.get? b=some o->h.get? b=some o)->h.IsList l its.toArray:=fun h K=>by
   obtain⟨o,ho,hr⟩:=hl
   exact⟨o,K _ _ ho,hr⟩
  have hlt:l<s.heap.objs.size:=by
   obtain⟨o,ho,_⟩:=hl
   exact zW ho
  have tyS:Shared.TypeIs { s with heap:=s.heap.push (zCE w) } (.ref s.heap.objs.size) "set" := ⟨_,zO _ rfl,rfl⟩
  show wpAny _ _ _ _ _ _
  refine zA (zBC tyS PySem.F.called_set.sub ?_)
  refine zA (zx ?_)
  unfold callSpecial?
  refine zA (wpAny_specialOf tyS PySem.F.called_set.init.lookup (zx (zA (wpAny_of_eq (PySem.F.called_set.init.bind _) (zD (zA (zB7 (codeAny_call_builtin PySem.F.called_set.init.plain PySem.F.entry_set_init (check_set_init_1 tyS ?_)))))))))
  unfold Builtin.«set.__init__»
  refine zA (wpAny_of_eq (m':=pure ()) rfl (zD ?_))
  dsimp only
  refine zA (zA (zA (zBH tyS (wpAny_of_eq (m':=pure (Value.type "set")) rfl (zD (wpAny_of_eq (m':=pure "set") rfl (zD ?_)))))))
  refine zA (wpAny_of_eq (m':=pure ()) rfl (zD (zA (zD ?_))))
  refine zA (zA (zA (wpAny_load (zO _ rfl) ?_)))
  refine wpAny_of_eq (m':=pure (#[],0,SetTable.fresh 0 0 (!w.params.followText "set-order"))) (by unfold zCE;cases w.params.followText "set-order" <;> rfl) (zD (wpAny_of_eq (m':=pure false) (by cases w.params.followText "set-order" <;> rfl) (zD ?_)))
  have tyT:∀h tk,(∀b o,s.heap.get? b=some o->h.get? b=some o)->Shared.TypeIs { s with heap:=h,toks:=tk } (.ref l) "list" := fun h tk K=>by
   obtain⟨o,ho,hr⟩:=ht h K
   exact⟨o,ho,hr.1⟩
  show wpAny _ _ (Builtin.Frozenset.updateFrom "set.__init__" s.heap.objs.size (.ref l) >>= _) _ _ _
  unfold Builtin.Frozenset.updateFrom
  refine zA (zA (zA (zBC (tyT _ _ h0) PySem.F.sub_list_set (zBC (tyT _ _ h0) (b:=false) PySem.F.sub_list_frozenset ?_))))
  refine zA (zBH (tyT _ _ h0) ?_)
  refine zA (wpAny_pyIter_list (ht _ h0) (zA (wpAny_runValue ?_)))
  have hsz:(s.heap.push (zCE w)).objs.size=s.heap.objs.size+1:=zA0 ..
  have nli:l≠(s.heap.push (zCE w)).objs.size:=zh (by rw[hsz];exact zBM hlt)
  have nsi:s.heap.objs.size≠(s.heap.push (zCE w)).objs.size:=by rw[hsz];exact zh (Nat.lt_succ_self _)
  refine zLt (led:=!w.params.followText "set-order") (Walks.list (prog:=prog) (w:=w) (A:=(A.under (Code.builtin "type.__call__" { pos:=[.type "set",.ref l] })).in1.in1) hA (s.heap.push (zCE w)).objs.size l nli its.toArray) ?_ nsi (fun i=>ns.getD i 0) ?_ (by simpa using hz) its.toArray.size 0 _ rfl (zb _) ?_ ?_ ?_
  . intro z
    rcases zR.mp z with z | z
    . exact nsi z
    . exact absurd (zk.mp z) (Nat.ne_of_gt hlt)
  . intro i v hv
    rw[zAe] at hv
    exact hi.int_at i v hv
  . exact⟨⟨_,zO _ rfl,rfl,rfl⟩,ht _ fun b o e=>zI _ (h0 b o e)⟩
  . exact (zGK (prog:=prog) (w:=w) s.heap).keep fun o e=>zI _ e
  . intro s' e1 e2 e3 kp so
    refine zD (zD (zD (zD ?_)))
    obtain⟨h',g',d',t',o'⟩:=s'
    cases e1
    cases e2
    cases e3
    refine q h' t' (fun b o e=>kp b o (zh (zW e)) (fun z=>?_) (zI _ (h0 b o e))) (by simpa using so)
    have hb:b<s.heap.objs.size:=zW e
    rw[z,hsz] at hb
    exact absurd hb (Nat.not_lt.mpr (zBl _))
 | .ok .next,e=>exact e.elim
 | .ok .brk,e=>exact e.elim
 | .ok .cont,e=>exact e.elim
 | .error v,e=>exact e
theorem mk_tup {l:Addr}{its:List Value}{ns:List Int}{Q:Value->Shared->Prop}(hA:A.handled=none)(hl:s.heap.IsTuple l its.toArray)(hi:IntsAre its ns)(hz:its.length+1<scanBound)
 (q:∀(h:Heap)(tk:Nat),(∀b o,s.heap.get? b=some o->h.get? b=some o)->zF7 prog w (!w.params.followText "set-order") h s.heap.objs.size (fun z=>(firstMet (fun i=>ns.getD i 0) its.length).any fun x=>x==z) (firstMet (fun i=>ns.getD i 0) its.length).length->Q (.ref s.heap.objs.size) { s with heap:=h,toks:=tk }) :
 wpAny (model prog w) A (call (.type "set") [.ref l]) Q E s:=by
 refine zB7 (codeAny_of_tree (zD ⟨Code.quiet_builtin _ (by decide +kernel),codeAny_builtin PySem.F.entry_type_call ?_⟩))
 unfold Builtin.«type.__call__»
 dsimp only
 rw[if_neg (by rw[PySem.F.called_set.notType];decide)]
 rw[if_neg (by rw[PySem.F.called_set.canCreate];decide)]
 obtain⟨c,tl,hm⟩:=PySem.F.called_set.mro
 refine zA (wpAny_of_eq (PySem.F.typeCall_set_1 _) (zD (zA (wpAny_of_eq hm (zD ?_)))))
 refine zA (wpAny_of_eq PySem.F.called_set.made (zD (zA (zD ?_))))
 refine zA (zx (zB7 (codeAny_mono (new_g (E:=E) (.ref l) (Q₁:=fun obj s₁=>obj = .ref s.heap.objs.size/\s₁={ s with heap:=s.heap.push (zCE w) }) ⟨rfl,rfl⟩) fun r s₁ e=>?_)))
 match r,e with
 | .ok (.ret obj),e=>
  obtain⟨rfl,rfl⟩:=e
  have h0:∀b o,s.heap.get? b=some o->(s.heap.push (zCE w)).get? b=some o:=fun b o e=>zI _ e
  have ht:∀h:Heap,(∀b o,s.heap.get? b=some o->h.get? b=some o)->h.IsTuple l its.toArray:=fun h K=>by
   obtain⟨o,ho,hr⟩:=hl
   exact⟨o,K _ _ ho,hr⟩
  have hlt:l<s.heap.objs.size:=by
   obtain⟨o,ho,_⟩:=hl
   exact zW ho
  have tyS:Shared.TypeIs { s with heap:=s.heap.push (zCE w) } (.ref s.heap.objs.size) "set" := ⟨_,zO _ rfl,rfl⟩
  show wpAny _ _ _ _ _ _
  refine zA (zBC tyS PySem.F.called_set.sub ?_)
  refine zA (zx ?_)
  unfold callSpecial?
  refine zA (wpAny_specialOf tyS PySem.F.called_set.init.lookup (zx (zA (wpAny_of_eq (PySem.F.called_set.init.bind _) (zD (zA (zB7 (codeAny_call_builtin PySem.F.called_set.init.plain PySem.F.entry_set_init (check_set_init_1 tyS ?_)))))))))
  unfold Builtin.«set.__init__»
  refine zA (wpAny_of_eq (m':=pure ()) rfl (zD ?_))
  dsimp only
  refine zA (zA (zA (zBH tyS (wpAny_of_eq (m':=pure (Value.type "set")) rfl (zD (wpAny_of_eq (m':=pure "set") rfl (zD ?_)))))))
  refine zA (wpAny_of_eq (m':=pure ()) rfl (zD (zA (zD ?_))))
  refine zA (zA (zA (wpAny_load (zO _ rfl) ?_)))
  refine wpAny_of_eq (m':=pure (#[],0,SetTable.fresh 0 0 (!w.params.followText "set-order"))) (by unfold zCE;cases w.params.followText "set-order" <;> rfl) (zD (wpAny_of_eq (m':=pure false) (by cases w.params.followText "set-order" <;> rfl) (zD ?_)))
  have tyT:∀h tk,(∀b o,s.heap.get? b=some o->h.get? b=some o)->Shared.TypeIs { s with heap:=h,toks:=tk } (.ref l) "tuple" := fun h tk K=>by
   obtain⟨o,ho,hr⟩:=ht h K
   exact⟨o,ho,hr.1⟩
  show wpAny _ _ (Builtin.Frozenset.updateFrom "set.__init__" s.heap.objs.size (.ref l) >>= _) _ _ _
  unfold Builtin.Frozenset.updateFrom
  refine zA (zA (zA (zBC (tyT _ _ h0) PySem.F.sub_tuple_set (zBC (tyT _ _ h0) (b:=false) rfl ?_))))
  refine zA (zBH (tyT _ _ h0) ?_)
  refine zA (wpAny_pyIter_tuple (ht _ h0) (zA (wpAny_runValue ?_)))
  have hsz:(s.heap.push (zCE w)).objs.size=s.heap.objs.size+1:=zA0 ..
  have nli:l≠(s.heap.push (zCE w)).objs.size:=zh (by rw[hsz];exact zBM hlt)
  have nsi:s.heap.objs.size≠(s.heap.push (zCE w)).objs.size:=by rw[hsz];exact zh (Nat.lt_succ_self _)
  refine zLt (led:=!w.params.followText "set-order") (Walks.tuple (prog:=prog) (w:=w) (A:=(A.under (Code.builtin "type.__call__" { pos:=[.type "set",.ref l] })).in1.in1) hA (s.heap.push (zCE w)).objs.size l nli its.toArray) ?_ nsi (fun i=>ns.getD i 0) ?_ (by simpa using hz) its.toArray.size 0 _ rfl (zb _) ?_ ?_ ?_
  . intro z
    rcases zR.mp z with z | z
    . exact nsi z
    . exact absurd (zk.mp z) (Nat.ne_of_gt hlt)
  . intro i v hv
    rw[zAe] at hv
    exact hi.int_at i v hv
  . exact⟨⟨_,zO _ rfl,rfl,rfl⟩,ht _ fun b o e=>zI _ (h0 b o e)⟩
  . exact (zGK (prog:=prog) (w:=w) s.heap).keep fun o e=>zI _ e
  . intro s' e1 e2 e3 kp so
    refine zD (zD (zD (zD ?_)))
    obtain⟨h',g',d',t',o'⟩:=s'
    cases e1
    cases e2
    cases e3
    refine q h' t' (fun b o e=>kp b o (zh (zW e)) (fun z=>?_) (zI _ (h0 b o e))) (by simpa using so)
    have hb:b<s.heap.objs.size:=zW e
    rw[z,hsz] at hb
    exact absurd hb (Nat.not_lt.mpr (zBl _))
 | .ok .next,e=>exact e.elim
 | .ok .brk,e=>exact e.elim
 | .ok .cont,e=>exact e.elim
 | .error v,e=>exact e
end
end STb
namespace L2
open PySem PySem.Spec PyProof.Rows STb
theorem zFy (val:Nat->Int):∀i,(firstMet val i).Nodup
 | 0=>List.nodup_nil
 | i+1=>by
  have ih:=zFy val i
  rw[firstMet_succ]
  unfold step_dedup
  split
  . exact ih
  . rename_i h
    refine zAt.mpr ⟨ih,by simp,fun a ha b hb e=>h ?_⟩
    rw[zk.mp hb] at e
    subst e
    exact List.any_eq_true.mpr ⟨_,ha,by simp⟩
theorem zFP:∀{l2 l1:List Int},l2.Nodup->(∀x∈l2,x∈l1)->l1.length<=l2.length->l1.Perm l2
 | [],l1,_,_,h=>by
  have:l1=[]:=zBF.mp (by simpa using h)
  subst this
  exact zCD _
 | x::r,l1,nd,hs,h=>by
  have hx:x∈l1:=hs x zT
  have nx:x∉r:=(zA2.mp nd).1
  refine (List.perm_cons_erase hx).trans ((zFP (zA2.mp nd).2 (fun y hy=>?_) ?_).cons x)
  . exact (List.mem_erase_of_ne (a:=y) (b:=x) (fun z=>nx (by rw[<-z];exact hy))).mpr (hs y (zN _ hy))
  . rw[List.length_erase_of_mem hx]
    simp only[zY] at h
    omega
theorem zFW {prog:Program}{w:World}:∀{l:List (Int×Value)},ElemsOf (intKind prog w) l->∃ns:List Int,IntsAre (l.map (·.2)) ns/\∀z,z∈ns↔∃e∈l,(intKind prog w).is z e.2=true
 | [],_=>⟨[],.nil,fun z=>by simp⟩
 | e::r,h=>by
  obtain⟨ns,h1,h2⟩:=zFW (l:=r) h.tail
  obtain⟨⟨k,hk,_⟩,_⟩:=h.head
  obtain⟨t,et⟩:=Value.isInt_shape hk
  refine⟨k::ns,?_,fun z=>?_⟩
  . rw[zAG,et]
    exact .cons k t h1
  . rw[zR,h2]
    constructor
    . rintro (rfl | ⟨e',he',hz⟩)
      . exact⟨e,zT,hk⟩
      . exact⟨e',zN _ he',hz⟩
    . rintro ⟨e',he',hz⟩
      rcases zR.mp he' with rfl | he'
      . exact .inl ((intKind prog w).inj _ _ _ hz hk)
      . exact .inr ⟨e',he',hz⟩
theorem fm_mem (ns:List Int)(z:Int):((firstMet (fun i=>ns.getD i 0) ns.length).any fun x=>x==z)=true↔z∈ns:=by
 rw[firstMet_any]
 have e:(List.range ns.length).map (fun i=>ns.getD i 0)=ns:=by
  apply List.ext_getElem
  . simp
  . intro i h1 h2
    simp[h2]
 rw[e,List.any_eq_true]
 exact⟨fun ⟨x,hx,h⟩=>by rw[<-eq_of_beq h];exact hx,fun h=>⟨z,h,by simp⟩⟩
theorem zI1 {ms:List Int}(h1:ms.Pairwise (· <= ·))(h2:ms.Nodup):ms.Pairwise (· < ·):=by
 rw[zAV] at h1 ⊢
 intro i j hi hj hij
 have a:=h1 i j hi hj hij
 have b:ms[i]≠ms[j]:=fun z=>by have:=(List.getElem_inj h2).mp z;omega
 omega
section
open PySem.W PySem.Calls SortT
variable {prog:Program}{w:World}{A:Around}{E:Value->Shared->Prop}{s:Shared}
theorem zGw {a:Addr}{S:Int->Bool}{n:Nat}{Q:Value->Shared->Prop}(hh:A.handled=none)(G:zF7 prog w (!w.params.followText "set-order") s.heap a S n) (h64:n<64)
 (q:∀(s1:Shared)(h':Heap)(D:Addr)(ms:List Int)(us:List Value)(c:Nat),s1.gens=s.gens->s1.os=s.os->(∀b o,s.heap.get? b=some o->s1.heap.get? b=some o)->(∀b o,s1.heap.get? b=some o->h'.get? b=some o)->s1.heap.objs.size<=D->h'.get? D=some (seqObj "list" us.toArray c)->zBB (ms.map V.int) us->ms.Pairwise (· <= ·)->(∀z,z∈ms↔S z=true)->ms.length=n->Q (.ref D) { s1 with heap:=h' }) :
 wpAny (model prog w) A (call (.builtin "sorted") [.ref a]) Q E s:=by
 obtain⟨ob,el,ep,tb,g1,g2,g3,B⟩:=G
 refine Calls.call_function_entry kind_sorted plain_sorted entry_sorted (args_sorted1 _) ?_
 unfold Builtin.«sorted»
 refine zA (m:=checkCount "sorted" 1 1 _) (zD ?_)
 refine zA (zGx (A:=A.in1) hh ⟨ob,g1,g2,g3⟩ B.fit B.gt (by have:=B.siz;omega) fun s1 acc e1 e2 k1 hg=>?_)
 obtain⟨l,lp,la⟩:=hg
 obtain⟨ns,hI,hm⟩:=zFW (B.elm.perm lp)
 have hl:l.length=n:=by rw[lp.length_eq,Array.length_toList,B.siz]
 have hvl:acc.toList.length=n:=by rw[la,zE,hl]
 rw[<-la] at hI
 generalize acc.toList=vs at hI hvl
 refine zA (wpAny_newList ?_ (by rw[sizeLine_eq];omega))
 have hoL:(s1.heap.push (seqObj "list" vs.toArray 0)).get? s1.heap.objs.size=some (seqObj "list" vs.toArray 0):=zO _ rfl
 have kp1:∀b o,s1.heap.get? b=some o->(s1.heap.push (seqObj "list" vs.toArray 0)).get? b=some o:=fun b o z=>zI _ z
 refine zA (zx (zAO slot_list_sort ⟨_,hoL,rfl⟩ entry_list_sort (SortT.list_sort (O:=intO) (key:=fun i=>ns.getD i 0) (κ:=oneType') hoL (by omega) (fun h2=>zGs hI h2) fun out hp=>⟨_,rfl,?_⟩) (args_list_sort _)))
 refine zD ⟨_,rfl,?_⟩
 obtain⟨c,hc⟩:=sortedHeap_at (vs:=vs) (out:=(out.map fun i=>vs.getD i Value.none).toArray) hoL
 obtain⟨ms,pm,pr,rz,pl⟩:=zHe hI hp
 refine q s1 _ _ ms _ c e1 e2 k1 (fun b o z=>?_) (zH _) hc rz pr (fun z=>?_) (by rw[pl,<-hI.length,hvl])
 . have hb:b<s1.heap.objs.size:=zW z
   rw[sortedHeap_old (zh hb) (by rw[zA0];exact zBM hb)]
   exact kp1 b o z
 . rw[pm.mem_iff,hm z,B.mem z]
   exact⟨fun ⟨e,he,u⟩=>⟨e,lp.mem_iff.mp he,u⟩,fun ⟨e,he,u⟩=>⟨e,lp.mem_iff.mpr he,u⟩⟩
end
section
variable {X:Cx}
noncomputable def zKl (K:PySem.W.Frag)(ta:TA):TE:=fun σ H Q=>ta σ H fun vs H1=>∃(p:Addr)(ns:List Int),vs=[.ref p]/\(SqL K H1 p (ns.map V.int)\/SqT K H1 p (ns.map V.int))/\ns.length<64/\∀(l:Addr)(ms:List Int),H1 l=none->ms.Pairwise (· < ·)->(∀z:Int,z∈ms↔z∈ns)->Q (.ref l) (upd H1 l (.lst (ms.map V.int)))
theorem zD6 {a:Expr}{ta:TA}{p1 p2 pos1 pos2:Pos}(hc:X.calm=true)(hgS:Gl X "sorted") (hmS:X.mg "sorted" = none) (hgT:Gl X "set") (hmT:X.mg "set" = none) (ha:PA X [a] ta)(hs:starEach [a] X.env=[(false,eval a X.env)]:=by rfl)
 (hs2:starEach [.Call (.Name "set" p2) [a] [] pos2] X.env=[(false,eval (.Call (.Name "set" p2) [a] [] pos2) X.env)]:=by rfl) :
 PE X (.Call (.Name "sorted" p1) [.Call (.Name "set" p2) [a] [] pos2] [] pos1) (zKl X.K ta):=by
 intro pins s σ H Q I h
 refine zA1 (zCz I hgS hmS (by decide +kernel:bootBuiltins "sorted" = some (.builtin "sorted")) ?_ (by decide) (by decide))
 refine PyProof.Rows.callWith_builtin1 ?_ hs2 rfl
 rw[hs2]
 refine Calls.spliced_cons ?_
 refine Call_ (zCz I hgT hmT (by decide +kernel:bootBuiltins "set" = some (.type "set")) (PyProof.Rows.callWith_type1 (thn (ha pos2 pins s σ H _ I h) fun us s1 ⟨vs,H1,I1,r1,q1⟩=>?_) hs rfl))
 obtain⟨p,ns,e,hq,h64,q⟩:=q1
 subst e
 obtain⟨u,rfl,rx⟩:=zE8 r1
 cases rx
 have lh:(firstMet (fun i=>ns.getD i 0) ns.length).length<=ns.length:=firstMet_length_le _ _
 have key:∀(h:Heap)(tk:Nat),(∀b o,s1.heap.get? b=some o->h.get? b=some o)->zF7 X.prog X.w (!X.w.params.followText "set-order") h s1.heap.objs.size (fun z=>(firstMet (fun i=>ns.getD i 0) ns.length).any fun x=>x==z) (firstMet (fun i=>ns.getD i 0) ns.length).length ->
  wpAny (model X.prog X.w) X.A (call (.builtin "sorted") [.ref s1.heap.objs.size]) (EP X pins σ Q) X.xe { s1 with heap:=h,toks:=tk }:=by
  intro h tk K so
  refine zGw (I1.ok.hd hc) so (by omega) fun s2 h' D ms us c e1 e2 k1 k2 hD ho rz pr hm hlen=>?_
  obtain⟨hp2,g2,d2,t2,o2⟩:=s2
  cases e1
  cases e2
  have kk:∀b o,s1.heap.get? b=some o->hp2.get? b=some o:=fun b o z=>k1 b o (K b o z)
  have I2:Inv X pins σ H1 { s1 with heap:=hp2,gens:=s1.gens,drawn:=d2,toks:=t2 }:=I1.call (ch:=[]) (Un.kept kk) (I1.hok.kept kk) I1.bare fun _ z=>nomatch z
  have cov:=zFP (l2:=firstMet (fun i=>ns.getD i 0) ns.length) (l1:=ms) (zFy _ _) (fun x hx=>(hm x).mpr (List.any_eq_true.mpr ⟨x,hx,by simp⟩)) (by omega)
  refine⟨.ref D,_,zDr (t':=t2) I2 hD k2 ho rz ?_,rfl,q D ms (I2.hok.fresh hD) (zI1 pr (cov.nodup_iff.mpr (zFy _ _))) fun z=>(hm z).trans (fm_mem ns z)⟩
  have:sizeLine=16777216:=rfl
  rw[zE]
  omega
 have sb:scanBound=4096:=rfl
 rcases hq with hq | hq
 . obtain⟨its,rv,pl,hz⟩:=I1.list hq
   have hi:=zB1 rv
   have hil:=hi.length
   refine zMi (I1.ok.hd hc) pl.isList hi (by omega) fun h tk K so=>?_
   rw[hil] at so
   exact Calls.spliced_nil (key h tk K so)
 . obtain⟨its,rv,pl,hz⟩:=I1.tuple hq
   have hi:=zB1 rv
   have hil:=hi.length
   refine mk_tup (I1.ok.hd hc) pl hi (by omega) fun h tk K so=>?_
   rw[hil] at so
   exact Calls.spliced_nil (key h tk K so)
end
end L2
namespace L2
open PySem PyProof.Rows
section
variable {prog:Program}{w:World}{A:Around}{s0:Shared}{I S:Addr}{its:List Value}{itAt:Nat->Heap->Prop}
end
section
variable {X:Cx}
end
end L2
namespace L2
open PySem PySem.Spec PyProof.Rows
section
variable {X:Cx}
end
end L2
namespace L2
open PySem PySem.Spec PyProof.Rows
theorem zEk (l:Addr)(items:Array Value)(n:Nat)(b:Addr)(o:Obj)(items2:Array Value)(n2:Nat)(hlong:¬ (!items.isEmpty && Builtin.List.listTooLong (items.size+items2.size))=true)(hs1:items.size<=sizeLine)(hs2:items.size+items2.size<=sizeLine+1) :
 Meets (Builtin.«list.extend» ⟨[.ref l,.ref b],[]⟩) (fun _ R s=>s.heap.get? l=some { cls:=.type "list",dict:=none,data:=.seq items n,slots:=#[] }/\(s.heap.get? b=some o/\o.cls = .type "tuple" /\ o.data = .seq items2 n2)/\R (.ok (.ret Value.none)) { s with heap:=s.heap.update l (Obj.mapSeq fun x=>x++items2),toks:=s.toks }):=
 .of_wp fun prog w A R s h=>by
  obtain⟨hl,⟨hb,hc,hd⟩,h⟩:=h
  show wpAny _ A.in1 (Builtin.List.listExtendWith (.ref l) (.ref b) .none) _ _ s
  unfold Builtin.List.listExtendWith
  refine zA (zBH ⟨o,hb,hc⟩ ?_)
  have h1:(Builtin.List.listSameRef (.ref l) (.ref b) || Value.type "tuple" == Value.type "list" || Value.type "tuple" == Value.type "tuple")=true:=by simp
  simp only[h1,if_true]
  refine zA ?_
  unfold Builtin.List.listItems
  refine zA (wpAny_seqItems hb hd (zD ?_))
  refine zA ?_
  refine zA (wpAny_seqItems hl rfl (zD ?_))
  rw[if_neg hlong]
  show wpAny _ A.in1 (updateSeq l (· ++ items2) >>= fun _=>ret .none) _ _ s
  refine zA (zBs hl rfl ?_ (by omega) (by rw[Array.size_append];exact hs2))
  exact zD ⟨_,rfl,h⟩
section
variable {X:Cx}
noncomputable def zKy:V->List V->Hp->VK->Prop:=fun x vs H Q=>∃l b xs zs,x = .ref l/\vs=[.ref b]/\H l=some (.lst xs)/\H b=some (.tup zs)/\xs.length+zs.length<=sizeLine/\Q .non (upd H l (.lst (xs++zs)))
theorem zIZ:MtM X "list.extend" zKy:=by
 intro pins s σ H x vs v us Q I rx rv h
 obtain⟨l,b,xs,zs,rfl,rfl,hH,hB,hz,q⟩:=h
 cases rx
 obtain⟨u,rfl,ru⟩:=rv.one
 cases ru
 obtain⟨z,its,n,r,hl,e⟩:=I.lstM hH
 obtain⟨z2,its2,r2,o2,ho2,hc2,n2,hd2⟩:=I.hok b _ hB
 have hl2:=r2.length
 have hsz:its.toArray.size+its2.toArray.size<=sizeLine:=by rw[zP,zP];omega
 have hlong:¬ (!its.toArray.isEmpty && Builtin.List.listTooLong (its.toArray.size+its2.toArray.size))=true:=by
  rw[zK8 hsz,Bool.and_false]
  exact zt
 refine call_meets PySem.F.slot_list_extend ⟨_,e,rfl⟩ PySem.F.entry_list_extend (PySem.F.args_list_extend_2 _ _)
  (zEk l its.toArray n b o2 its2.toArray n2 hlong (by rw[zP];omega) (by omega)) ⟨e,⟨ho2,hc2,hd2⟩,?_⟩
 refine⟨.non,_,I.lset (its':=its++its2) hH e (by simp) (r.append r2) ?_,rfl,q⟩
 rw[zB]
 omega
end
end L2
namespace L2
open PySem PySem.Spec PyProof.Rows
section
variable {X:Cx}
end
end L2
namespace L2
open PySem PySem.Spec PyProof.Rows
theorem zBY.there {P:Program}{w:World}{H:Hp}{h:Heap}{a:Addr}{o:HO}(x:zBY P w H h a o):∃ob,h.get? a=some ob:=by
 cases o with
 | lst xs=>obtain⟨_,_,_,_,e⟩:=x;exact⟨_,e⟩
 | tup xs=>obtain⟨⟨_,o2,e2,_⟩,_⟩:=x;exact⟨_,e2⟩
 | dK kvs=>obtain⟨_,_,_,_,o,_,_,e,_⟩:=x;exact⟨_,e⟩
 | dT kvs=>obtain⟨_,_,_,_,o,_,_,e,_⟩:=x;exact⟨_,e⟩
 | set S n=>obtain⟨o,_,_,_,e,_⟩:=x;exact⟨_,e⟩
 | ins C dx fs=>obtain⟨_,_,_,e,_⟩:=x;exact⟨_,e⟩
 | own y=>obtain⟨_,e⟩:=x;exact⟨_,e⟩
 | xd fs=>obtain⟨_,⟨_,_,_,e,_⟩,_⟩:=x;exact⟨_,e⟩
 | rng lo hi=>obtain⟨_,_,_,e⟩:=x;exact⟨_,e⟩
 | frz ob u=>obtain⟨e,_⟩:=x;exact⟨_,e⟩
 | tbl ps=>exact⟨_,show h.get? a=some _ from x⟩
 | met f y=>exact⟨_,show h.get? a=some _ from x⟩
 | ext φ=>obtain⟨_,⟨_,e⟩,_⟩:=x;exact⟨_,e⟩
theorem HOk.stays {P:Program}{w:World}{H:Hp}{h h' B:Heap}(x:HOk P w H h)(k:B.StaysIn h)(k':B.StaysIn h')(tr:∀b u,H b=some u->∃o,B.get? b=some o):HOk P w H h':=fun a o e=>
 (x a o e).stay (fun b u hb q=>by
  have:∃v,H b=some v:=by
   rcases hb with rfl | hb
   . exact⟨_,e⟩
   . exact⟨_,hb⟩
  obtain⟨v,hv⟩:=this
  obtain⟨o',ho'⟩:=tr b v hv
  have e2:o'=u:=zm ((k b o' ho').symm.trans q)
  exact e2 ▸ k' b o' ho') (fun _ q=>q) fun _ _ q=>q
section
variable {P:Program}{w:World}{K:PySem.W.Frag}{mg:Str->Option Value}{base:Heap}{N:List Str}{qual:Str}{scope:Scope}{f:Addr}{cd:Value}{A:Around}{outer:List Env}{s0 s:Shared}{H0 H:Hp}{E:XK}{pins:List (Addr×Obj)}{σ:St}
end
noncomputable abbrev bmV:List Value:=[.type "ValueError",.type "Exception",.type "BaseException",.type "object"]
theorem zKG {K:PySem.W.Frag}{h:Heap}{C:Addr}{bmB:List Value}{newId:String}(X:K.In h)(q:PySem.W.excIn K C bmB newId=true) :
 ∃bm N nm qn bs hdct sn sub ab col dd k0 k1 k2 k3 k5 mN,h.get? C=some (excClassObj nm qn C N bs bm hdct sn sub ab col dd k0 k1 k2 k3 k5 newId)/\h.Ns N mN/\mN "__init__" = none/\OwnTail h bmB bm:=by
 unfold PySem.W.excIn at q
 split at q
 . next dd cd sl look=>
   split at q
   . next D bm k0 k1 k2 k3 n k5 em es=>
     simp only[zAC,beq_iff_eq,Bool.not_eq_true'] at q
     obtain⟨⟨⟨⟨⟨q1,q2⟩,q3⟩,q4⟩,q5⟩,q6⟩:=q
     subst q1 q2
     cases cd
     simp only at em q3 q5 q6
     subst em q3
     cases sl
     simp only at es
     subst es
     exact⟨_,_,_,_,_,_,_,_,_,_,_,_,_,_,_,_,_,X _ _ look,.of_isNs (PySem.W.isNs_of_in X q5),PySem.W.nsMap_none_of_in X q5 q6,PySem.W.tail_of_in X q4⟩
   . cases q
 . cases q
end L2
namespace L2
open PySem PySem.Spec PyProof.Rows
section
variable {X:Cx}{pins:List (Addr×Obj)}{σ:St}{H:Hp}{s:Shared}
theorem zIx {M:Model}{A:Around}{E:Value->Shared->Prop}{i:Nat}{x:Str}{v:V}{Q:Unit->Shared->Prop}(I:Inv X pins σ H s)(hN:X.N.Nodup)(hi:X.N[i]? = some x)(hk:X.env.kindOf x=some .local)(hv:σ[i]? = some (some v))
 (h:∀s',Inv X pins (σ.set i none) H s'->Q () s'):wpAny M A (unbindName X.env x) Q E s:=by
 obtain⟨m,hn,hl⟩:=id I.loc
 have hcls:(X.env.scope.kind == .class || (X.env.scope.kind == .module && X.env.locals != X.env.globals))=false:=by rw[I.ok.kind];rfl
 have hk':X.env.scope.names.lookup x=some .local:=hk
 obtain⟨u,_,lk⟩:=hl i x v hi hv (.inl hk')
 have hm:m x=some u:=by
  rcases lk with ⟨_,e⟩ | ⟨q,_⟩
  . exact e
  . rcases q with q | q <;> (rw[hk] at q;cases q)
 obtain⟨oL,_,_,hoL,_⟩:=id hn
 have neL:∀b o,X.s₀.heap.get? b=some o->b≠X.env.locals:=fun b o e=>zh (zp (zW e) I.ok.above)
 refine wpAny_unbindName_local hk hn hm hcls fun h' uu hn' hs=>h _ ⟨I.ok,I.os,I.bare,⟨fun b o e n hb hx=>(hs.2 b (neL b o e)).trans (I.base.keep b o e n hb hx),fun b o e n hb hx=>?_,I.base.free,fun b o e hx=>?_,I.base.tups,I.base.frzs,I.base.tbls⟩,⟨_,hn',fun j y v' e1 e2 e3=>?_⟩,fun y c e=>?_,I.free,I.freeC,fun p hp=>?_,fun b ob e=>?_,by simpa using I.len⟩
 . obtain⟨sl,e1⟩:=I.base.slot b o e n hb hx
   exact⟨sl,(hs.2 b (neL b o e)).trans e1⟩
 . obtain⟨o',e1⟩:=I.base.there b o e hx
   exact⟨o',(hs.2 b (neL b o e)).trans e1⟩
 . have hj:j≠i:=fun z=>by
    subst z
    have:j<σ.length:=(zM.mp hv).1
    rw[List.getElem?_set_self this] at e2
    cases e2
   rw[List.getElem?_set_ne (Ne.symm hj)] at e2
   obtain⟨u',r',q⟩:=hl j y v' e1 e2 e3
   refine⟨u',r',?_⟩
   rcases q with ⟨k,e⟩ | ⟨k,c,e,z⟩
   . have ny:y≠x:=fun e=>hj (zFq hN e1 (e ▸ hi))
     exact .inl ⟨k,by simp[ny,e]⟩
   . exact .inr ⟨k,c,e,z.sameBut hs (I.cne y c e)⟩
 . obtain⟨w',z⟩:=I.cell y c e
   exact⟨w',z.sameBut hs (I.cne y c e)⟩
 . obtain⟨e,n,ne,nf,d⟩:=I.pin p hp
   exact⟨(hs.2 p.1 ne).trans e,n,ne,nf,d⟩
 . refine (I.hok b ob e).stay (fun c w' hc q=>(hs.2 c ?_).trans q) (fun _ q=>q) fun _ _ q=>q
   rintro rfl
   rcases hc with rfl | hc
   . rw[I.free] at e;cases e
   . rw[I.free] at hc;cases hc
end
theorem zIa {M:Model}{A:Around}{E:Value->Shared->Prop}{s:Shared}{nm qn nm' qn':Str}{C W Nn Nn':Addr}{bs bm bs' bm':List Value}{hdct hdct':Bool}{sn sn':List Str}{sub sub':List Value}{ab ab':Bool}{col col':Option Bool}{dd dd':Option Addr}
 {k0 k1 k2 k3 k5 k0' k1' k2' k3' k5':Option Value}{newId newId':String}{e:Addr}{oe:Obj}{Q:Bool->Shared->Prop}
 (hC:s.heap.get? C=some (excClassObj nm qn C Nn bs bm hdct sn sub ab col dd k0 k1 k2 k3 k5 newId))(hW:s.heap.get? W=some (excClassObj nm' qn' W Nn' bs' bm' hdct' sn' sub' ab' col' dd' k0' k1' k2' k3' k5' newId'))
 (he:s.heap.get? e=some oe)(hcls:oe.cls = .ref C)(hb:bm'.contains (.type "BaseException")=true) (hs:(Value.ref C::bm).contains (.ref W)=true)(hq:Q true s):wpAny M A (excMatches (.ref e) (.ref W)) Q E s:=by
 obtain⟨h,g,d,t,os⟩:=s
 have hWB:(Value.ref W::bm').contains (.type "BaseException")=true:=by rw[List.contains_cons,hb,Bool.or_true]
 have f:=tc_notTuple
 unfold excMatches
 repeat (first | (with_reducible refine zAa he ?_;rw[hcls]) | with_reducible refine zAa hW ?_ | (with_reducible refine wpAny_isSubtype_exc hW ?_;rw[hWB]) | (with_reducible refine wpAny_isSubtype_exc hC ?_;rw[hs]) | wp_step)
 exact hq
end L2
namespace L2
open PySem PySem.Spec PyProof.Rows
noncomputable def subIn (K:PySem.W.Frag)(C W:Addr):Bool:=match K.lookup C with
 | some ⟨_,_,.cls cd,_⟩=>cd.mro.contains (.ref W)
 | _=>false
theorem sub_of {K:PySem.W.Frag}{h:Heap}{C W:Addr}{nm qn:Str}{Nn:Addr}{bs bm:List Value}{hdct:Bool}{sn:List Str}{sub:List Value}{ab:Bool}{col:Option Bool}{dd:Option Addr}{k0 k1 k2 k3 k5:Option Value}{newId:String}
 (X:K.In h)(q:subIn K C W=true)(hC:h.get? C=some (excClassObj nm qn C Nn bs bm hdct sn sub ab col dd k0 k1 k2 k3 k5 newId)):(Value.ref C::bm).contains (.ref W)=true:=by
 unfold subIn at q
 split at q
 . next look=>
   have e:=(X _ _ look).symm.trans hC
   unfold excClassObj at e
   cases e
   exact q
 . cases q
noncomputable def Cx.held (X:Cx)(ea:Addr)(oe:Obj):Cx:={ X with A:=X.A.mark (some (.ref ea)),calm:=false,pn:=(ea,oe)::X.pn,xe:=fun _ _=>False }
section
variable {X:Cx}{pins:List (Addr×Obj)}{σ:St}{H:Hp}{s:Shared}{ea:Addr}{oe:Obj}
theorem Inv.hold (I:Inv X pins σ H s)(h1:s.heap.get? ea=some oe)(h2:H ea=none)(h3:ea≠X.env.locals)(h4:ea∉X.fs)(h5:∀v,oe.data ≠ .cell v):Inv (X.held ea oe) pins σ H s:=
 ⟨⟨I.ok.mod,I.ok.kind,I.ok.glob,I.ok.blt,I.ok.above,I.ok.inj,I.ok.has,I.ok.cab,(fun z=>by cases z),I.ok.frames,I.ok.stk,I.ok.exf,I.ok.bs,I.ok.bsz,I.ok.noex,I.ok.exfs,I.ok.funs,I.ok.frf⟩,I.os,I.bare,I.base,I.loc,I.cell,I.free,I.freeC,
  fun p hp=>by
   rcases zR.mp (show p∈(ea,oe)::(X.pn++pins) from hp) with rfl | hp
   . exact⟨h1,h2,h3,h4,h5⟩
   . exact I.pin p hp,I.hok,I.len⟩
theorem Inv.letgo (ok:X.Ok)(I:Inv (X.held ea oe) pins σ H s):Inv X pins σ H s:=
 ⟨ok,I.os,I.bare,I.base,I.loc,I.cell,I.free,I.freeC,fun p hp=>I.pin p (zN _ hp),I.hok,I.len⟩
end
theorem zJt {st:List Env}{H1 H':Hp}{s1 s':Shared}{ea:Addr}{C a0:Value}{B h5:Heap}(un:Un (frs st) [] H1 H' s1.heap s'.heap)(fl:Heap.FlyingW B st ea C a0 s'.heap)
 (old:∀b o,s1.heap.get? b=some o->H1 b=none->b∉frs st->B.get? b=some o)(al:∀b o,s1.heap.get? b=some o->b∉frs st->∃o',B.get? b=some o')(st5:B.StaysIn h5)(up:s'.heap.UpToSlots h5):Un (frs st) [] H1 H' s1.heap h5:=by
 refine⟨fun b o e n hb _=>st5 b o (old b o e n hb),fun b o e n hb _=>?_,un.free,fun b o e _=>?_,un.tups,un.frzs,un.tbls⟩
 . obtain⟨sl2,e2⟩:=un.slot b o e n hb (by intro z;cases z)
   obtain⟨_,o3,e3,nd⟩:=fl.2.2.1.mem hb
   obtain⟨sl4,e4⟩:=up b _ e3 nd
   have e5:=zm (e3.symm.trans e2)
   rw[e5] at e4
   exact⟨sl4,e4⟩
 . by_cases hb:b∈frs st
   . obtain⟨_,o3,e3,nd⟩:=fl.2.2.1.mem hb
     obtain⟨sl4,e4⟩:=up b _ e3 nd
     exact⟨_,e4⟩
   . obtain⟨o3,e3⟩:=al b o e hb
     exact⟨_,st5 b o3 e3⟩
noncomputable def endsH (i:Nat)(D:zIv):zIv:={ D with nx:=fun σ H=>D.nx (σ.set i none) H,bk:=fun σ H=>D.bk (σ.set i none) H,ct:=fun σ H=>D.ct (σ.set i none) H }
end L2
namespace L2
open PySem PySem.Spec PySem.W PyProof.Rows Builtin Builtin.ObjectAttr Builtin.Getset_descriptor
section
variable {prog:Program}{w:World}{A:Around}{E:Value->Shared->Prop}{s:Shared}{K:Frag}{x C:Addr}{ox:Obj}
structure zDq (K:Frag)(C:Addr):Prop where
 ga:findIn K (.ref C) "__getattribute__" = some (some (.builtin "BaseException.__getattribute__"))
 gn:findIn K (.ref C) "__getattr__" = some none
 cl:findIn K (.ref C) "__class__" = some (some (.builtin "object.__class__"))
 mo:mroIn K C (.type "object")=some true
 mb:mroIn K C (.type "BaseException")=some true
 ci:(clsIn K C).isSome=true
noncomputable def zD4 (h:Heap)(x C:Addr):Prop:=∃o,h.get? x=some o/\o.cls = .ref C
theorem zD4.type {M:Model}{h:Heap}{x C:Addr}(I:zD4 h x C):Looks M h (typeOf (.ref x)) (.ref C):=by
 obtain⟨o,e,c⟩:=I
 rw[<-c]
 exact (Looks.ld e).andThen .now
theorem zLO {tp:Value}{R:Result->Shared->Prop}(X:K.In s.heap)(I:zD4 s.heap x C)(hm:mroIn K C (.type "object")=some true) (h:R (.ok (.ret (.ref C))) s) :
 codeAny (model prog w) A (.call (.builtin "getset_descriptor.__get__") ⟨[.builtin "object.__class__",.ref x,tp],[]⟩) R s:=by
 obtain⟨h0,g0,d0,t0,o0⟩:=s
 have T0:=I.type (M:=model prog w)
 have T1:=looks_mroIn (M:=model prog w) X hm
 refine codeAny_call_builtin KF.slot_gs.plain KF.entry_gs (KF.slot_gs.check _ _ _ _ _ _ _ _ KF.type_class (KF.args_gs _ _ _) ?_)
 unfold Builtin.«getset_descriptor.__get__» descrGet;rw[dga_obj]
 apply zA;apply zD
 unfold descrGetter descrCheckInstance descrNameAndClass isInstance;simp only[KF.owner_class]
 repeat lk
 refine⟨Code.quiet_builtin _ (by decide +kernel),codeAny_builtin KF.entry_class (?_:wpAny _ _ _ _ _ _)⟩
 unfold Builtin.«object.__class__»;unfold shownTypeOf
 repeat lk
 exact h
theorem zKH {tk:Tok}{Q:PySem.Fin->Shared->Prop}(X:K.In s.heap)(I:zD4 s.heap x C)(F':zDq K C)(hq:Q (.done (.ret (.ref C))) s) :
 wpAny (model prog w) A (Builtin.«object.__getattribute__» ⟨[.ref x,.str "__class__" tk],[]⟩) Q E s:=by
 obtain⟨h,g,d,t,os⟩:=s
 have L0:=I.type (M:=model prog w)
 have L1:=looks_findIn (M:=model prog w) X F'.cl
 have hT5:(⟨h,g,d,t,os⟩:Shared).TypeIs (.builtin "object.__class__") "getset_descriptor" := F.typeOf_object_class
 have f5:=F.typeOf_object_class
 have f6:=F.slot_gs_get.lookup
 have f7:=F.slot_gs_set.lookup
 repeat (any_goals (first | assumption | with_reducible refine L0.at ?_ | with_reducible refine L1.at ?_ | wp_step))
 refine zLO (s:=⟨h,g,d,t,os⟩) X I F'.mo ?_
 repeat (any_goals (first | assumption | wp_step))
theorem zGg {M:Model}{nameV:Value}{Q:Unit->Shared->Prop}(X:K.In s.heap)(I:zD4 s.heap x C)(F':zDq K C)(hq:Q () s):wpAny M A (checkBuiltinCall "BaseException.__getattribute__" ⟨[.ref x,nameV],[]⟩) Q E s:=by
 obtain⟨h,g,d,t,os⟩:=s
 have L0:=I.type (M:=M)
 have L1:=looks_mroIn (M:=M) X F'.mb
 have e1:builtinKind "BaseException.__getattribute__" = some .slot:=by decide +kernel
 have e2:splitId "BaseException.__getattribute__" = some ("BaseException", "__getattribute__"):=by decide +kernel
 have ha:=F.args_bexc_ga (.ref x) nameV
 simp only[checkBuiltinCall,e1,e2]
 refine zA ?_
 unfold isInstance
 repeat (any_goals (first | assumption | with_reducible refine L0.at ?_ | with_reducible refine L1.at ?_ | wp_step))
theorem zLP {tk:Tok}{R:Result->Shared->Prop}(X:K.In s.heap)(I:zD4 s.heap x C)(F':zDq K C)(hq:R (.ok (.ret (.ref C))) s) :
 codeAny (model prog w) A (.call (.builtin "BaseException.__getattribute__") ⟨[.ref x,.str "__class__" tk],[]⟩) R s:=
 codeAny_call_builtin F.attrBase_ValueError.ga.plain F.entry_bexc_ga (zGg X I F' (zKH X I F' hq))
theorem exc_by {tk:Tok}{fill:Bool}{Q:Value->Shared->Prop}(X:K.In s.heap)(I:zD4 s.heap x C)(F':zDq K C)(hq:Q (.ref C) s):wpAny (model prog w) A (getAttrBy (.ref x) (.str "__class__" tk) fill) Q E s:=by
 obtain⟨h,g,d,t,os⟩:=s
 have L0:=I.type (M:=model prog w)
 have L1:=looks_findIn (M:=model prog w) X F'.ga
 have L2:=looks_findIn (M:=model prog w) X F'.gn
 have f3:=F.attrBase_ValueError.ga.bind (.ref x)
 have hx2:(Value.builtin "BaseException.__getattribute__" == Value.builtin "object.__getattribute__")=false:=by decide +kernel
 have hx1:(onTheHeap (Value.ref C) && Value.builtin "BaseException.__getattribute__" == Value.builtin "object.__getattribute__")=false:=by rw[hx2];rfl
 repeat (any_goals (first | assumption | with_reducible refine L0.at ?_ | with_reducible refine L1.at ?_ | with_reducible refine L2.at ?_ | wp_step))
 refine zLP (s:=⟨h,g,d,t,os⟩) X I F' ?_
 repeat (any_goals (first | assumption | wp_step))
theorem zLQ {Q:Option Value->Shared->Prop}(X:K.In s.heap)(I:zD4 s.heap x C)(F':zDq K C)(hq:Q (some (.ref C)) { s with toks:=s.toks+1 }):wpAny (model prog w) A (getAttr? (.ref x) "__class__") Q E s:=by
 obtain⟨h,g,d,t,os⟩:=s
 unfold getAttr? getAttrBy?
 repeat (any_goals (first | assumption | with_reducible apply exc_by (s:=⟨h,g,d,t+1,os⟩) X I F' | wp_step))
theorem zFs (F':zDq K C):KitX K (.ref x) (.ref C) (fun h=>zD4 h x C) where
 ty:=fun _ _ _ I=>I.type
 it:=fun _ _ X _=>by
  obtain⟨cdD,hcD⟩:=zBt.mp F'.ci
  unfold clsIn at hcD
  split at hcD
  . next ho=>
    intro A' Q' E' s' k q
    unfold isType loadHead
    exact zA (wpAny_loadPart (k _ _ (X _ _ ho)) (zD q))
  . cases hcD
 ne:=fun h tp dd its n sl X htp=>by
  obtain⟨cdD,hcD⟩:=zBt.mp F'.ci
  refine Bool.eq_false_iff.mpr fun q=>?_
  have e:C=tp:=Value.ref.inj (beq_iff_eq.mp q)
  subst e
  unfold clsIn at hcD
  split at hcD
  . next ho=>
    have z:=(X _ _ ho).symm.trans htp
    cases z
  . cases hcD
 ca:=fun X I k=>zLQ X I F' k
end
structure zGu (X:Cx)(ea C:Addr):Prop where
 pin:∃oe,(ea,oe)∈X.pn/\oe.cls = .ref C
section
variable {X:Cx}
theorem zEu {pins:List (Addr×Obj)}{σ:St}{H:Hp}{s:Shared}{ea C:Addr}(h:zGu X ea C)(I:Inv X pins σ H s):zD4 s.heap ea C:=by
 obtain⟨oe,hp,hc⟩:=h.pin
 obtain⟨e,_⟩:=I.pin (ea,oe) (List.mem_append_left _ hp)
 exact⟨oe,e,hc⟩
theorem zGn {ea C:Addr}(hh:zGu X ea C):zDI X (.builtin "isinstance") (fun xs H Q=>∃W b,zDq X.K C/\xs=[.ref ea,.ref W]/\PySem.W.kitOne X.K (.ref C) (.ref W)=some b/\Q (.bl b) H):=by
 intro pins s σ H xs us Q I r h
 obtain⟨W,b,F',rfl,e,q⟩:=h
 obtain⟨u,w',rfl,rx,rT⟩:=zIw r
 cases (show u=Value.ref ea from rx)
 cases (show w'=Value.ref W from rT)
 have J:=zEu hh I
 exact PySem.W.kia_one (zFs F') I.kIn J e (fun z=>nomatch z) fun tk=>⟨.bl b,H,I.tok tk,rfl,q⟩
theorem zF5 {ea C:Addr}(hh:zGu X ea C):zDI X (.builtin "isinstance") (fun xs H Q=>∃T b,zDq X.K C/\xs=[.ref ea,.ty T]/\PySem.W.kitOne X.K (.ref C) (.type T)=some b/\Q (.bl b) H):=by
 intro pins s σ H xs us Q I r h
 obtain⟨T,b,F',rfl,e,q⟩:=h
 obtain⟨u,w',rfl,rx,rT⟩:=zIw r
 cases (show u=Value.ref ea from rx)
 cases (show w'=Value.type T from rT)
 have J:=zEu hh I
 exact PySem.W.kia_one (zFs F') I.kIn J e (fun z=>nomatch z) fun tk=>⟨.bl b,H,I.tok tk,rfl,q⟩
theorem zDn {ea C:Addr}(hh:zGu X ea C):zDI X (.builtin "isinstance") (fun xs H Q=>∃(tp:Addr)(Ws:List Addr)(b:Bool),zDq X.K C/\xs=[.ref ea,.ref tp]/\H tp=some (.tup (Ws.map V.ref))/\PySem.W.kitAny X.K (.ref C) (Ws.map Value.ref)=some b/\Q (.bl b) H):=by
 intro pins s σ H xs us Q I r h
 obtain⟨tp,Ws,b,F',rfl,ht,e,q⟩:=h
 obtain⟨u,w',rfl,rx,rT⟩:=zIw r
 cases (show u=Value.ref ea from rx)
 cases (show w'=Value.ref tp from rT)
 have J:=zEu hh I
 obtain⟨⟨z,o2,e2,d2⟩,its,rv,ob,e3,c3,n3,s3⟩:=(show zBY X.prog X.w H s.heap tp (.tup (Ws.map V.ref)) from I.hok tp _ ht)
 have hits:its=Ws.map Value.ref:=by
  have:∀(Ws:List Addr)(its:List Value),zBB (Ws.map V.ref) its->its=Ws.map Value.ref:=by
   intro Ws
   induction Ws with
   | nil=>intro its h;cases h;rfl
   | cons a r ih=>
    intro its h
    cases h with
    | cons h1 h2=>rw[ih _ h2,show _=Value.ref a from h1];rfl
  exact this Ws its rv
 obtain⟨c',d',da',sl'⟩:=ob
 simp only at c3 s3
 subst c3 s3 hits
 exact PySem.W.kia_tup (zFs F') I.kIn J e3 e (fun z=>nomatch z) fun tk=>⟨.bl b,H,I.tok tk,rfl,q⟩
theorem zFu {X:Cx}{ea C:Addr}{oe:Obj}(h:oe.cls = .ref C):zGu (X.held ea oe) ea C:=⟨⟨oe,zT,h⟩⟩
variable {k:Nat}{f:Addr}{fd:FuncData}{ps:List Str}{sp:Sp}{x:Str}{p pos epos:Pos}{e:Expr}{es:List Expr}{t:TA}
end
end L2
namespace L2
open PySem PySem.Spec PyProof.Rows
noncomputable def DK (h h':Heap):Prop:=∀b o,h.get? b=some o->∃o',h'.get? b=some o'/\o'.dict=o.dict
theorem DK.refl (h:Heap):DK h h:=fun _ o e=>⟨o,e,rfl⟩
theorem DK.trans {h1 h2 h3:Heap}(a:DK h1 h2)(b:DK h2 h3):DK h1 h3:=fun x o e=>by
 obtain⟨o1,e1,d1⟩:=a x o e
 obtain⟨o2,e2,d2⟩:=b x o1 e1
 exact⟨o2,e2,d2.trans d1⟩
noncomputable def KD {α:Type}:Sem α->Prop
 | .pure _=>True
 | .raise _=>True
 | .unsupported _=>True
 | .finish _=>True
 | .rule _ k=>KD (k ())
 | .at _ k=>KD (k ())
 | .load _ _ k=>∀o,KD (k o)
 | .update _ _ f k=>(∀o,(f o).dict=o.dict/\(o.isFreed=false->(f o).isFreed=false))/\KD (k ())
 | .alloc _ k=>∀a,KD (k a)
 | .loadIfAlive _ k=>∀o,KD (k o)
 | .point _ k=>KD (k ())
 | .fresh k=>∀t,KD (k t)
 | .ask k=>∀x,KD (k x)
 | .stack k=>∀l,KD (k l)
 | .handled _ k=>∀v,KD (k v)
 | _=>False
theorem KD.bind {α β:Type}{t:Sem α}{k:α->Sem β}(h:KD t)(hk:∀a,KD (k a)):KD (t >>= k):=by
 show KD (Sem.bind t k)
 induction t with
 | pure a=>exact hk a
 | raise e=>trivial
 | unsupported w=>trivial
 | finish e=>trivial
 | rule t f ih=>exact ih () h
 | «at» p f ih=>exact ih () h
 | load a p f ih=>exact fun o=>ih o (h o)
 | update a p f g ih=>exact⟨h.1,ih () h.2⟩
 | alloc o f ih=>exact fun a=>ih a (h a)
 | loadIfAlive a f ih=>exact fun o=>ih o (h o)
 | point l f ih=>exact ih () h
 | fresh f ih=>exact fun t=>ih t (h t)
 | ask f ih=>exact fun x=>ih x (h x)
 | stack f ih=>exact fun l=>ih l (h l)
 | handled o f ih=>exact fun v=>ih v (h v)
 | register=>exact h.elim
 | choose=>exact h.elim
 | os=>exact h.elim
 | call=>exact h.elim
 | newGen=>exact h.elim
 | genState=>exact h.elim
 | resume=>exact h.elim
 | yield=>exact h.elim
 | fork=>exact h.elim
 | thread=>exact h.elim
 | await=>exact h.elim
theorem KD.wp {α:Type}{M:Model}{Γ : PySem.Ctx}{t:Sem α}(h:KD t){h0:Heap}{Q:α->Pos->Shared->Prop}{E:Value->Pos->Shared->Prop}:∀{p:Pos}{s:Shared},DK h0 s.heap->Sem.wp M Γ t Q E p s->Sem.wp M Γ t (fun a p' s'=>Q a p' s'/\DK h0 s'.heap) E p s:=by
 induction t with
 | pure a=>exact fun d w=>⟨w,d⟩
 | raise e=>exact fun d w=>w
 | unsupported w=>exact fun d w=>w
 | finish e=>exact fun d w=>w
 | rule t f ih=>exact fun d w=>ih () h d w
 | «at» p f ih=>exact fun d w=>ih () h d w
 | load a p f ih=>
  intro p s d w
  obtain⟨o,e,w⟩:=w
  exact⟨o,e,ih o (h o) d w⟩
 | update a p f g ih=>
  intro p s d w
  obtain⟨e,w⟩:=w
  refine⟨e,ih () h.2 (d.trans fun b o q=>?_) w⟩
  by_cases c:b=a
  . subst c
    have fr:=(Heap.get?_some_iff.mp q).2
    exact⟨f o,zv f q ((h.1 o).2 fr),(h.1 o).1⟩
  . exact⟨o,(zAn _ _ (Ne.symm c)).trans q,rfl⟩
 | alloc o f ih=>
  intro p s d w
  exact ih _ (h _) (d.trans fun b o q=>⟨o,zI _ q,rfl⟩) w
 | loadIfAlive a f ih=>exact fun d w=>ih _ (h _) d w
 | point l f ih=>exact fun d w=>ih () h d w
 | fresh f ih=>exact fun d w=>ih _ (h _) d w
 | ask f ih=>exact fun d w=>ih _ (h _) d w
 | stack f ih=>exact fun d w=>ih _ (h _) d w
 | handled o f ih=>exact fun d w=>ih _ (h _) d w
 | register=>exact h.elim
 | choose=>exact h.elim
 | os=>exact h.elim
 | call=>exact h.elim
 | newGen=>exact h.elim
 | genState=>exact h.elim
 | resume=>exact h.elim
 | yield=>exact h.elim
 | fork=>exact h.elim
 | thread=>exact h.elim
 | await=>exact h.elim
theorem zDZ {α:Type}{M:Model}{A:Around}{t:Sem α}{Q:α->Shared->Prop}{E:Value->Shared->Prop}{s:Shared}(k:KD t)(h:wpAny M A t Q E s):wpAny M A t (fun a s'=>Q a s'/\DK s.heap s'.heap) E s:=
 fun Γ p hΓ => k.wp (DK.refl _) (h Γ p hΓ)
theorem zDj {α:Type}{c:Prop} [Decidable c] {a b:Sem α}(h1:KD a)(h2:KD b):KD (if c then a else b):=by split <;> assumption
theorem zHG (v:Value):KD (fieldsOf v):=by
 unfold fieldsOf
 split
 . refine KD.bind (fun o=>trivial) fun o=>?_
   split <;> trivial
 . trivial
theorem zEJ (v:Value)(i:Nat):KD (field v i):=by
 unfold field
 refine KD.bind (zHG v) fun vs=>?_
 split <;> trivial
theorem zKC (g:Array Value->Array Value)(o:Obj):(Obj.mapFields g o).dict=o.dict/\(o.isFreed=false->(Obj.mapFields g o).isFreed=false):=by
 obtain⟨c,d,dt,sl⟩:=o
 cases dt <;> exact⟨rfl,fun h=>h⟩
theorem zDU (v:Value)(i:Nat)(x:Value):KD (setField v i x):=by
 unfold setField
 split
 . unfold updateField
   refine KD.bind (fun o=>trivial) fun o=>?_
   split
   . exact zDj ⟨fun o=>zKC _ o,trivial⟩ trivial
   . trivial
 . trivial
theorem zC4 (e:Value)(f:Option Addr):KD (setFlight e f):=by
 unfold setFlight
 refine KD.bind (zEJ e 1) fun tb=>zDj (zDU _ _ _) trivial
theorem zGa:KD frameEnvs:=by
 unfold frameEnvs
 exact KD.bind (fun l=>trivial) fun l=>trivial
theorem zJz (env:Env)(l:List Env):KD (behindIsImport env l):=by
 unfold behindIsImport
 exact zDj trivial (zDj trivial (KD.bind (zEJ _ _) fun _=>trivial))
theorem zMl (env:Env)(b:Bool)(l:List Env):KD (keptBack env b l):=by
 unfold keptBack
 split
 . refine zDj trivial ?_
   refine KD.bind ?_ fun _=>trivial
   unfold underTheClaimsCaller
   exact KD.bind (fun l=>trivial) fun l=>trivial
 . trivial
theorem zHt:∀l:List Env,KD (readyFrames l)
 | []=>trivial
 | env::outer=>by
  unfold readyFrames
  split
  . refine KD.bind (fun o=>trivial) fun o=>?_
    refine zDj trivial ?_
    refine KD.bind (zJz _ _) fun b=>?_
    refine KD.bind (zMl _ _ _) fun b=>?_
    refine KD.bind ⟨fun o=>⟨rfl,fun h=>(by obtain⟨c,d,dt,sl⟩:=o;cases dt <;> exact h)⟩,trivial⟩ fun _=>zHt outer
  . trivial
theorem zIg (env:Env):KD (PySem.frameOf env):=by
 unfold PySem.frameOf
 refine KD.bind zGa fun l=>?_
 refine KD.bind ?_ fun r=>?_
 . unfold frameObject
   split
   . trivial
   . exact KD.bind (zHt _) fun _=>trivial
 . split <;> trivial
theorem zLC (f:Addr)(b:Bool):KD (entryPlaceOf f b):=by
 unfold entryPlaceOf
 refine KD.bind (fun l=>trivial) fun l=>?_
 split <;> trivial
theorem zLD (a b c d e:Value)(l:List Value):KD (EntryCells.newEntry a b c d e l):=by
 unfold EntryCells.newEntry newFields newObj
 have fin:∀d:Data,KD (newObjAsIs (.type "traceback") d):=fun d=>by
  unfold newObjAsIs
  exact KD.bind (fun a=>trivial) fun a=>trivial
 simp only[]
 exact zDj (KD.bind trivial fun _=>fin _) (fin _)
theorem zJy (e:Value)(env:Env):KD (noteFrame e env):=by
 unfold noteFrame
 split
 . refine KD.bind (zEJ _ _) fun hd=>?_
   have fin:∀f:Addr,KD (do setField e 1 (<-EntryCells.newEntry hd (<-PySem.frameOf env) .none (rawInt f) .none (<-entryPlaceOf f (hd != .none)))):=fun f=>
    KD.bind (zIg env) fun a=>KD.bind (zLC _ _) fun pl=>KD.bind (zLD _ _ _ _ _ _) fun b=>zDU _ _ _
   refine zDj ?_ (fin _)
   refine KD.bind (zEJ _ _) fun x=>zDj trivial ?_
   exact KD.bind (zDU _ _ _) fun _=>fin _
 . trivial
theorem zFU (env:Env)(e:Value):KD (leaving env e):=KD.bind (zJy e env) fun _=>zC4 e none
end L2
namespace L2
open PySem PySem.Spec PyProof.Rows
noncomputable def zKc (K:PySem.W.Frag)(C:Addr):Bool:=match K.lookup C with
 | some ⟨.type "type",_,.cls u,z⟩=>
  match u.mro,z.toList with
  | .ref D::b,[_,_,_,_,some (.builtin m),_]=>D==C && m == "ValueError.__new__" && !u.hasDel && PySem.W.tailIn K bmV b && PySem.W.nsOkIn K u.ns && u.hasDict
  | _,_=>false
 | _=>false
theorem zCw {K:PySem.W.Frag}{h:Heap}{C:Addr}(X:K.In h)(q:zKc K C=true) :
 ∃bm N nm qn bs sn sub ab col dd k0 k1 k2 k3 k5 mN,h.get? C=some (excClassObj nm qn C N bs bm true sn sub ab col dd k0 k1 k2 k3 k5 "ValueError.__new__")/\h.Ns N mN/\OwnTail h bmV bm:=by
 unfold zKc at q
 split at q
 . next dd cd sl look=>
   split at q
   . next D bm k0 k1 k2 k3 n k5 em es=>
     simp only[zAC,beq_iff_eq,Bool.not_eq_true'] at q
     obtain⟨⟨⟨⟨⟨q1,q2⟩,q3⟩,q4⟩,q5⟩,q6⟩:=q
     subst q1 q2
     cases cd
     simp only at em q3 q5 q6
     subst em q3 q6
     cases sl
     simp only at es
     subst es
     exact⟨_,_,_,_,_,_,_,_,_,_,_,_,_,_,_,_,X _ _ look,.of_isNs (PySem.W.isNs_of_in X q5),PySem.W.tail_of_in X q4⟩
   . cases q
 . cases q
structure zHS (K:PySem.W.Frag)(C fI:Addr):Prop where
 cl:zKc K C=true
 ini:PySem.W.findIn K (.ref C) "__init__" = some (some (.ref fI))
 fn:PySem.W.isFn K (.ref fI)=true
 sa:PySem.W.findIn K (.ref C) "__setattr__" = some (some (.builtin "object.__setattr__"))
 kp:PySem.W.keepIn K (.ref C)=true
noncomputable def zFZ (C t:Addr)(od:Option Addr):Obj:={ cls:=.ref C,dict:=od,data:=.fields #[.ref t,.none,.none,.none,.bool false,.none] }
noncomputable def xTup (us:List Value):Obj:={ cls:=.type "tuple",data:=.seq us.toArray }
section
variable {prog:Program}{w:World}{A:Around}{E:Value->Shared->Prop}{h:Heap}{g:Array GenState}{d:Drawn}{t:Nat}{os:OsState}{K:PySem.W.Frag}{C fI:Addr}{us:List Value}
noncomputable def zLI (h:Heap)(C:Addr)(us:List Value):Heap:=(h.push (xTup us)).push (zFZ C h.objs.size none)
theorem zGc (h:Heap)(C:Addr)(us:List Value):∀b o,h.get? b=some o->(zLI h C us).get? b=some o:=fun _ _ e=>zI _ (zI _ e)
theorem zLw (h:Heap)(C:Addr)(us:List Value):(zLI h C us).get? (h.objs.size+1)=some (zFZ C h.objs.size none):=Heap.get?_push_at (by rw[zA0]) rfl
theorem zJq {Q:PySem.Fin->Shared->Prop}(X:K.In h)(I:zHS K C fI)(hz:us.length<=sizeLine)
 (hq:wpAny (model prog w) A (call (.ref fI) (.ref (h.objs.size+1)::us)) (fun r s'=>r = .none/\Q (.done (.ret (.ref (h.objs.size+1)))) s') E ⟨zLI h C us,g,d,t,os⟩) :
 wpAny (model prog w) A (Builtin.«type.__call__» ⟨.ref C::us,[]⟩) Q E ⟨h,g,d,t,os⟩:=by
 obtain⟨bm,N,nm,qn,bs,sn,sub,ab,col,dd,k0,k1,k2,k3,k5,mN,hC,hN,T⟩:=zCw X I.cl
 have F:=PySem.F.excBase_ValueError
 repeat (first | with_reducible refine zAa hC ?_ | with_reducible refine wpAny_madeBy_exc hC ?_ | wp_step)
 refine codeAny_call_builtin_code (Code.quiet_builtin _ F.quiet) (wpAny_check_new_subT F T hC (codeAny_exc_new_subT F T hC ?_ hz))
 show wpAny _ _ _ _ _ ⟨zLI h C us,g,d,t,os⟩
 have hC1:=zGc h C us _ _ hC
 have he1:(zLI h C us).get? (h.objs.size+1)=some { cls:=.ref C,data:=.fields #[.ref h.objs.size,.none,.none,.none,.bool false,.none] }:=zLw h C us
 have X1:K.In (zLI h C us):=X.keeps (zGc h C us)
 have own:(Value.ref C::bm).contains (.ref C)=true:=by simp
 unfold isInstance
 repeat (first | with_reducible refine zAa he1 ?_ | (with_reducible refine wpAny_isSubtype_exc hC1 ?_;rw[own]) | wp_step)
 have L:=PySem.W.looks_findIn (M:=model prog w) X1 I.ini
 refine L.at ?_
 refine zx (zA ?_)
 refine (PySem.W.bind_fn (M:=model prog w) X1 (.ref (h.objs.size+1)) (beq_iff_eq.mp I.fn)).at ?_
 refine zA (zAJ hq (fun r s' hr=>?_) fun _ _ z=>z)
 obtain⟨rfl,hQ⟩:=hr
 wp_walk
 exact hQ
theorem zKS {Q:Value->Shared->Prop}(X:K.In h)(I:zHS K C fI)(hz:us.length<=sizeLine)
 (hq:wpAny (model prog w) (A.under (.builtin "type.__call__" ⟨.ref C::us,[]⟩)) (call (.ref fI) (.ref (h.objs.size+1)::us)) (fun r s'=>r = .none/\Q (.ref (h.objs.size+1)) s') E ⟨zLI h C us,g,d,t,os⟩) :
 wpAny (model prog w) A (call (.ref C) us) Q E ⟨h,g,d,t,os⟩:=by
 obtain⟨bm,N,nm,qn,bs,sn,sub,ab,col,dd,k0,k1,k2,k3,k5,mN,hC,hN,T⟩:=zCw X I.cl
 have f1:=tc_lookup
 have f2:=tc_bind (.ref C)
 have hT:(⟨h,g,d,t,os⟩:Shared).TypeIs (.ref C) "type" := ⟨_,hC,rfl⟩
 refine zB7 (codeAny_of_tree ?_)
 show wpAny _ _ (callAny (.ref C) _) _ _ _
 repeat (any_goals (first | assumption | with_reducible refine zAa hC ?_ | wp_step))
 refine⟨rfl,?_⟩
 exact codeAny_call_builtin_at (Code.quiet_builtin _ (by decide +kernel)) entry_typeCall (wpAny_check_type_call_sub hC (zJq X I hz hq))
end
end L2
namespace L2
open PySem PySem.Spec PyProof.Rows
theorem zEV {h:Heap}{bm:List Value}(T:OwnTail h bmV bm)(self:Value):refuseLoop self "__setattr__" bm=pure ():=by
 induction T with
 | base=>exact PySem.F.store_ValueError.passes self
 | own _ _ _ _ ih=>rw[refuseLoop_ref];exact ih
section
variable {prog:Program}{w:World}{A:Around}{E:Value->Shared->Prop}{h:Heap}{g:Array GenState}{d:Drawn}{t:Nat}{os:OsState}{K:PySem.W.Frag}{C fI x tt:Addr}{name:Str}{v:Value}
theorem zJE {M:Model}{od:Option Addr}{nameV:Value}{Q:Unit->Shared->Prop}(X:K.In h)(mo:PySem.W.mroIn K C (.type "object")=some true) (hx:h.get? x=some (zFZ C tt od))(hq:Q () ⟨h,g,d,t,os⟩) :
 wpAny M A (checkBuiltinCall "object.__setattr__" ⟨[.ref x,nameV,v],[]⟩) Q E ⟨h,g,d,t,os⟩:=by
 have L0:=(show zD4 h x C from ⟨_,hx,rfl⟩).type (M:=M)
 have L1:=PySem.W.looks_mroIn (M:=M) X mo
 have ha:=PySem.F.store_ValueError.args (.ref x) nameV v
 have e1:=PySem.F.store_ValueError.kind
 have e2:=PySem.F.store_ValueError.split
 simp only[checkBuiltinCall,e1,e2]
 refine zA ?_
 unfold isInstance
 repeat (any_goals (first | assumption | with_reducible refine L0.at ?_ | with_reducible refine L1.at ?_ | wp_step))
theorem zLh {M:Model}{tk:Tok}{dx:Addr}{mA:Str->Option Value}{ns:List Str}{Q:PySem.Fin->Shared->Prop}(hns:h.Ns1 dx mA)(hw:PySem.Within mA ns)(hz:ns.length<1000)
 (hq:∀h' tk',h'.Ns1 dx (fun y=>if y=name then some v else mA y)->(∀b,b≠dx->h'.get? b=h.get? b)->Q (.done (.ret .none)) ⟨h',g,d,tk',os⟩) :
 wpAny M A (Builtin.ObjectAttr.storeInDict dx (.str name tk) name v) Q E ⟨h,g,d,t,os⟩:=by
 unfold Builtin.ObjectAttr.storeInDict Builtin.ObjectAttr.newKeyGuard
 refine zA (zD (zA (wpAny_nsSet1 hns fun h' hn' hs=>?_)))
 obtain⟨oD,esD,epD,hoD,hdD,hcD⟩:=hn'.count (Within.cons name v hw)
 refine zA (wpAny_lookBehind hoD (by rw[hdD];exact pastItsLine_dict (zz hcD (by rw[zY,sizeLine_eq];omega))) ?_)
 wp_walk
 exact hq h' _ hn' fun b hb=>hs.2 b hb
theorem zIP {tk:Tok}{Q:PySem.Fin->Shared->Prop}(X:K.In h)(I:zHS K C fI)(nm:PySem.W.findIn K (.ref C) name=some none)(hx:h.get? x=some (zFZ C tt none))
 (hq:∀h' tk',h'.get? x=some (zFZ C tt (some h.objs.size))->h'.Ns1 h.objs.size (fun y=>if y=name then some v else none)->(∀b o,b≠x->h.get? b=some o->h'.get? b=some o)->Q (.done (.ret .none)) ⟨h',g,d,tk',os⟩) :
 wpAny (model prog w) A (Builtin.«object.__setattr__» ⟨[.ref x,.str name tk,v],[]⟩) Q E ⟨h,g,d,t,os⟩:=by
 obtain⟨bm,N,nmm,qn,bs,sn,sub,ab,col,dd,k0,k1,k2,k3,k5,mN,hC,hN,T⟩:=zCw X I.cl
 have pass:=zEV T (.ref x)
 obtain⟨o,ho⟩:∃o,o=zFZ C tt none:=⟨_,rfl⟩
 rw[<-ho] at hx
 have hc:o.cls = .ref C:=by rw[ho];rfl
 have hdn:o.dict=none:=by rw[ho];rfl
 have L:=PySem.W.looks_findIn (M:=model prog w) X nm
 unfold Builtin.«object.__setattr__»
 repeat (first | rw[refuse_eq] | (rw[refuseLoop_ref,pass]) | (with_reducible refine zAa hx ?_;rw[hc]) | with_reducible refine wpAny_mroOf_exc hC ?_ | with_reducible refine L.at ?_ | wp_step)
 have hdt:o.data = .fields #[.ref tt,.none,.none,.none,.bool false,.none]:=by rw[ho];rfl
 have hx1:=zI { cls:=.type "dict",data:=.dict #[] } hx
 have xs:x≠h.objs.size:=zh (zW hx)
 rw[hdn,hdt]
 refine zA (wpAny_alloc' (zA (wpAny_update' hx1 (zD ?_))))
 have fr:(zFZ C tt (some h.objs.size)).isFreed=false:=rfl
 have up:((h.push { cls:=.type "dict",data:=.dict #[] }).update x fun o=>{ cls:=o.cls,dict:=some h.objs.size,data:=o.data,slots:=o.slots }).get? x=some (zFZ C tt (some h.objs.size)):=by
  have:=zv (fun o:Obj=>{ cls:=o.cls,dict:=some h.objs.size,data:=o.data,slots:=o.slots }) hx1 (by rw[ho];rfl)
  rw[this,ho];rfl
 have nd:((h.push { cls:=.type "dict",data:=.dict #[] }).update x fun o=>{ cls:=o.cls,dict:=some h.objs.size,data:=o.data,slots:=o.slots }).get? h.objs.size=some { cls:=.type "dict",data:=.dict #[] }:=
  (zAn _ _ xs).trans (Heap.get?_push_at rfl rfl)
 refine zLh (Heap.Ns1.of_empty ⟨_,#[],_,nd,rfl,fun e he=>absurd he (by simp),fun _=>rfl⟩) Within.nil (by decide) fun h' tk' n' same=>?_
 refine hq h' tk' ((same x xs).trans up) n' fun b ob hb e=>?_
 rw[same b (zh (zW e)),zAn _ _ (Ne.symm hb)]
 exact zI _ e
theorem zIO {tk:Tok}{dx:Addr}{mA:Str->Option Value}{ns:List Str}{Q:PySem.Fin->Shared->Prop}(X:K.In h)(I:zHS K C fI)(nm:PySem.W.findIn K (.ref C) name=some none)(hx:h.get? x=some (zFZ C tt (some dx)))
 (hns:h.Ns1 dx mA)(hw:PySem.Within mA ns)(hz:ns.length<1000)
 (hq:∀h' tk',h'.Ns1 dx (fun y=>if y=name then some v else mA y)->(∀b,b≠dx->h'.get? b=h.get? b)->Q (.done (.ret .none)) ⟨h',g,d,tk',os⟩) :
 wpAny (model prog w) A (Builtin.«object.__setattr__» ⟨[.ref x,.str name tk,v],[]⟩) Q E ⟨h,g,d,t,os⟩:=by
 obtain⟨bm,N,nmm,qn,bs,sn,sub,ab,col,dd,k0,k1,k2,k3,k5,mN,hC,hN,T⟩:=zCw X I.cl
 have pass:=zEV T (.ref x)
 obtain⟨o,ho⟩:∃o,o=zFZ C tt (some dx):=⟨_,rfl⟩
 rw[<-ho] at hx
 have hc:o.cls = .ref C:=by rw[ho];rfl
 have hdn:o.dict=some dx:=by rw[ho];rfl
 have L:=PySem.W.looks_findIn (M:=model prog w) X nm
 unfold Builtin.«object.__setattr__»
 repeat (first | rw[refuse_eq] | (rw[refuseLoop_ref,pass]) | (with_reducible refine zAa hx ?_;rw[hc]) | with_reducible refine wpAny_mroOf_exc hC ?_ | with_reducible refine L.at ?_ | wp_step)
 rw[hdn]
 exact zD (zLh hns hw hz hq)
theorem zHa {od:Option Addr}{Pr:Heap->Prop}{Q:Unit->Shared->Prop}(X:K.In h)(I:zHS K C fI)(mo:PySem.W.mroIn K C (.type "object")=some true) (hx:h.get? x=some (zFZ C tt od))
 (ent:∀(A':Around)(E':Value->Shared->Prop)(tk:Tok)(t':Nat)(Q':PySem.Fin->Shared->Prop),(∀h' tk',Pr h'->Q' (.done (.ret .none)) ⟨h',g,d,tk',os⟩)->wpAny (model prog w) A' (Builtin.«object.__setattr__» ⟨[.ref x,.str name tk,v],[]⟩) Q' E' ⟨h,g,d,t',os⟩)
 (hq:∀h' tk',Pr h'->Q () ⟨h',g,d,tk',os⟩):wpAny (model prog w) A (setAttr (.ref x) name v) Q E ⟨h,g,d,t,os⟩:=by
 have SF:=PySem.F.store_ValueError
 have f3:=SF.slot.bind (.ref x)
 have L0:=(show zD4 h x C from ⟨_,hx,rfl⟩).type (M:=model prog w)
 have L1:=PySem.W.looks_findIn (M:=model prog w) X I.sa
 unfold setAttr callSpecial? specialOf
 repeat (any_goals (first | assumption | with_reducible refine L0.at ?_ | with_reducible refine L1.at ?_ | wp_step))
 refine codeAny_call_builtin SF.slot.plain SF.entry (zJE X mo hx (ent _ _ _ _ _ fun h' tk' p=>?_))
 repeat (any_goals (first | assumption | wp_step))
 exact hq h' tk' p
end
end L2
namespace L2
open PySem PySem.Spec PyProof.Rows
noncomputable def xO (e C t:Addr)(od:Option Addr):HO:=.ext fun h=>h.get? e=some (zFZ C t od)
noncomputable def dO (dx:Addr)(fs:List (Str×V)):HO:=.ext fun h=>∃mA,h.Ns1 dx mA/\(∀f,zF9 (fs.lookup f) (mA f))/\PySem.Within mA (fs.map (·.1))
section
variable {P:Program}{w:World}{H:Hp}{h:Heap}{e C t dx:Addr}{od:Option Addr}{fs:List (Str×V)}
theorem xO_ok (hx:h.get? e=some (zFZ C t od)):zBY P w H h e (xO e C t od):=⟨hx,⟨_,hx⟩,fun _ _ p k=>k _ p⟩
theorem dO_ok {mA:Str->Option Value}(hn:h.Ns1 dx mA)(r:∀f,zF9 (fs.lookup f) (mA f))(wi:PySem.Within mA (fs.map (·.1))):zBY P w H h dx (dO dx fs):=
 ⟨⟨mA,hn,r,wi⟩,let ⟨o,_,_,q,_⟩:=hn;⟨o,q⟩,fun _ _ ⟨m,⟨o,es,ep,q,z⟩,r,wi⟩ k=>⟨m,⟨o,es,ep,k _ q,z⟩,r,wi⟩⟩
theorem HOk.add {a:Addr}{o:HO}(x:HOk P w H h)(hn:H a=none)(new:zBY P w (upd H a o) h a o):HOk P w (upd H a o) h:=fun b u e=>by
 by_cases hb:b=a
 . subst hb;rw[zK] at e;cases e;exact new
 . rw[zf hb] at e
   exact (x b u e).stay (fun c v _ q=>q) (fun c q=>by rw[zf (zo q hn)];exact q) fun c xs q=>by rw[zf (zo q hn)];exact q
theorem zKj {a b:Addr}{o u:HO}(n:a≠b):upd (upd H a o) b u=upd (upd H b u) a o:=by
 funext c
 by_cases h1:c=a
 . subst h1;rw[zK,zf n,zK]
 . by_cases h2:c=b
   . subst h2;rw[zK,zf h1,zK]
   . rw[zf h2,zf h1,zf h1,zf h2]
end
section
variable {X:Cx}{pins:List (Addr×Obj)}{σ:St}{H:Hp}{s:Shared}{A:Around}{E:Value->Shared->Prop}{e C t fI:Addr}{f:Str}{y:V}{u:Value}{Q:Unit->Shared->Prop}
theorem zKr (I:Inv X pins σ H s)(EI:zHS X.K C fI)(mo:PySem.W.mroIn X.K C (.type "object")=some true) (nm:PySem.W.findIn X.K (.ref C) f=some none)(he:H e=some (xO e C t none))(ry:zBe y u)
 (h:∀dx s',H dx=none->Inv X pins σ (upd (upd H dx (dO dx [(f,y)])) e (xO e C t (some dx))) s'->Q () s'):wpAny (model X.prog X.w) A (setAttr (.ref e) f u) Q E s:=by
 obtain⟨hp,g,d,tk,os⟩:=s
 have hx:hp.get? e=some (zFZ C t none):=(I.hok e _ he).1
 refine zHa (Pr:=fun h'=>h'.get? e=some (zFZ C t (some hp.objs.size))/\h'.Ns1 hp.objs.size (fun y=>if y=f then some u else none)/\(∀b o,b≠e->hp.get? b=some o->h'.get? b=some o)) I.kIn EI mo hx
  (fun A' E' tk' t' Q' k=>zIP I.kIn EI nm hx fun h' tk2 a b c=>k h' tk2 ⟨a,b,c⟩) fun h' tk' ⟨a,b,c⟩=>?_
 have hn:H hp.objs.size=none:=I.hok.fresh (zH _)
 have ne:e≠hp.objs.size:=zh (zW hx)
 refine h hp.objs.size _ hn ?_
 have mu:Mut ((upd H hp.objs.size (dO hp.objs.size [(f,y)])) e):=by rw[zf ne,he];exact True.intro
 have mu':Mut (H e):=by rw[he];exact True.intro
 refine I.un (h':=h') (t':=tk') ((Un.laid (h':=hp) (fun _ _ q=>q) (zH _) hn).trans (Un.write mu (.inl rfl) c ⟨_,a⟩)) ?_
 rw[zKj (Ne.symm ne)]
 refine HOk.add (I.hok.write mu' (.inl rfl) c ⟨_,a⟩ (xO_ok a)) (by rw[zf (Ne.symm ne)];exact hn) (dO_ok b (fun g=>?_) (fun g hg=>?_))
 . show zF9 (List.lookup g [(f,y)]) (if g=f then some u else none)
   by_cases q:g=f
   . subst q;rw[if_pos rfl,List.lookup_cons_self];exact ry
   . rw[if_neg q,zBd,show (g==f)=false from by simpa using q];trivial
 . by_cases q:g=f
   . subst q;exact zT
   . exact absurd (by show (if g=f then some u else none)=none;rw[if_neg q]) hg
theorem zKq {dx:Addr}{fs:List (Str×V)}(I:Inv X pins σ H s)(EI:zHS X.K C fI)(mo:PySem.W.mroIn X.K C (.type "object")=some true) (nm:PySem.W.findIn X.K (.ref C) f=some none)(he:H e=some (xO e C t (some dx)))(hd:H dx=some (dO dx fs))(hl:fs.length<900)(ry:zBe y u)
 (h:∀s',Inv X pins σ (upd H dx (dO dx (zIs f y fs))) s'->Q () s'):wpAny (model X.prog X.w) A (setAttr (.ref e) f u) Q E s:=by
 obtain⟨hp,g,d,tk,os⟩:=s
 have hx:hp.get? e=some (zFZ C t (some dx)):=(I.hok e _ he).1
 obtain⟨mA,hns,r,wi⟩:=(I.hok dx _ hd).1
 refine zHa (Pr:=fun h'=>h'.Ns1 dx (fun y=>if y=f then some u else mA y)/\(∀b,b≠dx->h'.get? b=hp.get? b)) I.kIn EI mo hx
  (fun A' E' tk' t' Q' k=>zIO I.kIn EI nm hx hns wi (by rw[zE];omega) fun h' tk2 a b=>k h' tk2 ⟨a,b⟩) fun h' tk' ⟨a,b⟩=>?_
 refine h _ ?_
 have mu:Mut (H dx):=by rw[hd];exact True.intro
 refine I.write (x:=dx) (e:=dx) (t':=tk') mu (.inl rfl) (fun b_ u' hb q=>(b b_ hb).trans q) (let ⟨o,_,_,q,_⟩:=a;⟨o,q⟩) (dO_ok a (fun g=>?_) (fun g hg=>?_))
 . show zF9 ((zIs f y fs).lookup g) (if g=f then some u else mA g)
   rw[zEj]
   by_cases q:g=f
   . rw[if_pos q,if_pos q];exact ry
   . rw[if_neg q,if_neg q];exact r g
 . by_cases q:g=f
   . rw[q];exact (zEp f y fs).1
   . refine (zEp f y fs).2 g (wi g fun z=>hg ?_)
     show (if g=f then some u else mA g)=none
     rw[if_neg q];exact z
end
end L2
namespace L2
open PySem PySem.Spec PyProof.Rows
noncomputable def sFldX (C:Addr)(f:Str)(ta tv:TE):TS:=fun D σ H=>tv σ H fun y H1=>ta σ H1 fun x H2=>∃e t,x = .ref e /\
 ((H2 e=some (xO e C t none)/\∀dx,H2 dx=none->D.nx σ (upd (upd H2 dx (dO dx [(f,y)])) e (xO e C t (some dx)))) \/
  ∃dx fs,H2 e=some (xO e C t (some dx))/\H2 dx=some (dO dx fs)/\fs.length<900/\D.nx σ (upd H2 dx (dO dx (zIs f y fs))))
section
variable {X:Cx}{o value:Expr}{ta tv:TE}{f:Str}{C fI:Addr}{pos pos':Pos}
theorem zJQ (EI:zHS X.K C fI)(mo:PySem.W.mroIn X.K C (.type "object")=some true) (nm:PySem.W.findIn X.K (.ref C) f=some none)(ha:PE X o ta)(hv:PE X value tv)(hs:swapsWith value (some (.Attribute o f pos')) pos.line X.env=pure false:=by rfl) :
 PS X (.Assign [.Attribute o f pos'] value pos) (sFldX C f ta tv):=by
 intro pins s σ H D I h
 refine plainObj_wpAny_Assign_Attribute (thn (hv pins s σ H _ I h) fun u s1 ⟨y,H1,I1,ry,q⟩=>thn (ha pins s1 σ H1 _ I1 q) fun ov s2 ⟨x,H2,I2,rx,e,t,ex,q2⟩=>?_) hs
 subst ex
 obtain rfl:ov=Value.ref e:=rx
 rcases q2 with ⟨he,q⟩ | ⟨dx,fs,he,hd,hl,q⟩
 . exact zKr I2 EI mo nm he ry fun dx s3 n I3=>⟨σ,_,I3,q dx n⟩
 . exact zKq I2 EI mo nm he hd hl ry fun s3 I3=>⟨σ,_,I3,q⟩
end
noncomputable def spXI (C:Addr)(f1 f2:Str):Sp:=fun vs H Q _=>∃(e t:Addr)(v1 v2:V),vs=[.ref e,v1,v2]/\H e=some (xO e C t none)/\∀dx,H dx=none->dx≠e->Q .non (upd (upd H dx (dO dx [(f1,v1),(f2,v2)])) e (xO e C t (some dx)))
noncomputable def FlyD (B:Heap)(l:List Env)(e:Addr)(C a0:Value)(od:Option Addr)(h:Heap):Prop:=Heap.FlyingW B l e C a0 h/\∃o,h.get? e=some o/\o.dict=od
theorem FlyD.step {B h h':Heap}{l l':List Env}{e:Addr}{C a0:Value}{od:Option Addr}(x:FlyD B l e C a0 od h)(f:Heap.FlyingW B l' e C a0 h')(k:DK h h'):FlyD B l' e C a0 od h':=by
 obtain⟨_,o,q,r⟩:=x
 obtain⟨o',q',r'⟩:=k e o q
 exact⟨f,o',q',r'.trans r⟩
noncomputable def CXI (P:Program)(w:World):CXT:=fun outer H s E e s'=>
 ∃(ea t:Addr)(C:Value)(od:Option Addr)(H':Hp)(B:Heap),e = .ref ea/\s'.os=s.os/\AllBare s'.gens/\Un (frs outer) [] H H' s.heap s'.heap/\HOk P w H' s'.heap /\
  FlyD B outer ea C (.ref t) od s'.heap/\(∀b u,H' b=some u->∃o,B.get? b=some o)/\(∀b o,s.heap.get? b=some o->H b=none->b∉frs outer->B.get? b=some o)/\(∀b o,s.heap.get? b=some o->b∉frs outer->∃o',B.get? b=some o')/\E C od H'
section
variable {P:Program}{w:World}{K:PySem.W.Frag}{mg:Str->Option Value}{base:Heap}{N:List Str}{qual:Str}{scope:Scope}{f:Addr}{cd:Value}{A:Around}{outer:List Env}{s0 s:Shared}{H0 H:Hp}{E:XK}{pins:List (Addr×Obj)}{σ:St}
theorem zJO {ea t:Addr}{oe:Obj}{C:Value}{vs:Array Value}(I:Inv (zH8 (CXI P w) P w K mg base N qual scope f cd A outer s0 H0 E) pins σ H s)(he:s.heap.get? ea=some oe)(hc:oe.cls=C)(hd:oe.data = .fields vs)(h1:vs[1]? = some .none)(h0:vs[0]? = some (.ref t))(hn:H ea=none)(h00:s0.heap.get? ea=none)(hE:E C oe.dict H) :
 (zH8 (CXI P w) P w K mg base N qual scope f cd A outer s0 H0 E).xe (.ref ea) s:=by
 subst hc
 let fr:List Addr:=(envOfC qual scope s0.heap.objs.size f cd::outer).filterMap (·.frame)
 have hin:∀env∈(envOfC qual scope s0.heap.objs.size f cd::outer),∀a,env.frame=some a->a∈ea::fr:=fun env he b hb=>zN _ (List.mem_filterMap.mpr ⟨env,he,hb⟩)
 have ff:=PySem.W.funFrames_hide I.stack hin
 have off:ea∉fr:=fun z=>by
  obtain⟨_,o,ho,nd⟩:=I.stack.mem z
  rw[he] at ho
  cases ho
  exact nd vs hd
 refine zAJ (zDZ (zFU _ _) (wpAny_leaving_firstW (Q:=fun _ s'=>∃h',s'={ s with heap:=h' }/\Heap.LeftW (PySem.W.hideAll s.heap (ea::fr)) (envOfC qual scope s0.heap.objs.size f cd::outer) ea oe.cls (.ref t) s.heap h') (base:=PySem.W.hideAll s.heap (ea::fr)) I.ok.frames ff rfl he (fun b o q=>PySem.W.of_hideAll _ q) (PySem.W.hideAll_none _ zT) hd h1 h0 fun h' L=>⟨h',rfl,L⟩)) (fun _ s' hq=>?_) fun _ _ z=>z
 obtain⟨⟨h'',rfl,L1,⟨_,_,L2'⟩,L3,up⟩,dk⟩:=hq
 have st:(PySem.W.hideAll s.heap (ea::fr)).StaysIn h'':=L1
 have stk:∀b,b∈fr->b=s0.heap.objs.size\/b∈frs outer:=fun b z=>zR.mp (I.stkSub b z)
 have hid:∀b o,s.heap.get? b=some o->b≠ea->b∉fr->(PySem.W.hideAll s.heap (ea::fr)).get? b=some o:=fun b o q n z=>PySem.W.hideAll_get _ q fun y=>by
  rcases zR.mp y with y | y
  . exact n y
  . exact z y
 have nea:∀b o,s0.heap.get? b=some o->b≠ea:=fun b o q z=>by rw[z,h00] at q;cases q
 have nfr:∀b o,s0.heap.get? b=some o->b∉frs outer->b∉fr:=fun b o q hb z=>by
  rcases stk b z with y | y
  . exact absurd (zW q) (by rw[y];exact Nat.not_lt_of_le (zH _))
  . exact hb y
 have old:∀b o,s0.heap.get? b=some o->H0 b=none->b∉frs outer->(PySem.W.hideAll s.heap (ea::fr)).get? b=some o:=fun b o e n hb=>
  hid b o (I.base.keep b o e n hb (by intro z;cases z)) (nea b o e) (nfr b o e hb)
 have al:∀b o,s0.heap.get? b=some o->b∉frs outer->∃o',(PySem.W.hideAll s.heap (ea::fr)).get? b=some o':=fun b o e hb=>by
  obtain⟨o1,e1⟩:=I.base.there b o e (by intro z;cases z)
  exact⟨o1,hid b o1 e1 (nea b o e) (nfr b o e hb)⟩
 have tr:∀b u,H b=some u->∃o,(PySem.W.hideAll s.heap (ea::fr)).get? b=some o:=fun b u e=>by
  obtain⟨o,ho⟩:=(I.hok b u e).there
  refine⟨o,hid b o ho (fun z=>by rw[z,hn] at e;cases e) fun z=>?_⟩
  have:=I.stkFree b z
  rw[e] at this
  cases this
 obtain⟨o',q',r'⟩:=dk ea oe he
 refine⟨ea,t,oe.cls,oe.dict,H,_,rfl,I.os,I.bare,⟨fun b o e n hb hx'=>st b o (old b o e n hb),fun b o e n hb hx'=>?_,I.base.free,fun b o e hx'=>?_,I.base.tups,I.base.frzs,I.base.tbls⟩,I.hok.stays (fun b o q=>PySem.W.of_hideAll _ q) st tr,⟨⟨L1,PySem.W.hideAll_none _ zT,L2',L3⟩,o',q',r'⟩,tr,old,al,hE⟩
 . obtain⟨sl,e1⟩:=I.base.slot b o e n hb (by intro z;cases z)
   obtain⟨_,o2,e2,nd⟩:=I.stack.mem (show b∈fr from zN _ hb)
   have e3:o2={ o with slots:=sl }:=zm (e2.symm.trans e1)
   obtain⟨sl2,e4⟩:=up b _ e1 (fun vs=>by rw[<-e3];exact nd vs)
   exact⟨sl2,e4⟩
 . obtain⟨o1,e1⟩:=I.base.there b o e (by intro z;cases z)
   by_cases hb:b∈fr
   . obtain⟨_,o2,e2,nd⟩:=I.stack.mem hb
     obtain⟨sl2,e4⟩:=up b _ e2 nd
     exact⟨_,e4⟩
   . exact⟨_,st b _ (hid b o1 e1 (nea b o e) hb)⟩
end
end L2
namespace L2
open PySem PySem.Spec PyProof.Rows
section
variable {P:Program}{w:World}{K:PySem.W.Frag}{mg:Str->Option Value}{base:Heap}{N:List Str}{qual:Str}{scope:Scope}{f:Addr}{cd:Value}{A:Around}{outer:List Env}{s0 s:Shared}{H0 H:Hp}{E:XK}{pins:List (Addr×Obj)}{σ:St}
theorem zMW {E1:XK}{e:Value}{s':Shared}(I:Inv (zH8 (CXI P w) P w K mg base N qual scope f cd A outer s0 H0 E) pins σ H s)(h:CXI P w (envOfC qual scope s0.heap.objs.size f cd::outer) H s E1 e s')
 (imp:∀C d H',E1 C d H'->E C d H'):(zH8 (CXI P w) P w K mg base N qual scope f cd A outer s0 H0 E).xe e s':=by
 obtain⟨ea,t,C,od,H',B,rfl,os,bare,un,hok,fl,tr,old,al,hE⟩:=h
 refine zAJ (zDZ (zFU _ _) (wpAny_leaves_onW (Q:=fun _ s2=>∃h',s2={ s' with heap:=h' }/\Heap.FlyingW B outer ea C (.ref t) h'/\s'.heap.UpToSlots h') I.ok.frames rfl fl.1 fun h' f2 u=>⟨h',rfl,f2,u⟩)) (fun _ s2 hq=>?_) fun _ _ z=>z
 obtain⟨⟨h'',rfl,fl2,up⟩,dk⟩:=hq
 have st:B.StaysIn h'':=fl2.1
 have nl:∀b o,s0.heap.get? b=some o->H0 b=none->b∉frs outer->B.get? b=some o:=fun b o e n hb=>by
  refine old b o (I.base.keep b o e n hb (by intro z;cases z)) (I.base.free b o e n (by intro z;cases z)) fun z=>?_
  rcases zR.mp (I.stkSub b z) with q | q
  . exact absurd (zW e) (by rw[q];exact Nat.not_lt_of_le (zH _))
  . exact hb q
 have na:∀b o,s0.heap.get? b=some o->b∉frs outer->∃o',B.get? b=some o':=fun b o e hb=>by
  obtain⟨o1,e1⟩:=I.base.there b o e (by intro z;cases z)
  refine al b o1 e1 fun z=>?_
  rcases zR.mp (I.stkSub b z) with q | q
  . exact absurd (zW e) (by rw[q];exact Nat.not_lt_of_le (zH _))
  . exact hb q
 refine⟨ea,t,C,od,H',B,rfl,os.trans I.os,bare,⟨fun b o e n hb _=>st b o (nl b o e n hb),fun b o e n hb _=>?_,fun b o e n _=>?_,fun b o e _=>?_,fun b xs e=>un.tups _ _ (I.base.tups _ _ e),fun b o u e=>un.frzs _ _ _ (I.base.frzs _ _ _ e),fun b ps e=>?_⟩,hok.stays fl.1.1 st tr,fl.step fl2 dk,tr,nl,na,imp _ _ _ hE⟩
 . obtain⟨sl,e1⟩:=I.base.slot b o e n hb (by intro z;cases z)
   have n1:=I.base.free b o e n (by intro z;cases z)
   obtain⟨sl2,e2⟩:=un.slot b _ e1 n1 (zN _ hb) (by intro z;cases z)
   obtain⟨_,o3,e3,nd⟩:=fl.1.2.2.1.mem (show b∈(envOfC qual scope s0.heap.objs.size f cd::outer).filterMap (·.frame) from zN _ hb)
   obtain⟨sl4,e4⟩:=up b _ e3 nd
   have e5:=zm (e3.symm.trans e2)
   rw[e5] at e4
   exact⟨sl4,e4⟩
 . exact un.free b _ (I.base.there b o e (by intro z;cases z)).choose_spec (I.base.free b o e n (by intro z;cases z)) (by intro z;cases z)
 . obtain⟨o1,e1⟩:=I.base.there b o e (by intro z;cases z)
   by_cases hb:b∈(envOfC qual scope s0.heap.objs.size f cd::outer).filterMap (·.frame)
   . obtain⟨_,o3,e3,nd⟩:=fl.1.2.2.1.mem hb
     obtain⟨sl4,e4⟩:=up b _ e3 nd
     exact⟨_,e4⟩
   . obtain⟨o3,e3⟩:=al b o1 e1 hb
     exact⟨_,st b o3 e3⟩
 . obtain⟨m1,e1⟩:=I.base.tbls _ _ e
   obtain⟨m2,e2⟩:=un.tbls _ _ e1
   exact⟨m1++m2,by rw[e2,Array.append_assoc]⟩
end
theorem zMX {P:Program}{w:World}{K:PySem.W.Frag}{mg:Str->Option Value}{base:Heap}{N:List Str}{qual:Str}{scope:Scope}{f:Addr}{cd:Value}{A:Around}{outer:List Env}{s0:Shared}{H0:Hp}{E:XK}:zIH (CXI P w) (zH8 (CXI P w) P w K mg base N qual scope f cd A outer s0 H0 E) E:=fun _ _ _ _ _ _ I h=>zMW I h fun _ _ _ z=>z
theorem Fun.okI {P:Program}{w:World}{K:PySem.W.Frag}{mg:Str->Option Value}{base:Heap}{x qual:Str}{st:Stmt}{f:Addr}{fd:FuncData}{N ps:List Str}{k:Nat}{sp:Sp}(F:Fun K x qual st f fd)(S:zAN N ps (defScope st))(len:∀vs H Q E,sp vs H Q E->vs.length=ps.length)
 (hbody:∀(cdv:Value)(A:Around)(outer:List Env)(s:Shared)(H:Hp)(vs:List V)(Q:VK)(E:XK),zDo k (A.deeper (envOfC qual (defScope st) s.heap.objs.size f cdv))->sp vs H Q E ->
  ∃t,PSs (zH8 (CXI P w) P w K mg base N qual (defScope st) f cdv A outer s H E) (defBody st) t/\t { nx:=fun _ H'=>Q .non H',rt:=Q } (zE9 N vs) H):zAs P w K mg base (CXI P w) (k+1) f fd ps sp:=by
 obtain⟨oc,od,kV,doc,pm,an,cdv,ct,osl,rfl,lk,hcd⟩:=F.ex
 exact fn_of lk hcd S len fun A outer s H vs Q E hr hsp=>hbody cdv A outer s H vs Q E hr hsp
noncomputable def zMo (e:Addr)(H:Hp):Hp:=fun b=>if b=e then none else H b
theorem zCa {e b:Addr}{H:Hp}(n:b≠e):zMo e H b=H b:=by unfold zMo;rw[if_neg n]
theorem zDV {e:Addr}{H:Hp}:zMo e H e=none:=by unfold zMo;rw[if_pos rfl]
section
variable {X:Cx}{pins:List (Addr×Obj)}{σ:St}{H:Hp}{s:Shared}{e:Addr}{φ:Heap->Prop}
theorem Inv.drop (I:Inv X pins σ H s)(he:H e=some (.ext φ)):Inv X pins σ (zMo e H) s:=by
 have nt:∀b xs,H b=some (.tup xs)->b≠e:=fun b xs q z=>by rw[z,he] at q;cases q
 have no:∀b y,H b=some (.own y)->b≠e:=fun b y q z=>by rw[z,he] at q;cases q
 refine⟨I.ok,I.os,I.bare,⟨I.base.keep,I.base.slot,fun b o q n hx=>?_,I.base.there,fun b xs q=>by rw[zCa (nt b xs (I.base.tups b xs q))];exact I.base.tups b xs q,fun b o u q=>?_,fun b ps q=>?_⟩,I.loc,I.cell,?_,fun x c q=>?_,fun p hp=>?_,fun b o q=>?_,I.len⟩
 . by_cases z:b=e
   . subst z;exact zDV
   . rw[zCa z];exact I.base.free b o q n hx
 . have r:=I.base.frzs b o u q
   rw[zCa (fun z=>by rw[z,he] at r;cases r)];exact r
 . obtain⟨m,r⟩:=I.base.tbls b ps q
   exact⟨m,by rw[zCa (fun z=>by rw[z,he] at r;cases r)];exact r⟩
 . by_cases z:X.env.locals=e
   . rw[z];exact zDV
   . rw[zCa z];exact I.free
 . by_cases z:c=e
   . subst z;exact zDV
   . rw[zCa z];exact I.freeC x c q
 . obtain⟨a,b,r⟩:=I.pin p hp
   refine⟨a,?_,r⟩
   by_cases z:p.1=e
   . rw[z];exact zDV
   . rw[zCa z];exact b
 . have z:b≠e:=fun z=>by rw[z,zDV] at q;cases q
   rw[zCa z] at q
   exact (I.hok b o q).stay (fun _ _ _ r=>r) (fun c r=>by rw[zCa (no c _ r)];exact r) fun c xs r=>by rw[zCa (nt c xs r)];exact r
theorem zMN {M:Model}{A:Around}{E:Value->Shared->Prop}{env:Env}{K:PySem.W.Frag}{C tt:Addr}{od:Option Addr}{y:Sem Value}{Q:Flow->Shared->Prop}(q:zKc K C=true)(hh:A.handled=none)
 (h:wpAny M A y (fun v s1=>∃e,v = .ref e/\K.In s1.heap/\(∃tt od,s1.heap.get? e=some (zFZ C tt od))/\E (.ref e) s1) E s):wpAny M A (raiseStmt env (some y) none) Q E s:=by
 unfold raiseStmt
 refine zA (zAJ h (fun v s1 hv=>?_) fun _ _ z=>z)
 obtain⟨e,rfl,X1,⟨tt,od,he⟩,hE⟩:=hv
 obtain⟨bm,N,nm,qn,bs,sn,sub,ab,col,dd,k0,k1,k2,k3,k5,mN,hC,hN,T⟩:=zCw X1 q
 have hcB:(Value.ref C::bm).contains (.type "BaseException")=true:=by rw[List.contains_cons,T.hasType (X := "BaseException") (b:=true) (by rfl),Bool.or_true]
 obtain⟨hp,g,d,tk,os⟩:=s1
 have he':hp.get? e=some { cls:=.ref C,dict:=od,data:=.fields #[.ref tt,.none,.none,.none,.bool false,.none] }:=he
 repeat (first | with_reducible refine zAa he' ?_ | with_reducible refine zAa hC ?_ | (with_reducible refine wpAny_isSubtype_exc hC ?_;rw[hcB]) | wp_step)
 exact wpAny_raiseNew_none hh hE
theorem Inv.madeX {C:Addr}{us:List Value}{vs:List V}(I:Inv X pins σ H s)(r:zBB vs us)(hz:vs.length<=sizeLine) :
 Inv X pins σ (upd (upd H s.heap.objs.size (.tup vs)) (s.heap.objs.size+1) (xO (s.heap.objs.size+1) C s.heap.objs.size none)) { s with heap:=zLI s.heap C us }:=by
 have e1:(s.heap.push (xTup us)).get? s.heap.objs.size=some (xTup us):=Heap.get?_push_at rfl rfl
 have I1:=I.laid (a:=s.heap.objs.size) (o:=.tup vs) (h':=s.heap.push (xTup us)) (t':=s.toks) (fun b u q=>zI _ q) (zH _) ⟨⟨hz,_,e1,rfl⟩,us,r,⟨_,e1,rfl,_,rfl⟩⟩
 exact I1.laid (a:=s.heap.objs.size+1) (t':=s.toks) (h':=zLI s.heap C us) (fun b u q=>zI _ q) (Nat.le_of_eq (zA0 _ _)) (xO_ok (zLw s.heap C us))
noncomputable def zMB (C:Addr)(f1 f2:Str)(t:TA)(E:XK):TS:=fun _ σ H=>t σ H fun vs H1=>∃v1 v2,vs=[v1,v2]/\∀tt dx,H1 tt=none->H1 dx=none->tt≠dx->E (.ref C) (some dx) (upd (upd H1 tt (.tup [v1,v2])) dx (dO dx [(f1,v1),(f2,v2)]))
theorem zGQ {x f1 f2:Str}{ps:List Str}{C fI:Addr}{fd:FuncData}{k:Nat}{e1 e2:Expr}{t:TA}{E:XK}{np cpos pos:Pos}(hg:Gl X x)(hm:X.mg x=some (.ref C))(EI:zHS X.K C fI)(hc:X.calm=true)(F:zAs X.prog X.w X.K X.mg X.base CX0 k fI fd ps (spXI C f1 f2))(hr:zDo (k+1) X.A)(hb:zAI X.K fd ps [])(ha:PA X [e1,e2] t)
 (hxe:∀(pins:List (Addr×Obj))(σ:St)(H:Hp)(s:Shared)(ea tt dx:Addr),Inv X pins σ H s->s.heap.get? ea=some (zFZ C tt (some dx))->H ea=none->X.s₀.heap.get? ea=none->E (.ref C) (some dx) H->X.xe (.ref ea) s)
 (hd:(x==("__debug__" : Str))=false:=by decide) (hs:starEach [e1,e2] X.env=(false,eval e1 X.env)::starEach [e2] X.env:=by rfl)(hpl:(backTo cpos (starEach [e2] X.env)).any (·.1)=false:=by rfl) :
 PS X (.Raise (some (.Call (.Name x np) [e1,e2] [] cpos)) none pos) (zMB C f1 f2 t E):=by
 intro pins s σ H D I h
 rw[arm_exec_Raise]
 refine zA (wpAny_standAt ?_)
 show wpAny _ _ (raiseStmt X.env (some (do let v <-eval (.Call (.Name x np) [e1,e2] [] cpos) X.env;standAt pos;pure v)) none) _ _ _
 refine zMN (tt:=0) (od:=none) EI.cl (I.ok.hd hc) (zA (zAJ (Q:=fun v s1=>∃e,v = .ref e/\X.K.In s1.heap/\(∃tt od,s1.heap.get? e=some (zFZ C tt od))/\X.xe (.ref e) s1) (E:=X.xe) ?main (fun v s3 h3=>zA (wpAny_standAt (zD h3))) fun _ _ z=>z))
 case main=>
  refine zA1 (zEn I hg hm ?_ hd)
  refine PySem.W.callWith_K (h₀:=X.base) I.ok.mod.kin EI.kp (zAJ (ha cpos pins s σ H _ I h) (fun us s1 ⟨vs,H1,I1,r,q⟩=>⟨I1.kIn,?_⟩) fun _ _ z=>z) hs hpl
  obtain⟨v1,v2,rfl,q⟩:=q
  have hz:us.length<=sizeLine:=by rw[<-r.length];show 2<=sizeLine;decide
  have I2:=Inv.madeX (C:=C) I1 r (show 2<=sizeLine by decide)
  have r2:zBB (V.ref (s1.heap.objs.size+1)::[v1,v2]) (Value.ref (s1.heap.objs.size+1)::us):=.cons rfl r
  have n1:H1 s1.heap.objs.size=none:=I1.hok.fresh (zH _)
  have n2:H1 (s1.heap.objs.size+1)=none:=I1.hok.fresh (zBl _)
  have s00:X.s₀.heap.get? (s1.heap.objs.size+1)=none:=Heap.get?_none_of_le (zz I1.sz (zBl _))
  refine zKS (h:=s1.heap) I1.kIn EI hz ?_
  have ne:s1.heap.objs.size≠s1.heap.objs.size+1:=zh (Nat.lt_succ_self _)
  have hsp:spXI C f1 f2 (V.ref (s1.heap.objs.size+1)::[v1,v2]) (upd (upd H1 s1.heap.objs.size (.tup [v1,v2])) (s1.heap.objs.size+1) (xO (s1.heap.objs.size+1) C s1.heap.objs.size none))
   (fun v H2=>v = .non/\∃dx,H2 (s1.heap.objs.size+1)=some (xO (s1.heap.objs.size+1) C s1.heap.objs.size (some dx))/\E (.ref C) (some dx) (zMo (s1.heap.objs.size+1) H2)) (fun _ _ _=>False):=by
   refine⟨_,_,v1,v2,rfl,zK,fun dx hdx nd=>⟨rfl,dx,zK,?_⟩⟩
   rw[zf nd] at hdx
   have nt:s1.heap.objs.size≠dx:=fun z=>by rw[<-z,zK] at hdx;cases hdx
   have hdx1:H1 dx=none:=by rw[zf (Ne.symm nt)] at hdx;exact hdx
   have eq:zMo (s1.heap.objs.size+1) (upd (upd (upd (upd H1 s1.heap.objs.size (.tup [v1,v2])) (s1.heap.objs.size+1) (xO (s1.heap.objs.size+1) C s1.heap.objs.size none)) dx (dO dx [(f1,v1),(f2,v2)])) (s1.heap.objs.size+1) (xO (s1.heap.objs.size+1) C s1.heap.objs.size (some dx)))
    = upd (upd H1 s1.heap.objs.size (.tup [v1,v2])) dx (dO dx [(f1,v1),(f2,v2)]):=by
    funext b
    by_cases hb:b=s1.heap.objs.size+1
    . subst hb
      rw[zDV,zf (Ne.symm nd),zf (Ne.symm ne)];exact n2.symm
    . rw[zCa hb,zf hb]
      by_cases hb2:b=dx
      . subst hb2;rw[zK,zK]
      . rw[zf hb2,zf hb,zf hb2]
   rw[eq]
   exact q _ dx n1 hdx1 nt
  have hl:(Value.ref (s1.heap.objs.size+1)::us).length=ps.length:=by rw[<-r2.length];exact F.len _ _ _ _ hsp
  refine zB7 (codeAny_mono (F.run _ X.stack _ _ ⟨Value.ref (s1.heap.objs.size+1)::us,[]⟩ (Value.ref (s1.heap.objs.size+1)::us) _ _ (fun _ _ _=>False) (hr.make C us []) (I2.env0.make C us [])
   (by have:=hb _ (Value.ref (s1.heap.objs.size+1)::us) I2.kIn (by rw[zr];exact hl);rw[zr] at this;exact this) r2 hsp) fun r s' hq'=>?_)
  cases r with
  | error e=>exact False.elim hq'
  | ok fl=>
   cases fl with
   | ret u=>
    obtain⟨v,H',I3,rv,ev,dx,hx,hE⟩:=I2.after hq'
    subst ev
    refine⟨rv,_,rfl,I3.kIn,⟨_,_,(I3.hok _ _ hx).1⟩,?_⟩
    exact hxe pins σ _ s' _ _ dx (I3.drop hx) (I3.hok _ _ hx).1 zDV s00 hE
   | next=>exact False.elim hq'
   | brk=>exact False.elim hq'
   | cont=>exact False.elim hq'
end
end L2
namespace L2
open PySem PySem.Spec PyProof.Rows
section
variable {prog:Program}{w:World}{A:Around}{E:Value->Shared->Prop}{h:Heap}{g:Array GenState}{d:Drawn}{t:Nat}{os:OsState}{K:PySem.W.Frag}{C x dx:Addr}{o:Obj}{name:Str}{v:Value}{mA:Str->Option Value}
theorem zKB {tk:Tok}{Q:PySem.Fin->Shared->Prop}(X:K.In h)(q:zKc K C=true)(hx:h.get? x=some o)(hc:o.cls = .ref C){vs:Array Value}(hd:o.data = .fields vs)(hdn:o.dict=some dx)(hns:h.Ns1 dx mA)(nm:PySem.W.findIn K (.ref C) name=some none)(hv:mA name=some v)(hq:Q (.done (.ret v)) ⟨h,g,d,t,os⟩) :
 wpAny (model prog w) A (Builtin.«object.__getattribute__» ⟨[.ref x,.str name tk],[]⟩) Q E ⟨h,g,d,t,os⟩:=by
 obtain⟨bm,N,nmm,qn,bs,sn,sub,ab,col,dd,k0,k1,k2,k3,k5,mN,hC,hN,T⟩:=zCw X q
 have L:=PySem.W.looks_findIn (M:=model prog w) X nm
 unfold Builtin.«object.__getattribute__»
 repeat (first | (with_reducible refine zAa hx ?_;rw[hc]) | with_reducible refine zAa hC ?_ | with_reducible refine L.at ?_ | wp_step)
 rw[hd]
 have ns:h.Ns dx mA:=hns.ns
 show wpAny _ _ (instanceDict x false) _ _ _
 unfold instanceDict
 repeat (first | (with_reducible refine zAa hx ?_;rw[hc]) | with_reducible refine zAa hC ?_ | wp_step)
 rw[hdn]
 refine zD ?_
 unfold Builtin.ObjectAttr.inDict
 refine wpAny_nsGet ns ?_
 rw[hv]
 repeat (any_goals (first | assumption | wp_step))
theorem zLL {tk:Tok}{R:Result->Shared->Prop}(X:K.In h)(q:zKc K C=true)(F':zDq K C)(hx:h.get? x=some o)(hc:o.cls = .ref C){vs:Array Value}(hd:o.data = .fields vs)(hdn:o.dict=some dx)(hns:h.Ns1 dx mA)(nm:PySem.W.findIn K (.ref C) name=some none)(hv:mA name=some v)(hq:R (.ok (.ret v)) ⟨h,g,d,t,os⟩) :
 codeAny (model prog w) A (.call (.builtin "BaseException.__getattribute__") ⟨[.ref x,.str name tk],[]⟩) R ⟨h,g,d,t,os⟩:=
 codeAny_call_builtin PySem.F.attrBase_ValueError.ga.plain PySem.F.entry_bexc_ga (zGg X ⟨o,hx,hc⟩ F' (zKB X q hx hc hd hdn hns nm hv hq))
theorem get_by {tk:Tok}{fill b:Bool}{Q:Value->Shared->Prop}(X:K.In h)(q:zKc K C=true)(F':zDq K C)(hx:h.get? x=some o)(hc:o.cls = .ref C){vs:Array Value}(hd:o.data = .fields vs)(hdn:o.dict=some dx)(hns:h.Ns1 dx mA)(nm:PySem.W.findIn K (.ref C) name=some none)(hv:mA name=some v)(hh:PySem.W.handedIn v=true)(hq:Q v ⟨h,g,d,t,os⟩) :
 wpAny (model prog w) A (getAttrBy (.ref x) (.str name tk) fill b) Q E ⟨h,g,d,t,os⟩:=by
 have L0:=(show zD4 h x C from ⟨o,hx,hc⟩).type (M:=model prog w)
 have L1:=PySem.W.looks_findIn (M:=model prog w) X F'.ga
 have L2:=PySem.W.looks_findIn (M:=model prog w) X F'.gn
 have f3:=PySem.F.attrBase_ValueError.ga.bind (.ref x)
 have hx2:(Value.builtin "BaseException.__getattribute__" == Value.builtin "object.__getattribute__")=false:=by decide +kernel
 have hx0:(b && onTheHeap (Value.builtin "BaseException.__getattribute__"))=false:=by cases b <;> rfl
 have hx1:(onTheHeap (Value.ref C) && Value.builtin "BaseException.__getattribute__" == Value.builtin "object.__getattribute__")=false:=by rw[hx2];rfl
 repeat (any_goals (first | assumption | with_reducible refine L0.at ?_ | with_reducible refine L1.at ?_ | with_reducible refine L2.at ?_ | wp_step))
 refine zLL X q F' hx hc hd hdn hns nm hv ?_
 show wpAny _ _ (handedOut v) _ _ _
 exact PySem.W.handed_on hh hq
theorem get_x {b:Bool}{Q:Value->Shared->Prop}(X:K.In h)(q:zKc K C=true)(F':zDq K C)(hx:h.get? x=some o)(hc:o.cls = .ref C){vs:Array Value}(hd:o.data = .fields vs)(hdn:o.dict=some dx)(hns:h.Ns1 dx mA)(nm:PySem.W.findIn K (.ref C) name=some none)(hv:mA name=some v)(hh:PySem.W.handedIn v=true)(hq:∀tk,Q v ⟨h,g,d,tk,os⟩) :
 wpAny (model prog w) A (getAttr (.ref x) name b) Q E ⟨h,g,d,t,os⟩:=by
 unfold getAttr
 repeat (any_goals (first | assumption | exact hq _ | with_reducible refine get_by X q F' hx hc hd hdn hns nm hv hh ?_ | wp_step))
end
structure HeldD (X:Cx)(ea C dx:Addr):Prop where
 pin:∃oe vs,(ea,oe)∈X.pn/\oe.cls = .ref C/\oe.dict=some dx/\oe.data = .fields vs
noncomputable def tFldE (X:Cx)(ta:TE)(f:Str):TE:=fun σ H Q=>ta σ H fun x H1=>∃ea C dx fs v,x = .ref ea/\HeldD X ea C dx/\zKc X.K C=true/\zDq X.K C/\PySem.W.findIn X.K (.ref C) f=some none/\H1 dx=some (dO dx fs)/\fs.lookup f=some v/\Q v H1
theorem zJb {X:Cx}{e:Expr}{f:Str}{ta:TE}{pos:Pos}(he:PE X e ta)(hb:attributeBase e f X.env (eval e X.env)=eval e X.env:=by rfl):PE X (.Attribute e f pos) (tFldE X ta f):=by
 intro pins s σ H Q I h
 refine zM4 hb (thn (he pins s σ H _ I h) fun u s1 ⟨x,H1,I1,rx,ea,C,dx,fs,v,ex,⟨⟨oe,vs,hp,hc,hdn,hd⟩⟩,q,F',nm,hdx,hl,hq⟩=>?_)
 subst ex
 obtain rfl:u=Value.ref ea:=rx
 obtain⟨e1,_⟩:=I1.pin (ea,oe) (List.mem_append_left _ hp)
 obtain⟨mA,hns,r,wi⟩:=(I1.hok dx _ hdx).1
 obtain⟨u,hu,ru⟩:=zF9.some_of (v:=v) (o:=mA f) (by rw[<-hl];exact r f)
 obtain⟨hp',g,d,tk,os⟩:=s1
 exact get_x I1.kIn q F' e1 hc hd hdn hns nm hu (zJ9 ru) fun tk'=>⟨v,H1,I1.tok tk',ru,hq⟩
end L2
namespace L2
open PySem PySem.Spec PyProof.Rows
noncomputable def zDR (e:Addr)(od:Option Addr)(h:Heap):Prop:=∃o,h.get? e=some o/\o.dict=od
theorem zDR.step {e:Addr}{od:Option Addr}{h h':Heap}(x:zDR e od h)(k:DK h h'):zDR e od h':=by
 obtain⟨o,q,r⟩:=x
 obtain⟨o',q',r'⟩:=k e o q
 exact⟨o',q',r'.trans r⟩
section
variable {M:Model}{A:Around}{E:Value->Shared->Prop}{s:Shared}{base:Heap}{env:Env}{outer l:List Env}{L e:Addr}{cls a0:Value}{od:Option Addr}{Q:Unit->Shared->Prop}
theorem zJr (hfr:A.frames=some (env::outer))(hf:env.frame=some L)(hfl:Heap.FlyingW base (env::outer) e cls a0 s.heap)(hd:zDR e od s.heap)
 (hQ:∀h',Heap.HeldW base (env::outer) e cls a0 L h'->s.heap.UpToSlots h'->zDR e od h'->Q () { s with heap:=h' }):wpAny M A (noteFrame (.ref e) env) Q E s:=by
 refine zAJ (zDZ (zJy _ _) (wpAny_looks_onW (Q:=fun _ s2=>∃h',s2={ s with heap:=h' }/\Heap.HeldW base (env::outer) e cls a0 L h'/\s.heap.UpToSlots h') hfr hf hfl fun h' a b=>⟨h',rfl,a,b⟩)) (fun _ s2 hq=>?_) fun _ _ z=>z
 obtain⟨⟨h',rfl,a,b⟩,k⟩:=hq
 exact hQ h' a b (hd.step k)
theorem landsD (hh:Heap.HeldW base l e cls a0 L s.heap)(hd:zDR e od s.heap)
 (hQ:∀h',Heap.FlyingW base l e cls a0 h'->s.heap.UpToSlots h'->zDR e od h'->Q () { s with heap:=h' }):wpAny M A (setFlight (.ref e) none) Q E s:=by
 refine zAJ (zDZ (zC4 _ _) (wpAny_landsW (Q:=fun _ s2=>∃h',s2={ s with heap:=h' }/\Heap.FlyingW base l e cls a0 h'/\s.heap.UpToSlots h') hh fun h' a b=>⟨h',rfl,a,b⟩)) (fun _ s2 hq=>?_) fun _ _ z=>z
 obtain⟨⟨h',rfl,a,b⟩,k⟩:=hq
 exact hQ h' a b (hd.step k)
theorem againD (hh:Heap.FlyingW base l e cls a0 s.heap)(hd:zDR e od s.heap)
 (hQ:∀h',Heap.FlyingW base l e cls a0 h'->s.heap.UpToSlots h'->zDR e od h'->Q () { s with heap:=h' }):wpAny M A (setFlight (.ref e) none) Q E s:=by
 refine zAJ (zDZ (zC4 _ _) (lands_againW (Q:=fun _ s2=>∃h',s2={ s with heap:=h' }/\Heap.FlyingW base l e cls a0 h'/\s.heap.UpToSlots h') hh fun h' a b=>⟨h',rfl,a,b⟩)) (fun _ s2 hq=>?_) fun _ _ z=>z
 obtain⟨⟨h',rfl,a,b⟩,k⟩:=hq
 exact hQ h' a b (hd.step k)
end
noncomputable def excC (K:PySem.W.Frag)(C:Addr):Bool:=zKc K C || PySem.W.excIn K C bmV "ValueError.__new__"
theorem zLR {K:PySem.W.Frag}{h:Heap}{C:Addr}(X:K.In h)(q:excC K C=true) :
 ∃bm N nm qn bs hdct sn sub ab col dd k0 k1 k2 k3 k5,h.get? C=some (excClassObj nm qn C N bs bm hdct sn sub ab col dd k0 k1 k2 k3 k5 "ValueError.__new__"):=by
 unfold excC at q
 rcases Bool.or_eq_true _ _ ▸ q with q | q
 . obtain⟨bm,N,nm,qn,bs,sn,sub,ab,col,dd,k0,k1,k2,k3,k5,mN,hC,_⟩:=zCw X q
   exact⟨_,_,_,_,_,_,_,_,_,_,_,_,_,_,_,_,hC⟩
 . obtain⟨bm,N,nm,qn,bs,hdct,sn,sub,ab,col,dd,k0,k1,k2,k3,k5,mN,hC,_⟩:=zKG X q
   exact⟨_,_,_,_,_,_,_,_,_,_,_,_,_,_,_,_,hC⟩
noncomputable def EHI (K:PySem.W.Frag)(W:Addr)(ts:Addr->Obj->Addr->TS)(i:Nat)(D:zIv)(σ:St):XK:=fun C od H'=>∃Ca,C = .ref Ca/\excC K Ca=true/\subIn K Ca W=true/\∀ea oe vs,oe.cls = .ref Ca->oe.dict=od->oe.data = .fields vs->H' ea=none->ts ea oe Ca (endsH i D) (σ.set i (some (.ref ea))) H'
noncomputable def tTryI (K:PySem.W.Frag)(W:Addr)(tb:XK->TS)(ts:Addr->Obj->Addr->TS)(i:Nat):TS:=fun D σ H=>tb (EHI K W ts i D σ) D σ H
noncomputable def PXI (X:Cx)(body:List Stmt)(tb:XK->TS):Prop:=∀(pins:List (Addr×Obj))(s:Shared)(σ:St)(H:Hp)(D:zIv)(E1:XK),Inv X pins σ H s->tb E1 D σ H ->
 wpAny (model X.prog X.w) X.A (execs body X.env) (SP X pins D) (fun e s'=>∃H1 s1,Inv X pins σ H1 s1/\CXI X.prog X.w X.stack H1 s1 E1 e s') s
theorem zMQ {X:Cx}{body:List Stmt}{n x:Str}{i:Nat}{b0:Stmt}{suite:List Stmt}{pos hpos np:Pos}{W:Addr}{tb:XK->TS}{ts:Addr->Obj->Addr->TS}(hN:X.N.Nodup)(hi:X.N[i]? = some n)(hk:X.env.kindOf n=some .local)
 (hst:X.stack=X.env::X.outer)(hfl:X.env.frame=some X.env.locals)(hg:Gl X x)(hm:X.mg x=some (.ref W))(qW:PySem.W.excIn X.K W bmV "ValueError.__new__" = true)
 (hb:PXI X body tb)(hs:∀(ea:Addr)(oe:Obj)(C:Addr),oe.cls = .ref C->PSs (X.held ea oe) (b0::suite) (ts ea oe C))(hd:(x==("__debug__" : Str))=false:=by decide) :
 PS X (.Try body [.ExceptHandler (some (.Name x np)) (some n) (b0::suite) hpos] [] [] pos) (tTryI X.K W tb ts i):=by
 intro pins s σ H D I h
 refine wpAny_Try_except (zAJ (hb pins s σ H D _ I h) (fun fl s' hq=>?_) fun e s' hq=>?_)
 . cases fl with
   | next=>exact wpAny_execs_nil hq
   | brk=>exact hq
   | cont=>exact hq
   | ret u=>exact hq
 . obtain⟨H1,s1,I1,ea,t,C,od,H',B,rfl,os,bare,un,hok,⟨fl,fd⟩,tr,old,al,Ca,rfl,qC,sub,hts⟩:=hq
   have hfr:X.A.frames=some (X.env::X.outer):=by rw[<-hst];exact I.ok.frames
   have fl':=fl
   rw[hst] at fl'
   have hHe:H' ea=none:=by
    cases z:H' ea with
    | none=>rfl
    | some u=>
     obtain⟨o,ho⟩:=tr ea u z
     rw[fl.2.1] at ho;cases ho
   refine zJr hfr hfl fl' fd fun h4 held up4 d4=>?_
   refine landsD held d4 fun h5 fl5 up5 d5=>?_
   have key:∀(h6:Heap),Heap.FlyingW B (X.env::X.outer) ea (.ref Ca) (.ref t) h6->s'.heap.UpToSlots h6->zDR ea od h6->∃oe vs,h6.get? ea=some oe/\oe.cls = .ref Ca/\oe.dict=od/\oe.data = .fields vs/\Inv (X.held ea oe) pins σ H' { s' with heap:=h6 }:=fun h6 fl6 up6 d6=>by
    obtain⟨oe,ws,hoe,hc,hdt,_⟩:=fl6.first
    have hdi:oe.dict=od:=by
     obtain⟨o2,q2,r2⟩:=d6
     rw[hoe] at q2;cases q2;exact r2
    have un6:Un (frs X.stack) [] H1 H' s1.heap h6:=zJt un fl old al fl6.1 up6
    have I6:Inv X pins σ H' { s' with heap:=h6 }:=I1.call' (s':={ s' with heap:=h6 }) os un6 (hok.stays fl.1 fl6.1 tr) bare (fun b z=>absurd z (by simp))
    have nfr:ea∉frs X.stack:=fun z=>by
     rw[hst] at z
     obtain⟨_,o,ho,nd⟩:=fl6.2.2.1.mem z
     rw[hoe] at ho
     cases ho
     exact nd ws hdt
    have hfs:frs X.stack=X.env.locals::X.fs:=by
     rw[hst]
     unfold frs
     rw[zA9,hfl]
     rfl
    rw[hfs] at nfr
    exact⟨oe,ws,hoe,hc,hdi,hdt,I6.hold hoe hHe (fun z=>nfr (z ▸ zT)) (fun z=>nfr (zN _ z)) (fun v z=>by rw[hdt] at z;cases z)⟩
   obtain⟨oe5,ws5,hoe5,hc5,_,_,I5⟩:=key h5 fl5 (up4.trans up5) d5
   refine wpAny_handleBy_cons (codeAny_handlers_test (zEn (X:=X.held ea oe5) I5 hg hm ?_ hd)) (by intro q;cases q)
   obtain⟨bm,Nn,nm,qn,bs,hdct,sn,sb,ab,col,dd,k0,k1,k2,k3,k5,hC⟩:=zLR I5.kIn qC
   obtain⟨bm',Nn',nm',qn',bs',hdct',sn',sb',ab',col',dd',k0',k1',k2',k3',k5',mN',hW,_,_,TW⟩:=zKG I5.kIn qW
   refine zIa hC hW hoe5 hc5 (TW.hasType (by rfl)) (sub_of I5.kIn sub hC) ?_
   refine codeAny_handlers_suite_as (againD fl5 d5 fun h6 fl6 up6 d6=>?_)
   obtain⟨oe6,ws6,hoe6,hc6,hd6,hf6,I6⟩:=key h6 fl6 ((up4.trans up5).trans up6) d6
   refine zDA (X:=X.held ea oe6) I6 hN hi (.inl hk) (v:=.ref ea) rfl (fun s7 I7=>?_) (.inr hk)
   refine zAJ (hs ea oe6 Ca hc6 pins s7 _ H' (endsH i D) I7 (hts ea oe6 ws6 hc6 hd6 hf6 hHe)) (fun f s8 hq=>?_) fun _ _ z=>z.elim
   have fin:∀{σ':St}{H2:Hp}{Q:Unit->Shared->Prop},Inv (X.held ea oe6) pins σ' H2 s8->(∀s9,Inv X pins (σ'.set i none) H2 s9->Q () s9)->wpAny (model X.prog X.w) X.A (do bindName X.env n .none;unbindBehindTheSuite X.env n hpos) Q X.xe s8:=fun {σ' H2 Q} J hQ=>by
    have J1:=Inv.letgo I.ok J
    have hiσ:i<σ'.length:=by rw[J1.len];exact (zM.mp hi).1
    refine zA (wpAny_bindName (zDA J1 hN hi (.inl hk) (v:=.non) rfl (fun s9 J2=>?_) (.inr hk)))
    unfold unbindBehindTheSuite
    refine wpAny_onRaise (zIx J2 hN hi hk (v:=.non) (List.getElem?_set_self hiσ) fun s10 J3=>?_)
    rw[List.set_set] at J3
    exact hQ s10 J3
   cases f with
   | next=>
    obtain⟨σ',H2,J,q⟩:=hq
    exact fin J fun s9 J9=>⟨_,H2,J9,q⟩
   | brk=>
    obtain⟨σ',H2,J,q⟩:=hq
    exact fin J fun s9 J9=>⟨_,H2,J9,q⟩
   | cont=>
    obtain⟨σ',H2,J,q⟩:=hq
    exact fin J fun s9 J9=>⟨_,H2,J9,q⟩
   | ret u=>
    obtain⟨v,σ',H2,J,r,q⟩:=hq
    exact fin J fun s9 J9=>⟨v,_,H2,J9,r,q⟩
section
variable {X:Cx}{k:Nat}{f:Addr}{fd:FuncData}{ps:List Str}{sp:Sp}{x:Str}{p pos epos:Pos}{e:Expr}{es:List Expr}{t:TA}
theorem zM3 {pins:List (Addr×Obj)}{s:Shared}{σ:St}{H:Hp}{Q:VK}{E1:XK}(F:zAs X.prog X.w X.K X.mg X.base (CXI X.prog X.w) k f fd ps sp)(hr:zDo k X.A)(hg:Gl X x)(hm:X.mg x=some (.ref f))(hk:PySem.W.keepIn X.K (.ref f)=true)(hb:zAI X.K fd ps [])
 (ha:PA X.nox (e::es) t)(I:Inv X pins σ H s)(h:t σ H fun vs H1=>sp vs H1 Q E1)(hdb:(x==("__debug__" : Str))=false:=by decide) (he:starEach (e::es) X.env=(false,eval e X.env)::starEach es X.env:=by rfl)(hpl:(backTo pos (starEach es X.env)).any (·.1)=false:=by rfl) :
 wpAny (model X.prog X.w) X.A (eval (.Call (.Name x p) (e::es) [] pos) X.env) (EP X pins σ Q) (fun e s'=>∃H1 s1,Inv X pins σ H1 s1/\CXI X.prog X.w X.stack H1 s1 E1 e s') s:=by
 refine zA1 (zEn I hg hm ?_ hdb)
 refine PySem.W.callWith_K (h₀:=X.base) I.ok.mod.kin hk (zAJ (ha pos pins s σ H _ (I.wish _) h) (fun us s1 ⟨vs,H1,I1,r,q⟩=>⟨I1.unwish.kIn,?_⟩) fun _ _ z=>False.elim z) he hpl
 have I2:=I1.unwish
 have hl:us.length=ps.length:=by rw[<-r.length];exact F.len _ _ _ _ q
 refine zB7 (codeAny_mono (F.run X.A X.stack s1 H1 ⟨us,[]⟩ us vs Q E1 hr I2.env0 (by have:=hb s1 us I2.kIn (by rw[zr];exact hl);rw[zr] at this;exact this) r q) fun r s' hq=>?_)
 cases r with
 | error e=>exact⟨H1,s1,I2,hq⟩
 | ok fl=>
  cases fl with
  | ret u=>exact I2.after hq
  | next=>exact False.elim hq
  | brk=>exact False.elim hq
  | cont=>exact False.elim hq
end
end L2
namespace L2
open PySem PySem.Spec PyProof.Rows
section
variable {X:Cx}{k:Nat}{f:Addr}{fd:FuncData}{ps:List Str}{sp:Addr->Addr->Sp}{x:Str}{p pos:Pos}{e:Expr}{es:List Expr}{t:TA}{ea:Addr}{oe:Obj}
theorem zJ7 {C dx:Addr}{vs:Array Value}(h:oe.cls = .ref C)(h1:oe.dict=some dx)(h2:oe.data = .fields vs):HeldD (X.held ea oe) ea C dx:=⟨⟨oe,vs,zT,h,h1,h2⟩⟩
end
end L2
namespace L2
open PySem PySem.Spec PyProof.Rows
section
variable {X:Cx}
end
section
variable {X:Cx}{k:Nat}{f:Addr}{fd:FuncData}{ps:List Str}{sp:Sp}{x y:Str}{p pos epos pos' cpos:Pos}{e b:Expr}{es:List Expr}{t:TA}{i:Nat}
end
end L2
namespace L2
open PySem PySem.Spec PyProof.Rows
section
variable {X:Cx}{k:Nat}{f:Addr}{fd:FuncData}{ps:List Str}{sp:Sp}{x y:Str}{p pos epos pos':Pos}{e:Expr}{es:List Expr}{t:TA}{i:Nat}
theorem zMP (hN:X.N.Nodup)(hi:X.N[i]? = some y)(hx:Loc X.env.scope y)(F:zAs X.prog X.w X.K X.mg X.base (CXI X.prog X.w) k f fd ps sp)(hr:zDo k X.A)(hg:Gl X x)(hm:X.mg x=some (.ref f))(hk:PySem.W.keepIn X.K (.ref f)=true)(hb:zAI X.K fd ps [])
 (ha:PA X.nox (e::es) t)(hs:swapsWith (.Call (.Name x p) (e::es) [] pos) (some (.Name y pos')) epos.line X.env=pure false:=by rfl)(hf:X.fn y=true\/X.env.scope.names.lookup y=some .local:=by first | exact .inl rfl | exact .inr rfl | assumption)(hdb:(x==("__debug__" : Str))=false:=by decide) (he:starEach (e::es) X.env=(false,eval e X.env)::starEach es X.env:=by rfl)(hpl:(backTo pos (starEach es X.env)).any (·.1)=false:=by rfl) :
 PXI X [.Assign [.Name y pos'] (.Call (.Name x p) (e::es) [] pos) epos] (fun E1 D σ H=>t σ H fun vs H1=>sp vs H1 (fun v H2=>D.nx (σ.set i (some v)) H2) E1):=by
 intro pins s σ H D E1 I h
 refine wpAny_execs_cons (wpAny_Assign_Name (zAJ (zM3 F hr hg hm hk hb ha I h hdb he hpl) (fun v s1 ⟨z,H1,I1,r1,q1⟩=>?_) fun _ _ z=>z) hs)
 exact zDA I1 hN hi hx r1 (fun s2 I2=>wpAny_execs_nil ⟨_,H1,I2,q1⟩) hf
end
end L2
namespace L2
open PySem PySem.Spec PyProof.Rows
open AutoSeq1 (wpAny_loadPart')
set_option maxRecDepth 100000
section
variable {prog:Program}{w:World}{A:Around}{E:Value->Shared->Prop}{s:Shared}
theorem zF1 {Q:List Value->Shared->Prop}{r:Addr}{a b c:Int}{t u v:Tok}{n:Nat}(hh:A.handled=none)(hr:IsRange s.heap r a b c t u v)(hsmall:Builtin.Range.small a b c=true)(hn:Builtin.Range.rangeSize a b c=n)(hlen:n<=2 ^ 24)
 (hQ:∀(h':Heap)(tk:Nat)(acc:Array Value),s.heap.objs.size<=h'.objs.size->(∀b o,s.heap.get? b=some o->h'.get? b=some o)->ItemsOf (fun i v=>∃t,v = .int (a+i*c) t) acc n->Q acc.toList { s with heap:=h',toks:=tk }):wpAny (model prog w) A (collect (.ref r)) Q E s:=by
 unfold collect
 refine zA (wpAny_runValue (codeAny_builtin F.entry_proto_collect ?_))
 rw[Around.under_plainId F.plain_proto_collect _]
 show wpAny _ A.in1 (newList [] >>= fun l=>again (.builtin "list.__iadd__" ⟨[l,.ref r],[]⟩)) _ _ s
 refine zA (zw ?_)
 refine zD ⟨plainId_quiet F.plain_list_iadd _,codeAny_builtin F.entry_list_iadd ?_⟩
 rw[Around.under_plainId F.plain_list_iadd _]
 show wpAny _ A.in1 (Builtin.List.listExtendWith (.ref s.heap.objs.size) (.ref r) (.ref s.heap.objs.size)) _ _ _
 have hS:(s.heap.push { cls:=.type "list",data:=.seq ([]:List Value).toArray }).get? s.heap.objs.size=some { cls:=.type "list",data:=.seq #[] 0 }:=zO _ rfl
 have fin':∀(h':Heap)(tk:Nat)(acc':Array Value)(c':Nat),(∀b o,b≠s.heap.objs.size->(s.heap.push { cls:=.type "list",data:=.seq ([]:List Value).toArray }).get? b=some o->h'.get? b=some o)->h'.get? s.heap.objs.size=some { cls:=.type "list",dict:=none,data:=.seq acc' c',slots:=#[] }->ItemsOf (fun i v=>∃t,v = .int (a+i*c) t) acc' n ->
  wpAny (model prog w) A (match Value.ref s.heap.objs.size with
  | Value.ref a=>do
   match (<-load a).data with
    | Data.seq xs _=>pure xs.toList
    | _=>unsupported "internal:collect"
  | _=>unsupported "internal:collect") Q E { s with heap:=h',toks:=tk }:=fun h' tk acc' c' hk hS' hacc=>by
  show wpAny _ A (load s.heap.objs.size >>= _) _ _ _
  refine zA (wpAny_load hS' (zD ?_))
  exact hQ h' tk acc' (zAl (zW hS')) (fun b o e=>hk b o (zh (zW e)) (zI _ e)) hacc
 refine zAJ (wpAny_extend_range (A:=A) (R:=fun r s'=>r = .ok (.ret (.ref s.heap.objs.size))/\∃(h':Heap)(tk:Nat)(acc':Array Value)(c':Nat),s'={ s with heap:=h',toks:=tk }/\(∀b o,b≠s.heap.objs.size->(s.heap.push { cls:=.type "list",data:=.seq ([]:List Value).toArray }).get? b=some o->h'.get? b=some o)/\h'.get? s.heap.objs.size=some { cls:=.type "list",dict:=none,data:=.seq acc' c',slots:=#[] }/\ItemsOf (fun i v=>∃t,v = .int (a+i*c) t) acc' n)
  (s:={ s with heap:=s.heap.push { cls:=.type "list",data:=.seq ([]:List Value).toArray } }) hh (zI _ hr) hsmall hn hlen s.heap.objs.size (.ref s.heap.objs.size) 0 hS fun h' tk acc' c' hk hS' hacc=>⟨rfl,h',tk,acc',c',rfl,hk,hS',hacc⟩) (fun fin s' h=>?_) (fun e s' h=>?_)
 . cases fin with
   | done f=>
    obtain⟨e,h',tk,acc',c',rfl,h1,h2,h3⟩:=h
    cases e
    exact fin' h' tk acc' c' h1 h2 h3
   | again c'=>exact⟨h.1,codeAny_mono h.2 fun r s'' hr=>by obtain⟨rfl,h',tk,acc',c',rfl,h1,h2,h3⟩:=hr;exact fin' h' tk acc' c' h1 h2 h3⟩
 . exact absurd h.1 (by simp)
theorem zJn {Q₁:Value->Shared->Prop}{r:Addr}{a b c:Int}{t u v:Tok}{n:Nat}(hh:A.handled=none)(hr:IsRange s.heap r a b c t u v)(hsmall:Builtin.Range.small a b c=true)(hn:Builtin.Range.rangeSize a b c=n)(hlen:n<=2 ^ 24)
 (h:∀(h':Heap)(tk:Nat)(acc:Array Value),s.heap.objs.size<=h'.objs.size->(∀b o,s.heap.get? b=some o->h'.get? b=some o)->ItemsOf (fun i v=>∃t,v = .int (a+i*c) t) acc n->Q₁ (.ref h'.objs.size) { s with heap:=h'.push { cls:=.type "tuple",data:=.seq acc },toks:=tk }) :
 codeAny (model prog w) A (.call (.builtin "tuple.__new__") ⟨[.type "tuple",.ref r],[]⟩) (wants Q₁ E) s:=by
 refine codeAny_of_tree ?_
 show wpAny _ A.in1 (do checkBuiltinCall "tuple.__new__" ⟨[.type "tuple",.ref r],[]⟩;again (.builtin "tuple.__new__" ⟨[.type "tuple",.ref r],[]⟩)) _ _ s
 refine zA (PySem.wpAny_of_eq (F.newCall_tuple_1 _) (zD ⟨plainId_quiet F.plain_tuple_new _,codeAny_builtin F.entry_tuple_new ?_⟩))
 rw[Around.under_plainId F.plain_tuple_new _]
 have hsub:=sub_tuple_self
 have hinit:=init_tuple_lookup
 have hmh:=madeHere_tuple
 have hTI:s.TypeIs (.ref r) "range" := ⟨_,hr,rfl⟩
 wp_walk using zBH hTI,zF1 (A:=A.in1) hh hr hsmall hn hlen
 intro h' tk acc hz hk hacc
 show wpAny _ _ (Builtin.Tuple.tupleExact acc.toList.toArray >>= fun v=>ret v) _ _ _
 unfold Builtin.Tuple.tupleExact
 refine zA (zw ?_ (by show acc.toList.toArray.size<=sizeLine;simp only[Array.toArray_toList];rw[hacc.1,sizeLine_eq];omega))
 refine zD ?_
 have e:acc.toList.toArray=acc:=by simp
 rw[e]
 exact h h' tk acc hz hk hacc
theorem zEE {Q:Value->Shared->Prop}{r:Addr}{a b c:Int}{t u v:Tok}{n:Nat}(hh:A.handled=none)(hr:IsRange s.heap r a b c t u v)(hsmall:Builtin.Range.small a b c=true)(hn:Builtin.Range.rangeSize a b c=n)(hlen:n<=2 ^ 24)
 (hQ:∀(h':Heap)(tk:Nat)(acc:Array Value),s.heap.objs.size<=h'.objs.size->(∀b o,s.heap.get? b=some o->h'.get? b=some o)->ItemsOf (fun i v=>∃t,v = .int (a+i*c) t) acc n->Q (.ref h'.objs.size) { s with heap:=h'.push { cls:=.type "tuple",data:=.seq acc },toks:=tk }) :
 wpAny (model prog w) A (call (.type "tuple") [.ref r]) Q E s:=by
 refine callType_codes (Q₁:=fun obj s₁=>s₁.TypeIs obj "tuple" /\ Q obj s₁) F.called_tuple (F.typeCall_tuple_1 _) F.entry_object_init
  (zJn hh hr hsmall hn hlen fun h' tk acc hz hk hacc=>⟨⟨_,zO _ rfl,rfl⟩,hQ h' tk acc hz hk hacc⟩) fun obj s₁ h₁=>?_
 exact⟨h₁.1,F.args_object_init_2 obj _,object_init_meets F.called_tuple.init.lookup F.called_tuple.made (by decide) prog w A.in1 _ s₁ ⟨h₁.1,rfl,h₁.2⟩⟩
end
noncomputable def zMA (ta:TA):TE:=fun σ H Q=>ta σ H fun vs H1=>∃j:Int,vs=[.int j]/\0<=j/\j<=1000/\∀l,H1 l=none->Q (.ref l) (upd H1 l (.tup ((WM.lowTo j.toNat).map V.int)))
section
variable {X:Cx}
theorem zEZ {a:Expr}{ta:TA}{p1 p2 pos1 pos2:Pos}(hc:X.calm=true)(hgL:Gl X "tuple") (hmL:X.mg "tuple" = none) (hgR:Gl X "range") (hmR:X.mg "range" = none) (ha:PA X [a] ta)(hs:starEach [a] X.env=[(false,eval a X.env)]:=by rfl)
 (he:starEach [.Call (.Name "range" p2) [a] [] pos2] X.env=[(false,eval (.Call (.Name "range" p2) [a] [] pos2) X.env)]:=by rfl):PE X (.Call (.Name "tuple" p1) [.Call (.Name "range" p2) [a] [] pos2] [] pos1) (zMA ta):=by
 intro pins s σ H Q I h
 refine zA1 (zCz I hgL hmL (by decide +kernel:bootBuiltins "tuple" = some (.type "tuple")) ?_ (by decide) (by decide))
 refine PyProof.Rows.callWith_type1 ?_ he rfl
 rw[he]
 refine Calls.spliced_cons ?_
 refine Call_ (zCz I hgR hmR boot_range (PyProof.Rows.callWith_type1 (thn (ha pos2 pins s σ H _ I h) fun us s1 ⟨vs,H1,I1,r1,q1⟩=>?_) hs rfl))
 obtain⟨j,e,h0,h1,q⟩:=q1
 subst e
 cases r1 with
 | cons r rr=>
  cases rr
  obtain⟨t,rfl⟩:=r
  refine call_range_1 ?_
  refine Calls.spliced_nil ?_
  have hz:Builtin.Range.rangeSize 0 j 1=(j.toNat:Int):=by rw[rangeSize_one];split <;> omega
  refine zEE (I.ok.hd hc) (IsRange.new ..) (small_one (by omega) (by omega) (by omega) (by omega)) hz (by omega) fun h' tk acc hz' kp hI=>?_
  have kp1:∀b o,s1.heap.get? b=some o->(h'.push { cls:=.type "tuple",data:=.seq acc }).get? b=some o:=fun b o e=>zI _ (kp b o (zI _ e))
  have rv:zBB ((WM.lowTo j.toNat).map V.int) acc.toList:=zHU acc.toList _ (by rw[Array.length_toList];exact hI.1) fun i v hi=>hI.2 i v (by rw[<-hi,Array.getElem?_toList])
  have hsz:s1.heap.objs.size<=h'.objs.size:=zz (by rw[zA0];exact zBl _) hz'
  refine⟨.ref _,_,I1.laid (t':=tk) kp1 hsz (show zBY X.prog X.w _ (h'.push { cls:=.type "tuple",data:=.seq acc }) _ (.tup ((WM.lowTo j.toNat).map V.int)) from ⟨⟨?_,_,zO _ rfl,rfl⟩,acc.toList,rv,_,zO _ rfl,rfl,_,by rw[Array.toArray_toList]⟩),rfl,q _ (I1.hok.fresh hsz)⟩
  rw[zE,WM.lowTo,zE,zAQ]
  have:sizeLine=16777216:=rfl
  omega
end
section
variable {X:Cx}
noncomputable def rEqTE (K:PySem.W.Frag):R2:=fun x y H Q=>∃(a b:Addr)(xs:List V),x = .ref a/\y = .ref b/\SqT K H a xs/\SqT K H b []/\Q (.bl xs.isEmpty) H
theorem zMY (hu:X.A.units<cLine):OpR X (compareOp .Eq) (rEqTE X.K):=by
 intro pins s σ H x y v u Q I rx ry h
 obtain⟨a,b,xs,rfl,rfl,ha,hb,q⟩:=h
 cases rx
 cases ry
 obtain⟨its,r,pl,hz⟩:=I.tuple ha
 obtain⟨its2,r2,pl2,hz2⟩:=I.tuple hb
 have l1:=r.length
 have e2:its2=[]:=by cases r2;rfl
 subst e2
 refine SeqAt.eq_tupleAt (e:=fun _=>true) pl pl2 hu (fun j _ h2=>absurd h2 (by simp)) ⟨.bl _,H,I,rfl,?_⟩
 have e:((List.range (min its.toArray.size ([]:List Value).toArray.size)).all (fun _=>true) && its.toArray.size==([]:List Value).toArray.size)=xs.isEmpty:=by
  cases xs with
  | nil=>cases r;rfl
  | cons x xs=>cases r;simp
 rw[e]
 exact q
end
end L2
namespace L2
section
open PySem PySem.W PyProof.Rows
noncomputable def zFc (p:Program)(w:World)(n₀:Nat)(ann:Option Value):Nat->SharedT->Thread->Option SharedT
 | 0,_,_=>none
 | n+1,s,t=>match through t with
  | true=>some s
  | false=>match Fast.tw6613529449190102663 n₀ ann t with
   | false=>none
   | true=>match Fast.tw10156331382660048174 (Fast.tw11892475500146522536 Fast.tw14364793385576792824) p w s t with
    | some (s',t')=>zFc p w n₀ ann n s' t'
    | none=>none
theorem zGD {p:Program}{w:World}{n₀:Nat}{ann:Option Value}:∀{n:Nat}{s s':SharedT}{t:Thread},zFc p w n₀ ann n s t=some s'->topRun treeTable p w n₀ ann n s.abs t=some s'.abs
 | 0,_,_,_,h=>by cases h
 | n+1,s,s',t,h=>by
  unfold zFc at h
  rw[<-Fast.te6613529449190102663,<-Fast.te10156331382660048174,<-Fast.te11892475500146522536,<-Fast.te14364793385576792824] at h
  unfold topRun
  cases he:through t with
  | true=>rw[he] at h;cases h;rfl
  | false=>
   rw[he] at h
   cases hk:stepOk n₀ ann t with
   | false=>rw[hk] at h;cases h
   | true=>
    rw[hk] at h
    cases hs:stepT (denote treeTable) p w s t with
    | none=>rw[hs] at h;cases h
    | some r=>obtain⟨s₂,t₂⟩:=r;rw[hs] at h;rw[stepT_spec hs];exact zGD h
noncomputable def bt:List Obj->Nat->BT->BT
 | [],_,t=>t
 | o::l,i,t=>bt l (i+1) (t.ins i o)
noncomputable def bT (P:Params):BT:=bt (boot_heap P).objs.toList 0 .nil
noncomputable def bS (w:World)(os:OsState):SharedT:=⟨bT w.params,(boot_heap w.params).objs.size,(boot_heap w.params).life,Array.mk [],boot_drawn,boot_toks,os⟩
theorem bA (w:World)(os:OsState):(bS w os).abs=⟨boot_heap w.params,Array.mk [],boot_drawn,boot_toks,os⟩:=by kernel_rfl
noncomputable abbrev runT (p:Program)(N:Nat)(w:World)(os:OsState):Option SharedT:=zFc p w (boot_heap w.params).objs.size ((boot_heap w.params).nsMap mainGlobals "__annotations__") N (bS w os) (topStub p)
noncomputable abbrev chkT (p:Program)(h h':Heap)(s:Shared):Bool:=staticsOk (importedModules p.main.body) h h' && namesBound p h' && gensDone s && laidKept h h'
theorem left_of {p q:Program}{loose:List Str}{Xt:Shared->Bool}{α:Type}{Yf:Shared->α}{Ya:World->α}{N:Nat}(e:opening p=plainProg p.main.scope.names)(hN:Nat.ble 600 N=true)(f:∀s,fenceModules? p s=some s)
 (h:∀(w:World)(os:OsState),(runT p N w os).map (fun s=>(chkT p (boot_heap w.params) s.abs.heap s.abs,Fast.tw4187177175401517315 q loose (importedModules p.main.body) Xt true s.abs,Yf s.abs))=some (true,openGood q loose,Ya w)):LeftO p q loose Xt Yf Ya N:=by
 intro w
 obtain⟨⟨h0,gs,d,k,os⟩,e1,e2⟩:=zBV.mp (boot_open e hN f w)
 obtain⟨rfl,rfl,rfl,rfl⟩:h0=boot_heap w.params/\gs=Array.mk []/\d=boot_drawn/\k=boot_toks:=by simpa using e2
 obtain⟨s,r,a⟩:=zBV.mp (h w os)
 obtain⟨b,a⟩:=Prod.mk.inj a
 rw[<-Fast.te4187177175401517315] at a
 have y:=zGD r
 rw[bA] at y
 unfold openEnds
 rw[e1]
 show (topFrom treeTable p w N _).map _=_
 unfold topFrom
 have z:((boot_heap w.params).isNs mainGlobals && (Array.mk []:Array GenState).size==0)=true:=by kernel_rfl
 dsimp only
 rw[z]
 dsimp only
 rw[y]
 show Option.map _ (match chkT p (boot_heap w.params) s.abs.heap s.abs with | true=>some s.abs | false=>none)=_
 rw[b]
 exact congrArg some a
end
end L2
namespace K39
open PySem L2 WM
noncomputable def top (i:Nat):Stmt:=PySem.Challenge.pw_labelways_k39_plans_judged.main.body.getD i (.Pass ⟨0,0,0,0⟩)
noncomputable def mth (k i:Nat):Stmt:=match top k with
 | .ClassDef _ _ _ body ..=>body.getD i (.Pass ⟨0,0,0,0⟩)
 | _=>.Pass ⟨0,0,0,0⟩
noncomputable abbrev zKs:Stmt:=top 34
noncomputable abbrev zEC:Stmt:=top 35
noncomputable abbrev sN:Stmt:=top 36
noncomputable abbrev sWeb:Stmt:=top 37
noncomputable abbrev sNum:Stmt:=top 15
noncomputable abbrev sWi:Stmt:=top 16
noncomputable abbrev sPl:Stmt:=top 19
noncomputable abbrev sTof:Stmt:=top 17
noncomputable abbrev sRis:Stmt:=top 18
noncomputable abbrev sIp:Stmt:=top 22
noncomputable abbrev sPw:Stmt:=top 23
noncomputable abbrev sPp:Stmt:=top 24
noncomputable abbrev sCh:Stmt:=top 25
noncomputable abbrev sCo:Stmt:=top 26
noncomputable abbrev sPo:Stmt:=top 27
noncomputable abbrev zJJ:Stmt:=top 28
noncomputable abbrev zJI:Stmt:=top 29
noncomputable abbrev sPf:Stmt:=top 30
noncomputable abbrev sLk:Stmt:=top 31
noncomputable abbrev sTf:Stmt:=top 32
noncomputable abbrev zHc:Stmt:=top 38
noncomputable abbrev zJK:Stmt:=top 39
noncomputable abbrev sPn:Stmt:=top 40
noncomputable abbrev sLq:Stmt:=top 41
noncomputable abbrev sLp:Stmt:=top 42
noncomputable abbrev sLf:Stmt:=top 43
noncomputable abbrev sLc:Stmt:=top 44
noncomputable abbrev sBes:Stmt:=top 45
noncomputable abbrev sPar:Stmt:=top 46
noncomputable abbrev sRpl:Stmt:=top 47
noncomputable abbrev sCal:Stmt:=top 48
noncomputable abbrev sLpf:Stmt:=top 49
noncomputable abbrev sFou:Stmt:=top 50
noncomputable abbrev sPtu:Stmt:=top 51
noncomputable abbrev zHb:Stmt:=top 52
noncomputable abbrev sI1:Stmt:=mth 4 0
noncomputable abbrev sLaw:Stmt:=top 53
noncomputable def zBk (H:Hp)(t p:Addr)(N:Nat):Prop:=∃(ns:List Int)(spot rest:Int),H t=some (.lst [.ref p,.int spot,.int rest])/\H p=some (.lst (ns.map V.int))/\p≠t/\0<=spot/\spot<=N/\0<=rest/\ns.length<=63
noncomputable def zAE (H:Hp)(t:Addr)(N:Nat):Prop:=∃p:Addr,zBk H t p N
theorem zAE.mono {H:Hp}{t:Addr}{N M:Nat}(h:zAE H t N)(l:N<=M):zAE H t M:=by
 obtain⟨p,ns,spot,rest,a,b,c,d,e,f⟩:=h
 exact⟨p,ns,spot,rest,a,b,c,d,by omega,f⟩
noncomputable def Sm (t:Addr)(H H':Hp):Prop:=∀b o,b≠t->H b=some o->H' b=some o
theorem Sm.trans {t:Addr}{H H1 H2:Hp}(a:Sm t H H1)(b:Sm t H1 H2):Sm t H H2:=fun c o n e=>b c o n (a c o n e)
theorem Sm.of {t:Addr}{H H':Hp}(h:zAo H H'):Sm t H H':=fun b o _ e=>h b o e
theorem Sm.laid {t l:Addr}{H:Hp}{o:HO}(h:H l=none):Sm t H (upd H l o):=fun b u _ e=>by rw[zf (zo e h)];exact e
theorem Sm.chg {t l:Addr}{H H':Hp}{o:HO}(s:Sm t H H')(h:H l=none):Sm t H (upd H' l o):=fun b u n e=>by rw[zf (zo e h)];exact s b u n e
theorem zG {l:Addr}{H:Hp}{o:HO}(h:H l=none):zAo H (upd H l o):=fun b u e=>by rw[zf (zo e h)];exact e
theorem zBZ {l:Addr}{H H':Hp}{o:HO}(s:zAo H H')(h:H l=none):zAo H (upd H' l o):=fun b u e=>by rw[zf (zo e h)];exact s b u e
theorem zAE.keep {H H':Hp}{t:Addr}{N:Nat}(h:zAE H t N)(k:zAo H H'):zAE H' t N:=by
 obtain⟨p,ns,spot,rest,a,b,c⟩:=h
 exact⟨p,ns,spot,rest,k _ _ a,k _ _ b,c⟩
theorem zAE.laid {H:Hp}{t l:Addr}{N:Nat}{o:HO}(h:zAE H t N)(hl:H l=none):zAE (upd H l o) t N:=h.keep (zG hl)
theorem zAE.ne {H:Hp}{t b:Addr}{N:Nat}(h:zAE H t N)(hb:H b=none):b≠t:=by
 obtain⟨p,ns,spot,rest,a,_⟩:=h
 exact (zo a hb).symm
theorem zAE.chg {H:Hp}{t l:Addr}{N:Nat}{o u:HO}(h:zAE H t N)(hl:H l=some u)(hu:∀xs,u ≠ .lst xs):zAE (upd H l o) t N:=by
 obtain⟨p,ns,spot,rest,a,b,c⟩:=h
 exact⟨p,ns,spot,rest,by rw[zf (zDe a hl fun z=>hu _ z.symm)];exact a,by rw[zf (zDe b hl fun z=>hu _ z.symm)];exact b,c⟩
theorem zBk.keepF {H H':Hp}{t p:Addr}{N M:Nat}(h:zBk H t p N)(k1:∀o,H t=some o->H' t=some o)(k2:∀o,H p=some o->H' p=some o)(l:N<=M):zBk H' t p M:=by
 obtain⟨ns,spot,rest,a,b,c,d,e,f⟩:=h
 exact⟨ns,spot,rest,k1 _ a,k2 _ b,c,d,by omega,f⟩
noncomputable def zEQ:Sp:=fun vs H Q _=>∃(t p:Addr)(N:Nat)(many:Int),vs=[.ref t,.int many]/\zBk H t p N/\N<1000000/\0<many/\many<1000000 /\
 ∀(r:Int)(H':Hp),0<=r->r<many->zBk H' t p (N+1)->(∀b,b≠t->H' b=H b)->Q (.int r) H'
noncomputable def zGH:Sp:=fun vs H Q _=>∃(t:Addr)(N:Nat)(many:Int),vs=[.ref t,.int many]/\zAE H t N/\N<1000000/\0<many/\many<1000000 /\
 ∀(r:Int)(H':Hp),0<=r->r<many->zAE H' t (N+1)->(∀b,b≠t->H' b=H b)->Q (.int r) H'
noncomputable def zLe (K:PySem.W.Frag):Sp:=fun vs H Q _=>∃(a:Addr)(ns:List Int),vs=[.ref a]/\SqL K H a (ns.map V.int)/\ns.length<=63/\∀(t:Addr)(H':Hp),H t=none->zAE H' t 0->zAo H H'->Q (.ref t) H'
section
variable {P:Program}{w:World}{K:PySem.W.Frag}{mg:Str->Option Value}{base:Heap}
theorem scTape:zAN ["_law_script"] ["_law_script"] (defScope zKs):=⟨rfl,rfl,rfl,by decide +kernel,rfl,by decide +kernel,by decide +kernel⟩
theorem zMa {f:Addr}{fd:FuncData}(F:Fun K "_law_tape" "_law_tape" zKs f fd):zAs P w K mg base CX0 1 f fd ["_law_script"] (zLe K):=by
 refine F.ok scTape (fun vs H Q E h=>?_) (fun cdv A outer s H vs Q E hr h=>?_)
 . obtain⟨a,ns,rfl,_⟩:=h
   rfl
 . obtain⟨a,ns,rfl,hS,hl,k⟩:=h
   refine⟨_,ze (zAH (zBx (zC (zA5 zC2 (pv 0) zBP (zBO zX)) (zCh (zCh zL))))),?_⟩
   refine⟨_,rfl,_,rfl,a,_,rfl,hS,fun p hp=>⟨by show 3<=sizeLine;decide,fun t ht=>?_⟩⟩
   have npt:p≠t:=fun e=>by rw[e,zK] at ht;cases ht
   have e1:zEM (ns.map V.int) none (some 63)=(ns.take 63).map V.int:=by
    unfold zEM
    rw[HT.sIx_none,zBI,Nat.sub_zero,zE,show (63:Int)=((63:Nat):Int) from rfl,HT.sIx_nat,List.map_take]
    rw[show min 63 ns.length=ns.length by omega,za (by rw[zE];exact zH _),za (by rw[zE];exact hl)]
   have ht0:H t=none:=by rw[zf npt.symm] at ht;exact ht
   refine k t _ ht0 ⟨p,ns.take 63,0,0,zK,?_,npt,Int.le_refl _,Int.le_refl _,Int.le_refl _,by rw[zd];omega⟩ ?_
   . rw[zf npt,zK,e1]
   . exact zBZ (zG hp) ht0
theorem zGN:zAN ["_law_tape_here", "_law_many", "_law_found", "_law_spot", "_law_cell", "_law_mixed"] ["_law_tape_here", "_law_many"] (defScope zEC):=⟨rfl,rfl,rfl,by decide +kernel,rfl,by decide +kernel,by decide +kernel⟩
theorem zEi {a m:Int}(h:0<m):0<=a%m/\a%m<m:=⟨Int.emod_nonneg _ (by omega),Int.emod_lt_of_pos _ h⟩
theorem zDd {f:Addr}{fd:FuncData}(F:Fun K "_law_draw" "_law_draw" zEC f fd) (mLen:mg "len" = none):zAs P w K mg base CX0 1 f fd ["_law_tape_here", "_law_many"] zEQ:=by
 refine F.ok zGN (fun vs H Q E h=>?_) (fun cdv A outer s H vs Q E hr h=>?_)
 . obtain⟨t,p,N,many,rfl,_⟩:=h
   rfl
 . obtain⟨t,p,N,many,rfl,T,hN,hm0,hm1,k⟩:=h
   obtain⟨ns,spot,rest,ht,hp,hne,hs0,hs1,hr0,hl⟩:=T
   refine⟨_,zV (zBc (zAF zEf (zAM zAw (pv 0) zX (fun _ _=>rfl)) zX (zAg _))
    (zV (zAL (i:=2) zGN.nd rfl (Or.inl rfl) (zAz zEd (zAM zAw (pv 0) zX (fun _ _=>rfl)) (pv 1)))
    (zV (zJR (zAz zFo (zAM zAw (pv 0) zX (fun _ _=>rfl)) (pv 1)) (zJY (pv 0) zX zFf))
    (ze (zAH (pv 2))))) zAZ)
    (zV (zAL (i:=3) zGN.nd rfl (Or.inl rfl) (zAM zAw (pv 0) zX (fun _ _=>rfl)))
    (zV (zJR (zAz zCK (pv 3) zX) (zJY (pv 0) zX zFf))
    (zV (zAL (i:=4) zGN.nd rfl (Or.inl rfl) (zHl (zAF zEf (zn zy (by rfl) mLen PySem.boot_len (zC (zAM zAw (pv 0) zX (fun _ _=>rfl)) zL)) zX (zAg _))
     (zAM zAw (zAM zAw (pv 0) zX (fun _ _=>rfl)) (zAz zEd (pv 3) (zn zy (by rfl) mLen PySem.boot_len (zC (zAM zAw (pv 0) zX (fun _ _=>rfl)) zL))) (fun _ _=>rfl)) zX))
    (zV (zBc (zCV (zAF zK6 (pv 4) (zAz op_pow zX zX) (zAg _)) (zCF (zAF zJh (pv 3) (zn zy (by rfl) mLen PySem.boot_len (zC (zAM zAw (pv 0) zX (fun _ _=>rfl)) zL)) (zAg _)))).pt
     (zV (zJR (zAz zFo (pv 4) (pv 1)) (zJY (pv 0) zX zFf)) (ze (zAH (zAz zEd (pv 4) (pv 1))))) zAZ)
    (zV (zAL (i:=5) zGN.nd rfl (Or.inl rfl) (zAz zEd (zAz zGV (zAz zCK (zAz zEd (pv 4) zX) zX) (zAz zCK zX (zAz zGV zX (pv 3)))) zX))
    (ze (zAH (zAz zEd (zAz zFo (zAz zEd (zAz zGV (zAz zCK (pv 5) (zAz zGV (zAz zGV zX (pv 3)) (pv 3))) zX) zX) zX) (pv 1))))))))),?_⟩
   have cd:CDiv 0 many:=⟨hm0,by omega⟩
   refine⟨_,rfl,t,_,_,_,rfl,rfl,SqL.of ht,rfl,_,_,rfl,rfl,_,rfl,?_⟩
   refine zFV (fun hc=>?_) (fun hc=>?_)
   . have hpos:0<rest:=of_decide_eq_true hc
     refine⟨_,rfl,t,_,_,_,rfl,rfl,SqL.of ht,rfl,_,rfl,_,_,rfl,rfl,hm0,?_⟩
     refine⟨_,rfl,t,_,_,_,rfl,rfl,SqL.of ht,rfl,_,rfl,_,_,rfl,rfl,cd,?_⟩
     refine⟨_,rfl,t,_,_,2,rfl,rfl,ht,rfl,?_⟩
     refine⟨_,rfl,?_⟩
     refine k _ _ (zEi hm0).1 (zEi hm0).2 ⟨ns,spot,rest/many,zK,by rw[zf hne];exact hp,hne,hs0,by omega,Int.ediv_nonneg hr0 (by omega),hl⟩ fun b hb=>zf hb
   . -- spot=tape[1];tape[1]=spot+1
     refine⟨_,rfl,t,_,_,_,rfl,rfl,SqL.of ht,rfl,?_⟩
     refine⟨_,rfl,_,_,rfl,rfl,_,rfl,t,_,_,1,rfl,rfl,ht,rfl,?_⟩
     have ht1:(upd H t (.lst [.ref p,.int (spot+1),.int rest])) t=some (.lst [.ref p,.int (spot+1),.int rest]):=zK
     have hp1:(upd H t (.lst [.ref p,.int (spot+1),.int rest])) p=some (.lst (ns.map V.int)):=by rw[zf hne];exact hp
     have ex:0<((ns.map V.int).length:Int)->∃c,atI (ns.map V.int) (spot%((ns.map V.int).length:Int))=some (.int c):=fun h=>by
      have hb:=zEi (a:=spot) h
      obtain⟨j,hj⟩:=zBG hb.1
      have hlt:j<ns.length:=by
       have h2:=hb.2
       rw[hj,zE] at h2
       omega
      refine⟨ns[j],?_⟩
      rw[hj]
      exact zCC (by simp[hlt])
     refine⟨_,rfl,t,_,_,_,rfl,rfl,SqL.of ht1,rfl,p,_,rfl,.inl (SqL.of hp1),_,_,rfl,rfl,_,rfl,?_⟩
     refine zFV (fun h2=>?a) (fun h2=>?b)
     case' a=>
      obtain⟨c,hc⟩:=ex (of_decide_eq_true h2)
      refine⟨_,rfl,t,_,_,_,rfl,rfl,SqL.of ht1,rfl,_,rfl,_,rfl,t,_,_,_,rfl,rfl,SqL.of ht1,rfl,p,_,rfl,.inl (SqL.of hp1),_,_,rfl,rfl,of_decide_eq_true h2,p,_,_,_,rfl,rfl,SqL.of hp1,hc,?_⟩
     all_goals
      refine⟨_,rfl,_,_,rfl,rfl,⟨by decide,by decide,by decide⟩,_,_,rfl,rfl,_,rfl,?_⟩
      refine zFV (fun h3=>?_) (fun h3=>?_)
     all_goals first
      | (refine⟨_,rfl,_,rfl,t,_,_,_,rfl,rfl,SqL.of ht1,rfl,p,_,rfl,.inl (SqL.of hp1),_,_,rfl,rfl,_,rfl,?_⟩;refine zFV (fun h4=>?_) (fun h4=>?_))
      | refine zCZ ?_
     all_goals first
      | (refine⟨_,rfl,_,rfl,_,_,rfl,rfl,⟨hm0,by omega⟩,_,rfl,t,_,_,2,rfl,rfl,ht1,rfl,?_⟩
         refine⟨_,rfl,_,rfl,_,_,rfl,rfl,hm0,?_⟩
         refine k _ _ (zEi hm0).1 (zEi hm0).2 ⟨ns,spot+1,_,zK,by rw[zf hne];exact hp1,hne,by omega,by omega,Int.ediv_nonneg (Int.le_trans (show (0:Int)<=10 ^ (18:Int).toNat by decide) (of_decide_eq_true h3)) (by omega),hl⟩ fun b hb=>by rw[zf hb,zf hb])
      | (refine⟨_,rfl,_,_,rfl,rfl,(by dsimp only;decide),_,_,rfl,rfl,_,rfl,_,_,rfl,rfl,.inl ⟨by decide,by decide⟩,_,_,rfl,rfl,_,_,rfl,rfl,.inl ⟨by omega,by omega⟩,_,_,rfl,rfl,(by dsimp only;decide),?_⟩
         refine⟨_,rfl,_,rfl,_,_,rfl,rfl,.inl ⟨by decide,by decide⟩,_,rfl,_,_,rfl,rfl,.inr ⟨by omega,by omega⟩,_,_,rfl,rfl,_,_,rfl,rfl,.inr ⟨by decide,by decide⟩,_,_,rfl,rfl,(by dsimp only;decide),_,_,rfl,rfl,⟨by decide,by decide⟩,_,rfl,_,_,rfl,rfl,hm0,?_⟩
         refine k _ _ (zEi hm0).1 (zEi hm0).2 ⟨ns,spot+1,rest,ht1,hp1,hne,by omega,by omega,hr0,hl⟩ fun b hb=>zf hb)
theorem zHB {f:Addr}{fd:FuncData}(F:Fun K "_law_draw" "_law_draw" zEC f fd) (mLen:mg "len" = none):zAs P w K mg base CX0 1 f fd ["_law_tape_here", "_law_many"] zGH:=
 (zDd F mLen).imp fun vs H Q E ⟨t,N,many,e,⟨p,T⟩,a,b,c,k⟩=>⟨t,p,N,many,e,T,a,b,c,fun r H' h0 h1 T' he=>k r H' h0 h1 ⟨p,T'⟩ he⟩
end
end K39
namespace K39
open PySem L2 WM
theorem zHF {L:List Int}{r:Int}(h0:0<=r)(h1:r<L.length):∃n,n∈L/\atI (L.map V.int) r=some (.int n):=by
 obtain⟨j,rfl⟩:=zBG h0
 have hj:j<L.length:=by omega
 exact⟨L[j],zAS hj,zCC (by simp[hj])⟩
noncomputable def spN:Sp:=fun vs H Q _=>∃(t:Addr)(N:Nat),vs=[.ref t]/\zAE H t N/\N<900000/\∀(n:Int)(H':Hp),1<=n->n<=12->zAE H' t (N+1)->Sm t H H'->Q (.int n) H'
noncomputable def zC0 (H:Hp)(wa:Addr)(n:Int)(ts:List T3):Prop:=∃(ta:Addr)(tys:List V),H wa=some (.tup [.int n,.ref ta])/\H ta=some (.tup tys)/\zAy H tys (ts.map tl)/\GW n ts
theorem zC0.keepT {H H':Hp}{wa:Addr}{n:Int}{ts:List T3}(h:zC0 H wa n ts)(k:∀b ys,H b=some (.tup ys)->H' b=some (.tup ys)):zC0 H' wa n ts:=by
 obtain⟨ta,tys,a,b,c,d⟩:=h
 exact⟨ta,tys,k _ _ a,k _ _ b,c.keep k,d⟩
theorem zC0.keep {H H':Hp}{wa:Addr}{n:Int}{ts:List T3}(h:zC0 H wa n ts)(k:zAo H H'):zC0 H' wa n ts:=h.keepT fun b _ e=>k b _ e
theorem zC0.sm {H H':Hp}{wa t:Addr}{N:Nat}{n:Int}{ts:List T3}(h:zC0 H wa n ts)(T:zAE H t N)(k:Sm t H H'):zC0 H' wa n ts:=h.keepT fun b _ e=>by
 obtain⟨p,ns,spot,rest,a,_⟩:=T
 exact k b _ (zDe e a (by intro z;cases z)) e
noncomputable def spWeb:Sp:=fun vs H Q _=>∃(t:Addr)(N:Nat)(n:Int),vs=[.ref t,.int n]/\zAE H t N/\N<900000/\1<=n/\n<=24 /\
 ∀(wa:Addr)(ts:List T3)(H':Hp),H wa=none->zC0 H' wa n ts->zAE H' t (N+200)->Sm t H H'->Q (.ref wa) H'
noncomputable def JD (n:Int)(kvs:List (List Key×V)):Prop:=(∀kv∈kvs,∃a b l:Int,kv=([Sum.inl a,Sum.inl b],V.int l)/\0<=a/\a<b/\b<n/\1<=l/\l<=99)/\(kvs.map (·.1)).Nodup
theorem JD.nil (n:Int):JD n []:=⟨fun _ h=>by simp at h,List.nodup_nil⟩
theorem JD.put {n:Int}{kvs:List (List Key×V)}(h:JD n kvs){a b l:Int}(h0:0<=a)(h1:a<b)(h2:b<n)(h3:1<=l)(h4:l<=99):JD n (zD5 kvs [Sum.inl a,Sum.inl b] (.int l)):=by
 cases e:zC1 kvs [Sum.inl a,Sum.inl b] with
 | none=>
  refine⟨fun kv hkv=>?_,zMh _ h.2 e⟩
  rw[zFj _ e] at hkv
  rcases zJ.mp hkv with q | q
  . exact h.1 kv q
  . rw[zk.mp q];exact⟨a,b,l,rfl,h0,h1,h2,h3,h4⟩
 | some v=>
  have ha:(kvs.any fun kv=>decide (kv.1=[Sum.inl a,Sum.inl b]))=true:=by rw[zCe,e];rfl
  unfold zD5
  rw[if_pos ha]
  refine⟨fun kv hkv=>?_,?_⟩
  . obtain⟨q,hq,e2⟩:=zAY.mp hkv
    by_cases hk:q.1=[Sum.inl a,Sum.inl b]
    . rw[if_pos hk,hk] at e2;rw[<-e2];exact⟨a,b,l,rfl,h0,h1,h2,h3,h4⟩
    . rw[if_neg hk] at e2;rw[<-e2];exact h.1 q hq
  . have e3:(kvs.map fun kv=>if kv.1=[Sum.inl a,Sum.inl b] then (kv.1,V.int l) else kv).map (·.1)=kvs.map (·.1):=by
     rw[List.map_map]
     refine List.map_congr_left fun kv _=>?_
     show (if kv.1=[Sum.inl a,Sum.inl b] then (kv.1,V.int l) else kv).1=kv.1
     split <;> rfl
    rw[e3];exact h.2
noncomputable def unk:Key->Int
 | .inl i=>i
 | .inr _=>0
noncomputable def zFE (kvs:List (List Key×V)):List (List Int):=kvs.map fun kv=>kv.1.map unk
theorem JD.keys {n:Int}{kvs:List (List Key×V)}(h:JD n kvs):kvs.map (·.1)=(zFE kvs).map (List.map Sum.inl):=by
 unfold zFE
 rw[List.map_map]
 refine List.map_congr_left fun kv hkv=>?_
 obtain⟨a,b,l,e,_⟩:=h.1 kv hkv
 rw[e];rfl
theorem JD.ne {n:Int}{kvs:List (List Key×V)}(h:JD n kvs):∀k∈zFE kvs,k≠[]:=fun k hk=>by
 obtain⟨kv,hkv,e⟩:=zAY.mp hk
 obtain⟨a,b,l,e2,_⟩:=h.1 kv hkv
 rw[<-e,e2];simp[List.map]
theorem JD.nd {n:Int}{kvs:List (List Key×V)}(h:JD n kvs):(zFE kvs).Nodup:=by
 have e:=h.2
 rw[h.keys] at e
 rw[List.Nodup,List.pairwise_map] at e
 exact e.imp fun h e'=>h (by rw[e'])
theorem JD.val {n:Int}{kvs:List (List Key×V)}(h:JD n kvs){k:List Int}(hk:k∈zFE kvs):∃a b l,k=[a,b]/\zC1 kvs [Sum.inl a,Sum.inl b]=some (.int l)/\0<=a/\a<b/\b<n/\1<=l/\l<=99:=by
 obtain⟨kv,hkv,e⟩:=zAY.mp hk
 obtain⟨a,b,l,e2,h0,h1,h2,h3,h4⟩:=h.1 kv hkv
 have ek:k=[a,b]:=by rw[<-e,e2];rfl
 have hm:(kvs.any fun kv=>decide (kv.1=[Sum.inl a,Sum.inl b]))=true:=List.any_eq_true.mpr ⟨kv,hkv,zQ (by rw[e2])⟩
 rw[zCe] at hm
 cases hv:zC1 kvs [Sum.inl a,Sum.inl b] with
 | none=>rw[hv] at hm;cases hm
 | some v=>
  have hv0:=hv
  unfold zC1 at hv
  cases hf:kvs.find? fun kv=>decide (kv.1=[Sum.inl a,Sum.inl b]) with
  | none=>rw[hf] at hv;cases hv
  | some q=>
   rw[hf] at hv
   obtain⟨a',b',l',e3,_,_,_,g3,g4⟩:=h.1 q (List.mem_of_find?_eq_some hf)
   have ev:v = .int l':=by rw[e3] at hv;exact (zm hv).symm
   exact⟨a,b,l',ek,by rw[hv0,ev],h0,h1,h2,g3,g4⟩
section
variable {P:Program}{w:World}{K:PySem.W.Frag}{mg:Str->Option Value}{base:Heap}
theorem scN:zAN ["_law_tape_here"] ["_law_tape_here"] (defScope sN):=⟨rfl,rfl,rfl,by decide +kernel,rfl,by decide +kernel,by decide +kernel⟩
theorem ok_n {f fD:Addr}{fd fdD:FuncData}(F:Fun K "_law_n" "_law_n" sN f fd) (FD:Fun K "_law_draw" "_law_draw" zEC fD fdD) (bD:zAI K fdD ["_law_tape_here", "_law_many"] []) (mD:mg "_law_draw" = some (.ref fD)) (mLen:mg "len" = none) :
 zAs P w K mg base CX0 2 f fd ["_law_tape_here"] spN:=by
 have GD:zAs P w K mg base CX0 1 fD fdD ["_law_tape_here", "_law_many"] zGH:=zHB FD mLen
 refine F.ok scN (fun vs H Q E h=>?_) (fun cdv A outer s H vs Q E hr h=>?_)
 . obtain⟨t,N,rfl,_⟩:=h
   rfl
 . obtain⟨t,N,rfl,T,hN,k⟩:=h
   obtain⟨es,q1,q2,j3,q3,q4,p1,p2,p3,hb,hes⟩:∃es q1 q2 j3 q3 q4 p1 p2 p3,defBody sN=[.Return (some (.Subscript (.List es p1) (.Call (.Name "_law_draw" q1) [.Name "_law_tape_here" q2,.Constant (.int 12) j3 q3] [] q4) p2)) p3] /\
    zD3 es [1,2,3,4,5,6,7,8,6,5,4,12]:=⟨_,_,_,_,_,_,_,_,_,rfl,by repeat constructor⟩
   rw[hb]
   refine⟨_,ze (zAH (zAM zAw (zBx (zJe hes))
    (zl GD hr rfl mD FD.kp bD .nil zAU (zC (pv 0) (zC zX zL))) (fun _ _=>rfl))),?_⟩
   refine⟨by show 12<=sizeLine;decide,fun l hl=>?_⟩
   refine⟨_,rfl,t,N,12,rfl,T.laid hl,by omega,by decide,by decide,fun r H' h0 h1 T' he=>?_⟩
   have nlt:l≠t:=T.ne hl
   obtain⟨n,hn,ha⟩:=zHF (L:=[1,2,3,4,5,6,7,8,6,5,4,12]) h0 h1
   have hb:1<=n/\n<=12:=by
    have:∀m∈([1,2,3,4,5,6,7,8,6,5,4,12]:List Int),1<=m/\m<=12:=by decide
    exact this n hn
   refine⟨l,_,_,_,rfl,rfl,SqL.of (by rw[he l nlt];exact zK),ha,?_⟩
   refine k n H' hb.1 hb.2 T' fun b o hb e=>?_
   rw[he b hb,zf (zo e hl)]
   exact e
end
section
variable {P:Program}{w:World}{K:PySem.W.Frag}{mg:Str->Option Value}{base:Heap}
structure WI (H:Hp)(t d la:Addr)(n:Int)(N m:Nat)(H2:Hp):Prop where
 sm:Sm t H H2
 tp:zAE H2 t N
 dc:∃kvs,H2 d=some (.dT kvs)/\JD n kvs/\kvs.length<=m
 lg:∃l0 l1 l2:Int,H2 la=some (.lst [.int l0,.int l1,.int l2])/\(∀l∈[l0,l1,l2],1<=l/\l<=99)
theorem WI.draw {H H2 H3:Hp}{t d la:Addr}{n:Int}{N m:Nat}(h:WI H t d la n N m H2)(hd:d≠t)(hl:la≠t)(T:zAE H3 t (N+1))(he:∀b,b≠t->H3 b=H2 b):WI H t d la n (N+1) m H3:=by
 refine⟨fun b o nb e=>by rw[he b nb];exact h.sm b o nb e,T,?_,?_⟩
 . rw[he d hd];exact h.dc
 . rw[he la hl];exact h.lg
theorem WI.laid {H H2:Hp}{t d la l:Addr}{n:Int}{N m:Nat}{o:HO}(h:WI H t d la n N m H2)(hl:H2 l=none):WI H t d la n N m (upd H2 l o):=by
 obtain⟨kvs,a,b⟩:=h.dc
 obtain⟨l0,l1,l2,c,e⟩:=h.lg
 exact⟨h.sm.trans (Sm.laid hl),h.tp.laid hl,⟨kvs,by rw[zf (zo a hl)];exact a,b⟩,⟨l0,l1,l2,by rw[zf (zo c hl)];exact c,e⟩⟩
theorem WI.put {H H2:Hp}{t d la:Addr}{n:Int}{N m:Nat}{kvs:List (List Key×V)}(h:WI H t d la n N m H2)(hd0:H d=none)(hd:H2 d=some (.dT kvs)){a b l:Int}(h0:0<=a)(h1:a<b)(h2:b<n)(h3:1<=l)(h4:l<=99) :
 WI H t d la n N (m+1) (upd H2 d (.dT (zD5 kvs [Sum.inl a,Sum.inl b] (.int l)))):=by
 obtain⟨kvs',e,j,hm⟩:=h.dc
 rw[hd] at e
 cases e
 obtain⟨l0,l1,l2,c,e⟩:=h.lg
 refine⟨h.sm.chg hd0,h.tp.chg hd (by intro xs z;cases z),⟨_,zK,j.put h0 h1 h2 h3 h4,?_⟩,⟨l0,l1,l2,by rw[zf (zDe c hd (by intro z;cases z))];exact c,e⟩⟩
 have:=zCu kvs [Sum.inl a,Sum.inl b] (V.int l)
 omega
theorem WI.up {H H2:Hp}{t d la:Addr}{n:Int}{N m N' m':Nat}(h:WI H t d la n N m H2)(hN:N<=N')(hm:m<=m'):WI H t d la n N' m' H2:=by
 obtain⟨kvs,a,b,c⟩:=h.dc
 exact⟨h.sm,h.tp.mono hN,⟨kvs,a,b,by omega⟩,h.lg⟩
theorem at3 {l0 l1 l2 r:Int}(h:∀l∈[l0,l1,l2],1<=l/\l<=99)(h0:0<=r)(h1:r<3):∃l,atI [V.int l0,V.int l1,V.int l2] r=some (.int l)/\1<=l/\l<=99:=by
 obtain⟨l,hl,ha⟩:=zHF (L:=[l0,l1,l2]) h0 h1
 exact⟨l,ha,h l hl⟩
theorem zu {n:Nat}(h:n<=100000):n<sizeLine:=zAx h (by decide)
theorem zL8 {n:Int}{kvs:List (List Key×V)}{ms:List (List Int)}(h:JD n kvs)(hp:ms.Perm (zFE kvs))(hl:kvs.length<64)(hn:1<=n)(hn2:n<=24){ts:List T3}(e:ts.map (fun t=>[t.1,t.2.1])=ms)(hr:∀t∈ts,0<=t.1/\t.1<t.2.1/\t.2.1<n/\1<=t.2.2/\t.2.2<=99):GW n ts:=by
 have hlen:ts.length=kvs.length:=by
  have:=hp.length_eq
  rw[<-e] at this
  simpa [zFE] using this
 refine⟨hn,hn2,by omega,hr,?_⟩
 have nd:(ts.map fun t:T3=>[t.1,t.2.1]).Nodup:=by rw[e];exact hp.nodup_iff.mpr h.nd
 rw[List.Nodup,List.pairwise_map] at nd
 exact nd.imp fun hne hc=>hne (by rw[hc.1,hc.2])
theorem zGy:zAN ["_law_tape_here", "_law_n_here", "_law_longs", "_law_joined", "_law_b", "_law_k", "_law_a"] ["_law_tape_here", "_law_n_here"] (defScope sWeb):=⟨rfl,rfl,rfl,by decide +kernel,rfl,by decide +kernel,by decide +kernel⟩
theorem ok_web {f fD:Addr}{fd fdD:FuncData}(F:Fun K "_law_web" "_law_web" sWeb f fd) (FD:Fun K "_law_draw" "_law_draw" zEC fD fdD) (bD:zAI K fdD ["_law_tape_here", "_law_many"] []) (mD:mg "_law_draw" = some (.ref fD)) (mLen:mg "len" = none)
 (mRange:mg "range" = none) (mTuple:mg "tuple" = none) (mSorted:mg "sorted" = none):zAs P w K mg base CX0 2 f fd ["_law_tape_here", "_law_n_here"] spWeb:=by
 have GD:zAs P w K mg base CX0 1 fD fdD ["_law_tape_here", "_law_many"] zGH:=zHB FD mLen
 refine F.ok zGy (fun vs H Q E h=>?_) (fun cdv A outer s H vs Q E hr h=>?_)
 . obtain⟨t,N,n,rfl,_⟩:=h
   rfl
 . obtain⟨t,N,n,rfl,T,hN,hn1,hn2,k⟩:=h
   have hu:=zIj hr
   obtain⟨es,q0,q1,q2,j3,q3,q4,p1,p2,p3,hbd,hes⟩:∃es q0 q1 q2 j3 q3 q4 p1 p2 p3,defBody sWeb = .Assign [.Name "_law_longs" q0] (.Subscript (.List es p1) (.Call (.Name "_law_draw" q1) [.Name "_law_tape_here" q2,.Constant (.int 4) j3 q3] [] q4) p2) p3::(defBody sWeb).drop 1 /\
    zDp es [[1,1,1],[1,2,1],[1,2,3],[5,99,7]]:=⟨_,_,_,_,_,_,_,_,_,_,rfl,.cons (.cons (.cons (.cons .nil))) (by show 3<=sizeLine;decide) (.cons (.cons (.cons (.cons .nil))) (by show 3<=sizeLine;decide) (.cons (.cons (.cons (.cons .nil))) (by show 3<=sizeLine;decide) (.cons (.cons (.cons (.cons .nil))) (by show 3<=sizeLine;decide) (.nil))))⟩
   rw[hbd]
   refine⟨_,zV (zAL (i:=2) zGy.nd rfl (Or.inl rfl) (zAM zAw (zBx (zK5 hes))
    (zl GD hr rfl mD FD.kp bD .nil zAU (zC (pv 0) (zCh zL))) (fun _ _=>rfl)))
    (zV (zAL (i:=3) zGy.nd rfl (Or.inr rfl) zK2)
    (zV (zBc (zAF zEf (zl GD hr rfl mD FD.kp bD .nil zAU (zC (pv 0) (zCh zL))) zX (zAg _))
     (ze (zCI PassesOwn.never rfl (zGU rfl mRange (zCh (zC (pv 1) zL))) (zAX (i:=4) zGy.nd rfl (Or.inl rfl))
      (ze (zG5 hu (pv 3) (zAm (zC (zl GD hr rfl mD FD.kp bD .nil zAU (zC (pv 0) (zC (pv 4) zL))) (zC (pv 4) zL)))
       (zAM zAw (pv 2) (zl GD hr rfl mD FD.kp bD .nil zAU (zC (pv 0) (zCh zL))) (fun _ _=>rfl)) rfl)))) zAZ)
    (zV (zCI PassesOwn.never rfl (zBw rfl mRange (zC (zl GD hr rfl mD FD.kp bD .nil zAU (zC (pv 0) (zC (zAz zCK (zAz zCK zX (pv 1)) (zAz zFo (pv 1) zX)) zL))) zL)) (zAX (i:=5) zGy.nd rfl (Or.inl rfl))
     (zV (zAL (i:=6) zGy.nd rfl (Or.inl rfl) (zl GD hr rfl mD FD.kp bD .nil zAU (zC (pv 0) (zC (pv 1) zL))))
     (zV (zAL (i:=4) zGy.nd rfl (Or.inl rfl) (zl GD hr rfl mD FD.kp bD .nil zAU (zC (pv 0) (zC (pv 1) zL))))
     (ze (zBc (zAF zJh (pv 6) (pv 4) (zAg _)) (ze (zG5 hu (pv 3) (zAm (zC (pv 6) (zC (pv 4) zL)))
      (zAM zAw (pv 2) (zl GD hr rfl mD FD.kp bD .nil zAU (zC (pv 0) (zCh zL))) (fun _ _=>rfl)) rfl)) zAZ)))))
    (ze (zAH (zAm (zC (pv 1) (zC (zAv zAp (by rfl) mTuple (by decide +kernel) (zC
     (zCO (own:=["_law_pair"]) (cn:=["_law_joined"]) (ci:=[3]) rfl (csc rfl rfl) ⟨rfl,rfl,rfl,trivial⟩ rfl
      (zDu (zn (zGk rfl) (by rfl) mSorted (by decide +kernel) (zC (pv 3) zL))) (fun _ _ _ _=>zAX (i:=0) (zDT rfl) rfl (Or.inl rfl)) (fun _ _ _ _=>zCm)
      (fun _ _ _ _=>zAm (zC (zAM zEr (pv 0) zX (fun _ _=>rfl)) (zC (zAM zEr (pv 0) zX (fun _ _=>rfl)) (zC (zMV hu (pv 1) (pv 0) (fun _ _=>rfl)) zL))))) zL)) zL)))))))),?_⟩
   intro a1 e1 a2 e2 a3 e3 a4 e4
   refine⟨by show 4<=sizeLine;decide,fun al el=>?_⟩
   have T5:=((((T.laid (o:=.lst [.int 1,.int 1,.int 1]) e1).laid (o:=.lst [.int 1,.int 2,.int 1]) e2).laid (o:=.lst [.int 1,.int 2,.int 3]) e3).laid (o:=.lst [.int 5,.int 99,.int 7]) e4).laid (o:=.lst [.ref a1,.ref a2,.ref a3,.ref a4]) el
   refine⟨_,rfl,t,N,4,rfl,T5,by omega,by decide,by decide,fun r H1 h0 h1 T1 he1=>?_⟩
   have nel:al≠t:=((((T.laid (o:=.lst [.int 1,.int 1,.int 1]) e1).laid (o:=.lst [.int 1,.int 2,.int 1]) e2).laid (o:=.lst [.int 1,.int 2,.int 3]) e3).laid (o:=.lst [.int 5,.int 99,.int 7]) e4).ne el
   obtain⟨la,l0,l1,l2,hat,hla,hb,nla⟩:∃(la:Addr)(l0 l1 l2:Int),atI [V.ref a1,V.ref a2,V.ref a3,V.ref a4] r=some (.ref la)/\H1 la=some (.lst [.int l0,.int l1,.int l2])/\(∀l∈[l0,l1,l2],1<=l/\l<=99)/\la≠t:=by
    have n1:a1≠t:=T.ne e1
    have n2:a2≠t:=(T.laid (o:=.lst [.int 1,.int 1,.int 1]) e1).ne e2
    have n3:a3≠t:=((T.laid (o:=.lst [.int 1,.int 1,.int 1]) e1).laid (o:=.lst [.int 1,.int 2,.int 1]) e2).ne e3
    have n4:a4≠t:=(((T.laid (o:=.lst [.int 1,.int 1,.int 1]) e1).laid (o:=.lst [.int 1,.int 2,.int 1]) e2).laid (o:=.lst [.int 1,.int 2,.int 3]) e3).ne e4
    have g1:H1 a1=some (.lst [.int 1,.int 1,.int 1]):=by rw[he1 a1 n1];exact zG el _ _ (zG e4 _ _ (zG e3 _ _ (zG e2 _ _ zK)))
    have g2:H1 a2=some (.lst [.int 1,.int 2,.int 1]):=by rw[he1 a2 n2];exact zG el _ _ (zG e4 _ _ (zG e3 _ _ zK))
    have g3:H1 a3=some (.lst [.int 1,.int 2,.int 3]):=by rw[he1 a3 n3];exact zG el _ _ (zG e4 _ _ zK)
    have g4:H1 a4=some (.lst [.int 5,.int 99,.int 7]):=by rw[he1 a4 n4];exact zG el _ _ zK
    have hr4:r=0\/r=1\/r=2\/r=3:=by omega
    rcases hr4 with rfl | rfl | rfl | rfl
    . exact⟨a1,1,1,1,rfl,g1,by decide,n1⟩
    . exact⟨a2,1,2,1,rfl,g2,by decide,n2⟩
    . exact⟨a3,1,2,3,rfl,g3,by decide,n3⟩
    . exact⟨a4,5,99,7,rfl,g4,by decide,n4⟩
   refine⟨al,_,_,_,rfl,rfl,SqL.of (by rw[he1 al nel];exact zK),hat,?_⟩
   have sm1:Sm t H H1:=fun b o nb e=>by
    rw[he1 b nb]
    exact zG el _ _ (zG e4 _ _ (zG e3 _ _ (zG e2 _ _ (zG e1 _ _ e))))
   intro d hd
   have nd:d≠t:=T1.ne hd
   have hd0:H d=none:=by
    cases q:H d with
    | none=>rfl
    | some o=>have:=sm1 d o nd q;rw[hd] at this;cases this
   have W0:WI H t d la n (N+1) 0 (upd H1 d (.dT [])):=⟨sm1.chg hd0,T1.laid hd,⟨[],zK,JD.nil n,zH _⟩,⟨l0,l1,l2,by rw[zf (zo hla hd)];exact hla,hb⟩⟩
   refine⟨_,rfl,t,N+1,3,rfl,W0.tp,by omega,by decide,by decide,fun r1 H2 _ _ T2 he2=>?_⟩
   have W2:=W0.draw nd nla T2 he2
   refine⟨_,_,rfl,rfl,_,rfl,?_⟩
   refine zFV (fun _=>?a) (fun _=>?b)
   case' a=>
    refine⟨_,rfl,1,n,rfl,⟨by decide,by decide,by omega,by omega⟩,zCL (lo:=1) (n:=(n-1).toNat) (fun i σ H3=>∃vb:Option V,σ=[some (.ref t),some (.int n),some (.ref la),some (.ref d),vb,none,none]/\WI H t d la n (N+2+2*i) i H3) ⟨none,rfl,W2⟩ ?turn ?after⟩
    case turn=>
     rintro i σ H3 hi ⟨vb,rfl,W⟩
     obtain⟨m0,m1,m2,hm,hmb⟩:=W.lg
     refine⟨_,rfl,_,rfl,t,N+2+2*i,3,rfl,W.tp,by omega,by decide,by decide,fun r3 H4 g0 g1 T4 he4=>?_⟩
     have W4:=W.draw nd nla T4 he4
     obtain⟨lg,hlg,hg1,hg2⟩:=at3 hmb g0 g1
     refine⟨la,_,_,_,rfl,rfl,SqL.of (by rw[he4 la nla];exact hm),hlg,?_⟩
     refine⟨_,rfl,_,rfl,_,rfl,t,N+2+2*i+1,1+i,rfl,W4.tp,by omega,by omega,by omega,fun r5 H5 q0 q1 T5 he5=>?_⟩
     have W5:=W4.draw nd nla T5 he5
     refine⟨_,rfl,by show 2<=sizeLine;decide,fun p hp=>?_⟩
     have W6:=W5.laid (o:=.tup [.int r5,.int (1+i)]) hp
     obtain⟨kvs,hk,J,hkl⟩:=W6.dc
     refine⟨d,_,rfl,DPut.t (k:=[Sum.inl r5,Sum.inl (1+(i:Int))]) hk zK (zu (by omega)),?_⟩
     exact⟨_,rfl,(W6.put hd0 hk q0 q1 (by omega) hg1 hg2).up (by omega) (by omega)⟩
    case' after=>
     rintro σ H3 ⟨vb,rfl,W⟩
     have W3:WI H t d la n (N+50) 23 H3:=W.up (by omega) (by omega)
   case' b=>
    have W3:WI H t d la n (N+50) 23 H2:=W2.up (by omega) (by omega)
   all_goals
    refine⟨_,rfl,_,rfl,_,_,rfl,rfl,_,rfl,_,_,rfl,rfl,⟨by decide,by decide⟩,_,_,rfl,rfl,t,N+50,_,rfl,W3.tp,by omega,by omega,by omega,fun r4 H4 p0 p1 T4 he4=>?_⟩
    have W4:=W3.draw nd nla T4 he4
    refine⟨r4,rfl,by omega,by omega,zCL (lo:=0) (n:=r4.toNat) (fun i σ H5=>∃vb vk va:Option V,σ=[some (.ref t),some (.int n),some (.ref la),some (.ref d),vb,vk,va]/\WI H t d la n (N+51+3*i) (23+i) H5) ⟨_,_,_,rfl,W4⟩ ?turn2 ?after2⟩
    case turn2=>
     rintro i σ H5 hi ⟨vb,vk,va,rfl,W⟩
     refine⟨_,rfl,_,rfl,t,N+51+3*i,n,rfl,W.tp,by omega,by omega,by omega,fun a H6 a0 a1 T6 he6=>?_⟩
     have W6:=W.draw nd nla T6 he6
     refine⟨_,rfl,_,rfl,t,N+51+3*i+1,n,rfl,W6.tp,by omega,by omega,by omega,fun b H7 b0 b1 T7 he7=>?_⟩
     have W7:=W6.draw nd nla T7 he7
     refine⟨_,rfl,_,rfl,_,_,rfl,rfl,_,rfl,?_⟩
     refine zFV (fun hc=>?_) (fun hc=>?_)
     . have hab:a<b:=of_decide_eq_true hc
       obtain⟨m0,m1,m2,hm,hmb⟩:=W7.lg
       refine⟨_,rfl,_,rfl,t,N+51+3*i+1+1,3,rfl,W7.tp,by omega,by decide,by decide,fun r3 H8 g0 g1 T8 he8=>?_⟩
       have W8:=W7.draw nd nla T8 he8
       obtain⟨lg,hlg,hg1,hg2⟩:=at3 hmb g0 g1
       refine⟨la,_,_,_,rfl,rfl,SqL.of (by rw[he8 la nla];exact hm),hlg,?_⟩
       refine⟨_,rfl,_,rfl,_,rfl,by show 2<=sizeLine;decide,fun p hp=>?_⟩
       have W9:=W8.laid (o:=.tup [.int a,.int b]) hp
       obtain⟨kvs,hk,J,hkl⟩:=W9.dc
       refine⟨d,_,rfl,DPut.t (k:=[Sum.inl a,Sum.inl b]) hk zK (zu (by omega)),?_⟩
       exact⟨_,_,_,rfl,(W9.put hd0 hk a0 hab b1 hg1 hg2).up (by omega) (by omega)⟩
     . exact⟨_,_,_,rfl,W7.up (by omega) (by omega)⟩
    case after2=>
     rintro σ H5 ⟨vb,vk,va,rfl,W⟩
     obtain⟨kvs,hk,J,hkl⟩:=W.dc
     have hk64:kvs.length<64:=by omega
     refine⟨_,rfl,_,rfl,d,kvs,zFE kvs,rfl,hk,J.keys,J.ne,by rw[zFE,zE];exact hk64,fun l zs ms hl TA hp _=>?_⟩
     refine⟨l,rfl,⟨_,SqL.of zK⟩,[.ref d],rfl,fun D hD=>?_⟩
     have hlz:=TA.length
     have hlm:ms.length=kvs.length:=by rw[hp.length_eq,zFE,zE]
     have nlD:l≠D:=fun e=>by rw[<-e,zK] at hD;cases hD
     have hk1:(upd H5 l (.lst zs)) d=some (.dT kvs):=zG hl _ _ hk
     have hD5:H5 D=none:=by rw[zf nlD.symm] at hD;exact hD
     refine zDl (a:=l) (xs:=zs) (fun i ys H6=>∃ts:List T3,ts.length=i/\ts.map (fun t:T3=>[t.1,t.2.1])=ms.take i/\(∀t∈ts,0<=t.1/\t.1<t.2.1/\t.2.1<n/\1<=t.2.2/\t.2.2<=99)/\H6 D=some (.lst ys)/\zAy H6 ys (ts.map tl)/\zAo (upd H5 l (.lst zs)) H6)
      ⟨[],rfl,rfl,fun _ h=>by simp at h,zK,trivial,zG hD⟩ (fun i ys H6 h=>?_) (fun i ys H6 h=>?_) (fun i x ys H6 hx h=>?_) (fun ys H6 h=>?_)
     . obtain⟨_,_,_,_,_,_,s6⟩:=h
       exact SqL.of (s6 _ _ zK)
     . obtain⟨ts,e1,e2,_,_,T6,_⟩:=h
       have e3:=T6.length
       rw[zE] at e3
       have e4:=congrArg List.length e2
       rw[zE,zd] at e4
       exact zu (by omega)
     . obtain⟨ts,e1,e2,hts,hD6,T6,s6⟩:=h
       obtain⟨pa,kx,ex,hkx,hpa,_⟩:=TA.get hx
       subst ex
       have hpa6:H6 pa=some (.tup (kx.map V.int)):=s6 _ _ (zG hl _ _ hpa)
       obtain⟨a,b,lg,ek,hv,a0,ab,bn,lg1,lg2⟩:=J.val (hp.mem_iff.mp (zi hkx))
       subst ek
       refine⟨⟨rfl,rfl⟩,?_⟩
       refine zKb ?_
       refine⟨_,rfl,pa,_,_,_,rfl,rfl,SqT.of hpa6,rfl,_,rfl,pa,_,_,_,rfl,rfl,SqT.of hpa6,rfl,_,rfl,_,rfl,d,_,rfl,hv ▸ zII.t (k:=[Sum.inl a,Sum.inl b]) (s6 _ _ hk1) hpa6,by show 3<=sizeLine;decide,fun p hp6=>?_⟩
       have nDp:D≠p:=zo hD6 hp6
       refine⟨by rw[zf nDp];exact hD6,ts++[(a,b,lg)],by rw[zB,e1];rfl,?_,?_,zK,?_,?_⟩
       . rw[zj,e2,zAb,hkx];rfl
       . intro t ht
         rcases zJ.mp ht with q | q
         . exact hts t q
         . rw[zk.mp q];exact⟨a0,ab,bn,lg1,lg2⟩
       . rw[zj]
         refine (T6.keep fun c xs e=>?_).snoc ⟨p,rfl,by rw[zf nDp.symm,zK];rfl,by simp[tl]⟩
         rw[zf (zDe e hD6 (by intro z;cases z)),zf (zo e hp6)]
         exact e
       . exact zBZ (s6.trans (zG hp6)) hD
     . obtain⟨ts,e1,e2,hts,hD6,T6,s6⟩:=h
       refine⟨D,ys,rfl,.inl ⟨SqL.of hD6,fun ta hta=>?_⟩⟩
       refine⟨by show 2<=sizeLine;decide,fun wa hwa=>?_⟩
       rw[hlz,za (zH _)] at e2
       have G:GW n ts:=zL8 J hp hk64 hn1 hn2 e2 hts
       have nwt:wa≠ta:=fun e=>by rw[e,zK] at hwa;cases hwa
       have h6wa:H6 wa=none:=by rw[zf nwt] at hwa;exact hwa
       have s7:zAo H6 (upd (upd H6 ta (.tup ys)) wa (.tup [.int n,.ref ta])):=zBZ (zG hta) h6wa
       have T7:zAE (upd (upd H6 ta (.tup ys)) wa (.tup [.int n,.ref ta])) t (N+200):=((W.tp.mono (by omega)).keep ((zG hl).trans (s6.trans s7)))
       have nwa:wa≠t:=((W.tp.keep ((zG hl).trans s6)).ne h6wa)
       have sm7:Sm t H (upd (upd H6 ta (.tup ys)) wa (.tup [.int n,.ref ta])):=W.sm.trans (Sm.of ((zG hl).trans (s6.trans s7)))
       refine k wa ts _ ?_ ⟨ta,ys,zK,by rw[zf nwt.symm,zK],T6.keep fun c xs e=>s7 _ _ e,G⟩ T7 sm7
       cases q:H wa with
       | none=>rfl
       | some o=>
        have:=(W.sm.trans (Sm.of ((zG hl).trans s6))) wa o nwa q
        rw[h6wa] at this;cases this
end
end K39
namespace K39
open PySem L2 WM
theorem zMt (a b:Int):eqV (.int a) (.int b)=(a==b):=rfl
theorem zBS {z:Int}:∀{l:List Int},inV (.int z) (l.map V.int)=decide (z∈l)
 | []=>rfl
 | x::r=>by
  show (eqV (.int x) (.int z) || inV (.int z) (r.map V.int))=_
  rw[zBS (l:=r),zMt]
  by_cases h:x=z
  . subst h;simp
  . have h':(x==z)=false:=by simpa using h
    rw[h',Bool.false_or]
    simp[Ne.symm h]
theorem zA8:∀(l:List Int),(l.map V.int).all zFG=true
 | []=>rfl
 | _::r=>by rw[zAG,List.all_cons,zA8 r];rfl
theorem zH7 {i j:Int}:decide (V.int i=V.int j)=decide (i=j):=by
 by_cases h:i=j
 . subst h;simp
 . rw[zS h,zS fun e=>h (by injection e)]
theorem ifT {c:Bool}{p q:Prop}(h:c=true)(hp:p):(if c=true then p else q):=by rw[if_pos h];exact hp
theorem ifF {c:Bool}{p q:Prop}(h:c=false)(hq:q):(if c=true then p else q):=by rw[if_neg (by simp[h])];exact hq
section
open PySem.Spec PyProof.Rows
structure Fn (n p:Nat)(d:PyData):Prop where
 wt:d.weight<=n
 dp:d.depth<=p
 cl:d.canLay0=true
 sh:d.intsShort 13=true
 sw:d.showable=true
theorem Fn.mono {n p n' p':Nat}{d:PyData}(h:Fn n p d)(hn:n<=n')(hp:p<=p'):Fn n' p' d:=⟨zz h.wt hn,zz h.dp hp,h.cl,h.sh,h.sw⟩
theorem zKD:Fn 0 0 .none:=⟨zH _,zH _,rfl,rfl,rfl⟩
theorem zHH (b:Bool):Fn 0 0 (.bool b):=⟨zH _,zH _,rfl,rfl,rfl⟩
theorem zIe {i:Int}(h:i.natAbs<1000000000):i.natAbs.log2<30:=by
 by_cases h0:i.natAbs=0
 . rw[h0];decide
 . exact (Nat.log2_lt h0).mpr (by omega)
theorem zDP {i:Int}(h:i.natAbs<1000000000):Fn 30 0 (.int i):=by
 have hl:=zIe h
 refine⟨?_,zH _,rfl,?_,?_⟩
 . simp only[PyData.weight]
   split <;> omega
 . simp only[PyData.intsShort,PyData.shown]
   refine zQ ?_
   have e:=int_text_length_le10 (a:=i) (k:=9) (by decide) (by simpa using h)
   have e2:(Str.ofString (toString i)).length=(toString i).length:=by
    rw[Str.ofString_eq_toList]
    show ((toString i).toList.map Char.toNat).toArray.size=_
    rw[zP,zE,String.length_toList]
   show (Str.ofString (toString i)).length<=13
   omega
 . simp only[PyData.showable]
   exact zQ (by omega)
theorem zKF {n p:Nat}:∀{ds:List PyData},(∀d∈ds,Fn n p d)->PyData.weightAll ds<=ds.length*(n+1)/\PyData.depthAll ds<=p/\PyData.canLayAll0 ds=true/\PyData.intsShortAll 13 ds=true/\PyData.showableAll ds=true
 | [],_=>⟨by simp[PyData.weightAll],by simp[PyData.depthAll],by simp[PyData.canLayAll0],by simp[PyData.intsShortAll],by simp[PyData.showableAll]⟩
 | d::ds,h=>by
  obtain⟨a,b,c,e,f⟩:=zKF (ds:=ds) fun x hx=>h x (zN _ hx)
  have g:=h d zT
  refine⟨?_,?_,?_,?_,?_⟩
  . simp only[PyData.weightAll,zY]
    have:=g.wt
    rw[Nat.add_mul]
    omega
  . simp only[PyData.depthAll]
    have:=g.dp
    omega
  . simp only[PyData.canLayAll0,g.cl,c,Bool.and_self]
  . simp only[PyData.intsShortAll,g.sh,e,Bool.and_self]
  . simp only[PyData.showableAll,g.sw,f,Bool.and_self]
theorem zD7 {n p L:Nat}{ds:List PyData}(h:∀d∈ds,Fn n p d)(hl:ds.length<=L):Fn (L*(n+1)) (p+1) (.tuple ds):=by
 obtain⟨a,b,c,e,f⟩:=zKF h
 refine⟨?_,?_,?_,?_,?_⟩
 . simp only[PyData.weight]
   exact zz a (Nat.mul_le_mul_right _ hl)
 . simp only[PyData.depth];omega
 . simp only[PyData.canLay0];exact c
 . simp only[PyData.intsShort];exact e
 . simp only[PyData.showable];exact f
theorem Fn.len {n p:Nat}{d:PyData}(h:Fn n p d)(hn:n<=1048576)(hp:p<=60):d.shown.length<=sizeLine/\d.hasDict=false:=by
 have hl:PyData.layable0 d=true:=by
  show (PyData.canLay0 d && decide (PyData.depth d<=64) && decide (PyData.weight d<=2 ^ 20))=true
  rw[h.cl,zQ (show PyData.depth d<=64 by have:=h.dp;omega),zQ (show PyData.weight d<=2 ^ 20 by have:=h.wt;omega)]
  rfl
 have e:=shown_le13 hl h.sh
 have:sizeLine=16777216:=rfl
 exact⟨by omega,PyData.hasDict_of_layable hl⟩
section
variable {X:Cx}
theorem zDm {k:Nat}(hr:zDo k X.A):zDI X (.builtin "repr") (fun xs H Q=>∃x d,xs=[x]/\zAj H x d/\Fn 1048576 60 d/\Q (.str d.shown) H):=by
 intro pins s σ H xs us Q I r h
 obtain⟨x,d,rfl,sh,f,q⟩:=h
 obtain⟨u,rfl,rx⟩:=zE8 r
 obtain⟨hz,hnd⟩:=f.len (zH _) (by decide)
 have hu:=hr.units
 cases sh with
 | non=>
  cases (show u=Value.none from rx)
  exact PySem.P.repr_of_none ⟨.str _,H,I.tok _,⟨_,rfl⟩,by simpa only [PyData.shown] using q⟩
 | bl b=>
  cases (show u=Value.bool b from rx)
  exact PySem.P.repr_of_bool ⟨.str _,H,I.tok _,⟨_,rfl⟩,by simpa only [PyData.shown] using q⟩
 | int i=>
  obtain⟨t,rfl⟩:=rx
  exact PySem.P.repr_of_int (by have:=f.sw;simpa only [PyData.showable,decide_eq_true_eq] using this) ⟨.str _,H,I.tok _,⟨_,rfl⟩,by simpa only [PyData.shown] using q⟩
 | str z=>
  obtain⟨t,rfl⟩:=rx
  exact PySem.P.repr_of_str ⟨.str _,H,I.tok _,⟨_,rfl⟩,by simpa only [PyData.shown] using q⟩ (by simpa only [PyData.shown] using hz)
 | tup e al=>
  cases (show u=Value.ref _ from rx)
  obtain⟨as,rd⟩:=zAj.reads I.hok (.tup e al) (u:=.ref _) rfl
  exact repr_of_reads' rd f.sw (PyData.noDict_hsm hnd) hr.gd (by have:=f.dp;omega) (fun _ _ e=>e) (fun h' u tk hk=>⟨.str _,H,I.kept hk,⟨u,rfl⟩,q⟩) hz
 | lst e al=>
  cases (show u=Value.ref _ from rx)
  obtain⟨as,rd⟩:=zAj.reads I.hok (.lst e al) (u:=.ref _) rfl
  exact repr_of_reads' rd f.sw (PyData.noDict_hsm hnd) hr.gd (by have:=f.dp;omega) (fun _ _ e=>e) (fun h' u tk hk=>⟨.str _,H,I.kept hk,⟨u,rfl⟩,q⟩) hz
end
end
noncomputable def zFQ:PyData->Bool
 | .int _=>true
 | _=>false
noncomputable def zKk (d:PyData):Bool:=match d with
 | .tuple _=>true
 | _=>false
noncomputable def tupN (d:PyData)(n:Int):Bool:=match d with
 | .tuple ds=>decide ((ds.length:Int)=n)
 | _=>false
theorem zAf {H:Hp}{xs:List V}{ds:List PyData}(h:zq H xs ds):xs.length=ds.length:=by
 induction xs generalizing ds with
 | nil=>cases h;rfl
 | cons x xs ih=>
  cases h with
  | cons a b=>rw[zY,zY,ih b]
theorem zCp {H:Hp}{xs:List V}{ds:List PyData}{i:Nat}{d:PyData}(h:zq H xs ds)(e:ds[i]? = some d):∃x,xs[i]? = some x/\zAj H x d:=by
 induction xs generalizing ds i with
 | nil=>cases h;simp at e
 | cons x xs ih=>
  cases h with
  | cons a b=>
   cases i with
   | zero=>
    simp at e
    subst e
    exact⟨x,rfl,a⟩
   | succ i=>exact ih b (by simpa using e)
theorem zg {H H':Hp}(k:zAo H H'){v:V}{d:PyData}(s:zAj H v d):zAj H' v d:=
 zAj.rec (motive_1:=fun v d _=>zAj H' v d) (motive_2:=fun xs ds _=>zq H' xs ds) .non (fun b=>.bl b) (fun i=>.int i) (fun x=>.str x) (fun e _ ih=>.tup (k _ _ e) ih) (fun e _ ih=>.lst (k _ _ e) ih) .nil (fun _ _ i1 i2=>.cons i1 i2) s
theorem zC5 {K:PySem.W.Frag}{H:Hp}{v:V}{d:PyData}(s:zAj H v d):∃t bi bb bt:_,zHQ K H v t/\PySem.W.kitOne K t (.type "int")=some bi/\PySem.W.kitOne K t (.type "bool")=some bb/\PySem.W.kitOne K t (.type "tuple")=some bt/\(bi && !bb)=zFQ d/\bt=zKk d/\(zFQ d=true->∃i,v = .int i/\d = .int i)/\(zKk d=true->∃a xs ds,v = .ref a/\H a=some (.tup xs)/\d = .tuple ds/\zq H xs ds):=by
 cases s with
 | non=>exact⟨_,_,_,_,.non,rfl,rfl,rfl,rfl,rfl,(fun z=>by cases z),(fun z=>by cases z)⟩
 | bl b=>exact⟨_,_,_,_,.bl b,rfl,rfl,rfl,rfl,rfl,(fun z=>by cases z),(fun z=>by cases z)⟩
 | int i=>exact⟨_,_,_,_,.int i,rfl,rfl,rfl,rfl,rfl,(fun z=>⟨i,rfl,rfl⟩),(fun z=>by cases z)⟩
 | str x=>exact⟨_,_,_,_,.str x,rfl,rfl,rfl,rfl,rfl,(fun z=>by cases z),(fun z=>by cases z)⟩
 | tup e al=>exact⟨_,_,_,_,.tup e,rfl,rfl,rfl,rfl,rfl,(fun z=>by cases z),(fun z=>⟨_,_,_,rfl,e,rfl,al⟩)⟩
 | lst e al=>exact⟨_,_,_,_,.lst e,rfl,rfl,rfl,rfl,rfl,(fun z=>by cases z),(fun z=>by cases z)⟩
noncomputable def zMI:Sp:=fun vs H Q _=>∃(v:V)(d:PyData),vs=[v]/\zAj H v d/\Q (.bl (zFQ d)) H
noncomputable def zMH:Sp:=fun vs H Q _=>∃(v:V)(d:PyData)(n:Int),vs=[v,.int n]/\zAj H v d/\Q (.bl (tupN d n)) H
section
variable {P:Program}{w:World}{K:PySem.W.Frag}{mg:Str->Option Value}{base:Heap}
theorem scNum:zAN ["thing"] ["thing"] (defScope sNum):=⟨rfl,rfl,rfl,by decide +kernel,rfl,by decide +kernel,by decide +kernel⟩
theorem zLo {f:Addr}{fd':FuncData}(F:Fun K "is_number" "is_number" sNum f fd') (mIsi:mg "isinstance" = none) (mInt:mg "int" = none) (mBool:mg "bool" = none):zAs P w K mg base CX0 1 f fd' ["thing"] zMI:=by
 refine F.ok scNum (fun vs H Q E h=>?_) (fun cdv A outer s H vs Q E hr h=>?_)
 . obtain⟨v,d,rfl,_⟩:=h
   rfl
 . obtain⟨v,d,rfl,S,k⟩:=h
   obtain⟨t,bi,bb,bt,ty,e1,e2,_,e4,_⟩:=zC5 (K:=K) S
   refine⟨_,ze (zAH (zDN (zn zAq (by rfl) mIsi (by decide +kernel) (zC (pv 0) (zC (zCJ (T := "int") (by rfl) mInt (by decide +kernel)) zL)))
    (zDL (pe_not (zn zAq (by rfl) mIsi (by decide +kernel) (zC (pv 0) (zC (zCJ (T := "bool") (by rfl) mBool (by decide +kernel)) zL))))))),?_⟩
   refine⟨_,rfl,_,_,t,bi,rfl,ty,e1,bi,rfl,?_⟩
   rw[<-e4] at k
   cases bi with
   | false=>exact zCZ k
   | true=>exact zCj ⟨_,rfl,_,_,t,bb,rfl,ty,e2,bb,rfl,k⟩
theorem scTof:zAN ["thing", "count"] ["thing", "count"] (defScope sTof):=⟨rfl,rfl,rfl,by decide +kernel,rfl,by decide +kernel,by decide +kernel⟩
theorem zLl {f:Addr}{fd':FuncData}(F:Fun K "is_tuple_of" "is_tuple_of" sTof f fd') (mIsi:mg "isinstance" = none) (mTuple:mg "tuple" = none) (mLen:mg "len" = none):zAs P w K mg base CX0 1 f fd' ["thing", "count"] zMH:=by
 refine F.ok scTof (fun vs H Q E h=>?_) (fun cdv A outer s H vs Q E hr h=>?_)
 . obtain⟨v,d,n,rfl,_⟩:=h
   rfl
 . obtain⟨v,d,n,rfl,S,k⟩:=h
   obtain⟨t,bi,bb,bt,ty,_,_,e3,_,e5,_,ht⟩:=zC5 (K:=K) S
   refine⟨_,ze (zAH (zDN (zn zAq (by rfl) mIsi (by decide +kernel) (zC (pv 0) (zC (zCJ (T := "tuple") (by rfl) mTuple (by decide +kernel)) zL)))
    (zDL (zCX zDS (zn zy (by rfl) mLen PySem.boot_len (zC (pv 0) zL)) (pv 1) (zAg _))))),?_⟩
   refine⟨_,rfl,_,_,t,bt,rfl,ty,e3,bt,rfl,?_⟩
   rw[e5]
   cases hn:zKk d with
   | false=>
    refine zCZ ?_
    have:tupN d n=false:=by
     cases d <;> first | rfl | cases hn
    rw[this] at k
    exact k
   | true=>
    refine zCj ?_
    obtain⟨a,xs,ds,rfl,ha,rfl,al⟩:=ht hn
    refine⟨_,rfl,a,xs,rfl,.inr (SqT.of ha),_,rfl,rfl,?_⟩
    rw[zH7,zAf al]
    exact k
end
end K39
namespace K39
open PySem L2 WM
theorem zA4:∀(xs ys:List PyData),PyData.weightAll (xs++ys)=PyData.weightAll xs+PyData.weightAll ys
 | [],ys=>by simp[PyData.weightAll]
 | x::xs,ys=>by
  rw[zB5]
  simp only[PyData.weightAll]
  rw[zA4 xs ys]
  omega
theorem zL6 (n:Nat)(xs:List PyData):PyData.weightAll (xs.take n)<=PyData.weightAll xs:=by
 have:=zA4 (xs.take n) (xs.drop n)
 rw[zAd] at this
 omega
theorem zL7 (n:Nat)(xs:List PyData):PyData.weightAll (xs.drop n)<=PyData.weightAll xs:=by
 have:=zA4 (xs.take n) (xs.drop n)
 rw[zAd] at this
 omega
theorem zFI:∀(xs:List PyData),PyData.weightAll xs.reverse=PyData.weightAll xs
 | []=>rfl
 | x::xs=>by
  rw[zBv,zA4,zFI xs]
  simp only[PyData.weightAll]
  omega
theorem zGe:∀{ds:List PyData},PyData.canLayAll0 ds=true->PyData.intsShortAll 13 ds=true->PyData.showableAll ds=true->∀d∈ds,d.canLay0=true/\d.intsShort 13=true/\d.showable=true
 | [],_,_,_,d,hd=>by simp at hd
 | x::xs,h1,h2,h3,d,hd=>by
  simp only[PyData.canLayAll0,PyData.intsShortAll,PyData.showableAll,zAC] at h1 h2 h3
  rcases zR.mp hd with rfl | hd
  . exact⟨h1.1,h2.1,h3.1⟩
  . exact zGe h1.2 h2.2 h3.2 d hd
theorem zLa:∀{ds:List PyData}{d:PyData},d∈ds->d.weight+1<=PyData.weightAll ds
 | x::xs,d,hd=>by
  simp only[PyData.weightAll]
  rcases zR.mp hd with rfl | hd
  . omega
  . have:=zLa hd;omega
theorem zL3:∀{ds:List PyData}{d:PyData},d∈ds->d.depth<=PyData.depthAll ds
 | x::xs,d,hd=>by
  simp only[PyData.depthAll]
  rcases zR.mp hd with rfl | hd
  . omega
  . have:=zL3 hd;omega
theorem zFx {n p:Nat}{ds:List PyData}(h:Fn n (p+1) (.tuple ds)){d:PyData}(hd:d∈ds):Fn n p d:=by
 obtain⟨a,b,c,e,f⟩:=h
 simp only[PyData.weight] at a
 simp only[PyData.depth] at b
 simp only[PyData.canLay0] at c
 simp only[PyData.intsShort] at e
 simp only[PyData.showable] at f
 obtain⟨f1,f2,f3⟩:=zGe c e f d hd
 have:=zLa hd
 have:=zL3 hd
 exact⟨by omega,by omega,f1,f2,f3⟩
theorem zE4:∀{ds:List PyData}{p:Nat},(∀d∈ds,∃n,Fn n p d)->PyData.depthAll ds<=p/\PyData.canLayAll0 ds=true/\PyData.intsShortAll 13 ds=true/\PyData.showableAll ds=true
 | [],p,_=>⟨by simp[PyData.depthAll],by simp[PyData.canLayAll0],by simp[PyData.intsShortAll],by simp[PyData.showableAll]⟩
 | d::ds,p,h=>by
  obtain⟨b,c,e,f⟩:=zE4 (ds:=ds) (p:=p) fun x hx=>h x (zN _ hx)
  obtain⟨n,g⟩:=h d zT
  refine⟨?_,?_,?_,?_⟩
  . simp only[PyData.depthAll];have:=g.dp;omega
  . simp only[PyData.canLayAll0,g.cl,c,Bool.and_self]
  . simp only[PyData.intsShortAll,g.sh,e,Bool.and_self]
  . simp only[PyData.showableAll,g.sw,f,Bool.and_self]
theorem zEw {w p:Nat}{ds:List PyData}(h:∀d∈ds,∃n,Fn n p d)(hw:PyData.weightAll ds<=w):Fn w (p+1) (.tuple ds):=by
 obtain⟨b,c,e,f⟩:=zE4 h
 exact⟨by simp only[PyData.weight];exact hw,by simp only[PyData.depth];omega,by simp only[PyData.canLay0];exact c,by simp only[PyData.intsShort];exact e,by simp only[PyData.showable];exact f⟩
theorem fn_mkL {w p:Nat}{ds:List PyData}(h:∀d∈ds,∃n,Fn n p d)(hw:PyData.weightAll ds<=w):Fn w (p+1) (.list ds):=by
 obtain⟨b,c,e,f⟩:=zE4 h
 exact⟨by simp only[PyData.weight];exact hw,by simp only[PyData.depth];omega,by simp only[PyData.canLay0];exact c,by simp only[PyData.intsShort];exact e,by simp only[PyData.showable];exact f⟩
noncomputable def hid (t:Addr)(H:Hp):Hp:=fun b=>if b=t then none else H b
theorem zBX {t b:Addr}{H:Hp}{o:HO}(h:hid t H b=some o):b≠t/\H b=some o:=by
 unfold hid at h
 by_cases e:b=t
 . rw[if_pos e] at h;cases h
 . rw[if_neg e] at h;exact⟨e,h⟩
theorem zHx {t b:Addr}{H:Hp}{o:HO}(n:b≠t)(h:H b=some o):hid t H b=some o:=by
 unfold hid
 rw[if_neg n];exact h
theorem zLF (t:Addr)(H:Hp):zAo (hid t H) H:=fun b o e=>(zBX e).2
theorem zLv {t:Addr}{H H':Hp}(s:Sm t H H'):zAo (hid t H) (hid t H'):=fun b o e=>by
 obtain⟨n,h⟩:=zBX e
 exact zHx n (s b o n h)
noncomputable def Sh (t:Addr)(H:Hp)(v:V)(d:PyData):Prop:=zAj (hid t H) v d
noncomputable def zGt (t:Addr)(H:Hp)(vs:List V)(ds:List PyData):Prop:=zq (hid t H) vs ds
theorem zCT {H H':Hp}(k:zAo H H'):∀{vs:List V}{ds:List PyData},zq H vs ds->zq H' vs ds:=by
 intro vs
 induction vs with
 | nil=>intro ds h;cases h;exact .nil
 | cons v vs ih=>
  intro ds h
  cases h with
  | cons a b=>exact .cons (zg k a) (ih b)
theorem zHy {t:Addr}{H H':Hp}(s:zAo H H'):zAo (hid t H) (hid t H'):=zLv (Sm.of s)
theorem Sh.same {t:Addr}{H H':Hp}{v:V}{d:PyData}(h:Sh t H v d)(s:zAo H H'):Sh t H' v d:=zg (zHy s) h
theorem Sh.sm {t:Addr}{H H':Hp}{v:V}{d:PyData}(h:Sh t H v d)(s:Sm t H H'):Sh t H' v d:=zg (zLv s) h
theorem Sh.shows {t:Addr}{H:Hp}{v:V}{d:PyData}(h:Sh t H v d):zAj H v d:=zg (zLF t H) h
theorem zGt.same {t:Addr}{H H':Hp}{v:List V}{d:List PyData}(h:zGt t H v d)(s:zAo H H'):zGt t H' v d:=zCT (zHy s) h
noncomputable def zF8 (t:Addr)(H:Hp):Prop:=∃o,H t=some o
theorem zF8.ne {t p:Addr}{H:Hp}(h:zF8 t H)(hp:H p=none):p≠t:=by
 obtain⟨o,e⟩:=h
 exact (zo e hp).symm
theorem zF8.same {t:Addr}{H H':Hp}(h:zF8 t H)(s:zAo H H'):zF8 t H':=by
 obtain⟨o,e⟩:=h
 exact⟨o,s _ _ e⟩
theorem zFK {t p:Addr}{H:Hp}{vs:List V}{ds:List PyData}(h:zF8 t H)(a:zGt t H vs ds)(hp:H p=none):Sh t (upd H p (.tup vs)) (.ref p) (.tuple ds):=
 .tup (zHx (h.ne hp) zK) (zGt.same a (zG hp))
theorem zLg {t p:Addr}{H:Hp}{vs:List V}{ds:List PyData}(h:zF8 t H)(a:zGt t H vs ds)(hp:H p=none):Sh t (upd H p (.lst vs)) (.ref p) (.list ds):=
 .lst (zHx (h.ne hp) zK) (zGt.same a (zG hp))
section
variable {X:Cx}{t:Addr}{pre:St->Hp->Prop}
noncomputable def tD (t:Addr)(pre:St->Hp->Prop)(d:St->PyData):TE:=fun σ H Q=>pre σ H/\∀v H',zAo H H'->Sh t H' v (d σ)->Q v H'
noncomputable def tDs (t:Addr)(pre:St->Hp->Prop)(ds:St->List PyData):TA:=fun σ H Q=>pre σ H/\∀vs H',zAo H H'->zGt t H' vs (ds σ)->Q vs H'
structure Pre (t:Addr)(pre:St->Hp->Prop):Prop where
 keep:∀ σ H H',pre σ H->zAo H H'->pre σ H'
 has:∀ σ H,pre σ H->zF8 t H
theorem zDG {e:Expr}{te te':TE}(h:PE X e te)(m:∀ σ H Q,te' σ H Q->te σ H Q):PE X e te':=fun pins s σ H Q I q=>h pins s σ H Q I (m σ H Q q)
theorem pa_as {e:List Expr}{te te':TA}(h:PA X e te)(m:∀ σ H Q,te' σ H Q->te σ H Q):PA X e te':=fun pos pins s σ H Q I q=>h pos pins s σ H Q I (m σ H Q q)
theorem zJZ {j pos}:PE X (.Constant .none j pos) (tD t pre fun _=>.none):=zDG zDM fun σ H Q q=>q.2 _ H (zAo.refl _) .non
theorem ped_bl {b j pos}:PE X (.Constant (.bool b) j pos) (tD t pre fun _=>.bool b):=zDG zDw fun σ H Q q=>q.2 _ H (zAo.refl _) (.bl b)
theorem zDv {i j pos}:PE X (.Constant (.int i) j pos) (tD t pre fun _=>.int i):=zDG zX fun σ H Q q=>q.2 _ H (zAo.refl _) (.int i)
theorem zMS {x j pos}:PE X (.Constant (.str x) j pos) (tD t pre fun _=>.str x):=zDG zC3 fun σ H Q q=>q.2 _ H (zAo.refl _) (.str x)
theorem zJd:PA X [] (tDs t pre fun _=>[]):=pa_as zL fun σ H Q q=>q.2 [] H (zAo.refl _) .nil
theorem zHm {e:Expr}{es:List Expr}{d:St->PyData}{ds:St->List PyData}(hP:Pre t pre)(h:PE X e (tD t pre d))(hs:PA X es (tDs t pre ds))(hst:starEach (e::es) X.env=(false,eval e X.env)::starEach es X.env:=by rfl):PA X (e::es) (tDs t pre fun σ=>d σ::ds σ):=
 pa_as (zC h hs hst) fun σ H Q q=>⟨q.1,fun v H1 s1 h1=>⟨hP.keep _ _ _ q.1 s1,fun vs H2 s2 h2=>q.2 (v::vs) H2 (s1.trans s2) (.cons (Sh.same h1 s2) h2)⟩⟩
theorem zMR {x1 pos} {es:List Expr}{ds:St->List PyData}(hP:Pre t pre)(hl:∀ σ,(ds σ).length<=1000)(h:PA X es (tDs t pre ds)):PE X (.Tuple es x1 pos) (tD t pre fun σ=>.tuple (ds σ)):=
 zDG (zAm h) fun σ H Q q=>⟨q.1,fun vs H1 s1 h1=>⟨by have:=zAf h1;have:=hl σ;have:sizeLine=16777216:=rfl;omega,fun p hp=>q.2 _ _ (s1.trans (zG hp)) (zFK ((hP.has _ _ q.1).same s1) h1 hp)⟩⟩
theorem zJa {pos} {es:List Expr}{ds:St->List PyData}(hP:Pre t pre)(hl:∀ σ,(ds σ).length<=1000)(h:PA X es (tDs t pre ds)):PE X (.List es pos) (tD t pre fun σ=>.list (ds σ)):=
 zDG (zBx h) fun σ H Q q=>⟨q.1,fun vs H1 s1 h1=>⟨by have:=zAf h1;have:=hl σ;have:sizeLine=16777216:=rfl;omega,fun p hp=>q.2 _ _ (s1.trans (zG hp)) (zLg ((hP.has _ _ q.1).same s1) h1 hp)⟩⟩
noncomputable def rCatS (t:Addr):R2:=fun x y H Q=>∃ds es,zF8 t H/\Sh t H x (.tuple ds)/\Sh t H y (.tuple es)/\ds.length+es.length<=1000000/\∀v H',zAo H H'->Sh t H' v (.tuple (ds++es))->Q v H'
theorem zET {H:Hp}:∀{vs ws:List V}{ds es:List PyData},zq H vs ds->zq H ws es->zq H (vs++ws) (ds++es):=by
 intro vs
 induction vs with
 | nil=>intro ws ds es h g;cases h;exact g
 | cons v vs ih=>
  intro ws ds es h g
  cases h with
  | cons a b=>exact .cons a (ih b g)
theorem zEg:OpR X (binaryOp .Add) (rCatS t):=by
 intro pins s σ H x y v u Q I rx ry h
 obtain⟨ds,es,hT,sx,sy,hz,q⟩:=h
 cases sx with
 | tup ex ax=>
  cases sy with
  | tup ey ay=>
   have lx:=zAf ax
   have ly:=zAf ay
   refine zG9 pins s σ H _ _ v u Q I rx ry ⟨_,_,_,_,rfl,rfl,SqT.of (zBX ex).2,SqT.of (zBX ey).2,by have:sizeLine=16777216:=rfl;omega,fun e=>?_,fun n e=>?_,fun n m p hp=>?_⟩
   . subst e
     cases ax
     exact q _ H (zAo.refl _) (.tup ey ay)
   . subst e
     cases ay
     rw[zr] at q
     exact q _ H (zAo.refl _) (.tup ex ax)
   . exact q _ _ (zG hp) (zFK hT (zET ax ay) hp)
end
mutual
inductive zIu:Expr->PyData->Prop
 | non {j pos}:zIu (.Constant .none j pos) .none
 | bl {b j pos}:zIu (.Constant (.bool b) j pos) (.bool b)
 | int {i j pos}:zIu (.Constant (.int i) j pos) (.int i)
 | str {x j pos}:zIu (.Constant (.str x) j pos) (.str x)
 | tup {es ds x1 pos}:zKZ es ds->ds.length<=1000->zIu (.Tuple es x1 pos) (.tuple ds)
 | lst {es ds pos}:zKZ es ds->ds.length<=1000->zIu (.List es pos) (.list ds)
inductive zKZ:List Expr->List PyData->Prop
 | nil:zKZ [] []
 | cons {e es d ds}:zIu e d->zKZ es ds->zKZ (e::es) (d::ds)
end
theorem zIu.star {e:Expr}{d:PyData}(h:zIu e d)(es:List Expr)(env:Env):starEach (e::es) env=(false,eval e env)::starEach es env:=by
 cases h <;> rfl
section
variable {X:Cx}{t:Addr}{pre:St->Hp->Prop}
theorem zMT (hP:Pre t pre){e:Expr}{d:PyData}(h:zIu e d):PE X e (tD t pre fun _=>d):=
 zIu.rec (motive_1:=fun e d _=>PE X e (tD t pre fun _=>d)) (motive_2:=fun es ds _=>PA X es (tDs t pre fun _=>ds))
  zJZ ped_bl zDv zMS (fun _ hl ih=>zMR hP (fun _=>hl) ih) (fun _ hl ih=>zJa hP (fun _=>hl) ih) zJd (fun hd _ i1 i2=>zHm hP i1 i2 (hd.star _ _)) h
inductive ItD (X:Cx)(t:Addr)(pre:St->Hp->Prop):List Expr->List (St->PyData)->Prop
 | nil:ItD X t pre [] []
 | cons {e es d ds}:PE X e (tD t pre d)->starEach (e::es) X.env=(false,eval e X.env)::starEach es X.env->ItD X t pre es ds->ItD X t pre (e::es) (d::ds)
theorem pa_it (hP:Pre t pre){es:List Expr}{ds:List (St->PyData)}(h:ItD X t pre es ds):PA X es (tDs t pre fun σ=>ds.map fun d=>d σ):=by
 induction h with
 | nil=>exact zJd
 | cons a b _ ih=>exact zHm hP a ih b
theorem ped_it (hP:Pre t pre){es:List Expr}{ds:List (St->PyData)}{pos:Pos}(hl:ds.length<=1000)(h:ItD X t pre es ds):PE X (.List es pos) (tD t pre fun σ=>.list (ds.map fun d=>d σ)):=
 zJa hP (fun σ=>by rw[zE];exact hl) (pa_it hP h)
end
end K39
namespace K39
open PySem L2 WM
inductive IB (k l:Nat):PyData->Prop
 | non:IB k l .none
 | bl (b:Bool):IB k l (.bool b)
 | int (i:Int)(h:i.natAbs<=k):IB k l (.int i)
 | str (x:Str):IB k l (.str x)
 | tup (ds:List PyData)(hl:ds.length<=l)(h:∀d∈ds,IB k l d):IB k l (.tuple ds)
 | lst (ds:List PyData)(hl:ds.length<=l)(h:∀d∈ds,IB k l d):IB k l (.list ds)
theorem IB.mono {k l k' l':Nat}{d:PyData}(h:IB k l d)(hk:k<=k')(hl:l<=l'):IB k' l' d:=by
 induction h with
 | non=>exact .non
 | bl b=>exact .bl b
 | int i h=>exact .int i (zz h hk)
 | str x=>exact .str x
 | tup ds h2 _ ih=>exact .tup ds (zz h2 hl) ih
 | lst ds h2 _ ih=>exact .lst ds (zz h2 hl) ih
theorem IB.elem {k l:Nat}{ds:List PyData}(h:IB k l (.tuple ds)):∀d∈ds,IB k l d:=by cases h;assumption
theorem IB.len {k l:Nat}{ds:List PyData}(h:IB k l (.tuple ds)):ds.length<=l:=by cases h;assumption
noncomputable def zDY (xs:List PyData)(lo hi:Option Int):List PyData:=(xs.drop (HT.sIx xs.length 0 lo)).take (HT.sIx xs.length xs.length hi-HT.sIx xs.length 0 lo)
theorem zFM {H:Hp}:∀(n:Nat){vs:List V}{ds:List PyData},zq H vs ds->zq H (vs.drop n) (ds.drop n)
 | 0,_,_,h=>h
 | n+1,vs,ds,h=>by
  cases h with
  | nil=>exact .nil
  | cons a b=>exact zFM n b
theorem zFL {H:Hp}:∀(n:Nat){vs:List V}{ds:List PyData},zq H vs ds->zq H (vs.take n) (ds.take n)
 | 0,_,_,h=>.nil
 | n+1,vs,ds,h=>by
  cases h with
  | nil=>exact .nil
  | cons a b=>exact .cons a (zFL n b)
theorem zJC {H:Hp}{vs:List V}{ds:List PyData}(h:zq H vs ds):zq H vs.reverse ds.reverse:=by
 induction vs generalizing ds with
 | nil=>cases h;exact .nil
 | cons v vs ih=>
  cases h with
  | cons a b=>rw[zBv,zBv];exact zET (ih b) (.cons a .nil)
theorem sh_cut {H:Hp}{vs:List V}{ds:List PyData}{lo hi:Option Int}(h:zq H vs ds):zq H (zEM vs lo hi) (zDY ds lo hi):=by
 unfold zEM zDY
 rw[zAf h]
 exact zFL _ (zFM _ h)
theorem zLV {ds:List PyData}{lo hi:Option Int}(h:HT.sIx ds.length 0 lo=0/\HT.sIx ds.length ds.length hi=ds.length):zDY ds lo hi=ds:=by
 unfold zDY
 rw[h.1,h.2,zBI,Nat.sub_zero,za (zH _)]
theorem zF0 {ds:List PyData}{lo hi:Option Int}{d:PyData}(h:d∈zDY ds lo hi):d∈ds:=List.mem_of_mem_drop (List.mem_of_mem_take h)
theorem zHN (ds:List PyData)(lo hi:Option Int):PyData.weightAll (zDY ds lo hi)<=PyData.weightAll ds:=zz (zL6 _ _) (zL7 _ _)
theorem len_wt (ds:List PyData):ds.length<=PyData.weightAll ds:=PySem.PyData.length_le_weightAll ds
section
variable {X:Cx}{t:Addr}
noncomputable def rSlS (t:Addr):V->Option Int->Option Int->Hp->VK->Prop:=fun x lo hi H Q=>∃ds,zF8 t H/\Sh t H x (.tuple ds)/\∀v H',zAo H H'->Sh t H' v (.tuple (zDY ds lo hi))->Q v H'
theorem zER:SlR X (rSlS t):=by
 intro pins s σ H x v vl vu lo hi sl Q I rx hs pl pu h
 obtain⟨ds,hT,sx,q⟩:=h
 cases sx with
 | tup ex ax=>
  have lx:=zAf ax
  refine zI7 pins s σ H _ v vl vu lo hi sl Q I rx hs pl pu ⟨_,_,rfl,SqT.of (zBX ex).2,fun c=>?_,fun _ p hp=>?_⟩
  . rw[lx] at c
    refine q _ H (zAo.refl _) ?_
    rw[zLV c]
    exact .tup ex ax
  . exact q _ _ (zG hp) (zFK hT (sh_cut ax) hp)
end
noncomputable def spB:Nat->Sp
 | 0=>fun _ _ _ _=>False
 | m+1=>fun vs H Q _=>∃(t:Addr)(N:Nat)(v:V)(d:PyData)(k l n p:Nat),vs=[.ref t,v]/\zAE H t N/\N+3*(m+1)<900000/\Sh t H v d/\IB k l d/\Fn n p d/\p<=m/\k<=100000/\n<=400000 /\
  ∀(v':V)(d':PyData)(H':Hp),Sh t H' v' d'->IB (k+100) (l+1) d'->Fn (2*n+1000) (p+1) d'->zAE H' t (N+3*(m+1))->Sm t H H'->Q v' H'
theorem zH1 {n p:Nat}{ds:List PyData}(h:Fn n p (.tuple ds)):1<=p:=by
 have:=h.dp
 simp only[PyData.depth] at this
 omega
theorem zL0 {x:Str}(h:x.length<=12)(ok:PyData.strOk x=true):Fn 100 0 (.str x):=by
 refine⟨?_,zH _,?_,rfl,rfl⟩
 . simp only[PyData.weight]
   have:x.cps.size=x.length:=rfl
   omega
 . simp only[PyData.canLay0];exact ok
theorem zHA (s:String):PyData.strOk (Str.ofString s)=true:=by
 rw[Str.ofString_eq_toList]
 unfold PyData.strOk
 rw[Array.all_eq_true']
 intro x hx
 have hx':x∈s.toList.map Char.toNat:=by simpa using hx
 obtain⟨c,_,rfl⟩:=zAY.mp hx'
 refine zQ ?_
 have:=c.valid
 show c.val.toNat<_
 rcases this with h | h
 . have:c.val.toNat<0xd800:=h
   omega
 . exact h.2
theorem zLA (i:Int)(h:i.natAbs<1000000000):(Str.ofString (toString i)).length<=12:=by
 have e:=int_text_length_le10 (a:=i) (k:=9) (by decide) (by simpa using h)
 have e2:(Str.ofString (toString i)).length=(toString i).length:=by
  rw[Str.ofString_eq_toList]
  show ((toString i).toList.map Char.toNat).toArray.size=_
  rw[zP,zE,String.length_toList]
 omega
noncomputable def zH5 (d:PyData):List PyData:=match d with
 | .tuple ds=>ds
 | _=>[]
noncomputable def aOf (σ:St):Int:=match σ[2]? with
 | some (some (V.int a))=>a
 | _=>0
noncomputable def iOf (σ:St):Int:=match σ[1]? with
 | some (some (V.int a))=>a
 | _=>0
noncomputable def pre2 (t:Addr)(v:V)(d:PyData)(σ:St)(H:Hp):Prop:=zF8 t H/\σ[1]? = some (some v)/\Sh t H v (.tuple (zH5 d))/\σ[2]? = some (some (.int (aOf σ)))/\2*(zH5 d).length+2<=1000000
noncomputable def pre3 (t:Addr)(σ:St)(H:Hp):Prop:=zF8 t H/\σ[1]? = some (some (.int (iOf σ)))/\(iOf σ).natAbs<1000000
noncomputable def pre4 (t:Addr)(_:St)(H:Hp):Prop:=zF8 t H
theorem Pre2 {t:Addr}{v:V}{d:PyData}:Pre t (pre2 t v d):=⟨fun σ H H' h s=>⟨h.1.same s,h.2.1,h.2.2.1.same s,h.2.2.2⟩,fun σ H h=>h.1⟩
theorem Pre3 {t:Addr}:Pre t (pre3 t):=⟨fun σ H H' h s=>⟨h.1.same s,h.2⟩,fun σ H h=>h.1⟩
theorem Pre4 {t:Addr}:Pre t (pre4 t):=⟨fun σ H H' h s=>zF8.same h s,fun σ H h=>h⟩
section
variable {X:Cx}{t:Addr}{v:V}{d:PyData}
theorem zE0 (ds:List PyData)(lo hi:Option Int):(zDY ds lo hi).length<=ds.length:=by
 unfold zDY
 rw[zd,zAR]
 omega
theorem b1 {te:TE}{e:Expr}(h:PE X e te)(m:∀ σ H Q,(∃a xs,σ[1]? = some (some (.ref a))/\SqT X.K H a xs/\∀l,H l=none->Q (.ref l) (upd H l (.lst xs)))->te σ H Q):PE X e (tD t (pre2 t v d) fun _=>.list (zH5 d)):=zDG h fun σ H Q q=>by
 obtain⟨⟨hT,h1,S,_⟩,q⟩:=q
 cases S with
 | tup ex ax=>exact m σ H Q ⟨_,_,h1,SqT.of (zBX ex).2,fun l hl=>q _ _ (zG hl) (zLg hT ax hl)⟩
end
end K39
namespace K39
open PySem L2 WM
structure WP (p:Prop):Prop where
 out:p
section
variable {X:Cx}
theorem zIK {st:Stmt}{rest:List Stmt}{t u:TS}(a:WP (PS X st t))(b:WP (PSs X rest u)):WP (PSs X (st::rest) (tSeq t u)):=a.rec fun a=>b.rec fun b=>.mk (zV a b)
theorem wone {st:Stmt}{t:TS}(a:WP (PS X st t)):WP (PSs X [st] t):=a.rec fun a=>.mk (ze a)
theorem wset {pos:Pos}{i:Nat}{x:Str}{e:Expr}{te:TE}{pos':Pos}(hN:X.N.Nodup)(hi:X.N[i]? = some x)(hx:L2.Loc X.env.scope x)(he:WP (PE X e te))(hs:swapsWith e (some (.Name x pos')) pos.line X.env=pure false:=by rfl)(hf:X.fn x=true\/X.env.scope.names.lookup x=some .local:=by first | exact .inl rfl | exact .inr rfl | assumption) :
 WP (PS X (.Assign [.Name x pos'] e pos) (tAsg te (zIk i))):=he.rec fun he=>.mk (zAL hN hi hx he hs hf)
theorem wif {t u:TS}{pos:Pos}{c:Expr}{a b:List Stmt}{tc:TT}(hc:WP (PT X c tc))(ha:WP (PSs X a t))(hb:WP (PSs X b u)):WP (PS X (.If c a b pos) (tIfS tc t u)):=hc.rec fun hc=>ha.rec fun ha=>hb.rec fun hb=>.mk (zBc hc ha hb)
theorem wret {e:Expr}{te:TE}{pos:Pos}(he:WP (PE X e te)):WP (PS X (.Return (some e) pos) (tRet te)):=he.rec fun he=>.mk (zAH he)
theorem wix {a b:Expr}{ta tb:TE}{pos:Pos}{r:R2}(hr:IxR X r)(ha:WP (PE X a ta))(hb:WP (PE X b tb))(hp:zKY b):WP (PE X (.Subscript a b pos) (tOp r ta tb)):=ha.rec fun ha=>hb.rec fun hb=>.mk (zAM hr ha hb hp)
theorem wit {t:Addr}{pre:St->Hp->Prop}(hP:Pre t pre){es:List Expr}{ds:List (St->PyData)}{pos:Pos}(hl:ds.length<=1000)(h:ItD X t pre es ds):WP (PE X (.List es pos) (tD t pre fun σ=>.list (ds.map fun d=>d σ))):=.mk (ped_it hP hl h)
theorem wlit {t:Addr}{pre:St->Hp->Prop}(hP:Pre t pre){e:Expr}{d:PyData}(h:zIu e d):WP (PE X e (tD t pre fun _=>d)):=.mk (zMT hP h)
end
section
variable {P:Program}{w:World}{K:PySem.W.Frag}{mg:Str->Option Value}{base:Heap}
theorem okW {x qual:Str}{st:Stmt}{f:Addr}{fd:FuncData}{N ps:List Str}{k:Nat}{sp:Sp}(F:Fun K x qual st f fd)(S:zAN N ps (defScope st))(len:∀vs H Q E,sp vs H Q E->vs.length=ps.length)
 (hbody:∀(cdv:Value)(A:Around)(outer:List Env)(s:Shared)(H:Hp)(vs:List V)(Q:VK)(E:XK),zDo k (A.deeper (PyProof.Rows.envOfC qual (defScope st) s.heap.objs.size f cdv))->sp vs H Q E ->
  ∃t,WP (PSs (zH8 CX0 P w K mg base N qual (defScope st) f cdv A outer s H E).nox (defBody st) t)/\t { nx:=fun _ H'=>Q .non H',rt:=Q } (zE9 N vs) H):zAs P w K mg base CX0 (k+1) f fd ps sp:=
 F.ok S len fun cdv A outer s H vs Q E hr h=>by
  obtain⟨t,⟨hp⟩,q⟩:=hbody cdv A outer s H vs Q E hr h
  exact⟨t,hp,q⟩
end
section
variable {X:Cx}{t:Addr}{v:V}{d:PyData}
theorem b2 {te:TE}{e:Expr}(h:PE X e te)(m:∀ σ H Q,pre2 t v d σ H->(∀v' H',zAo H H'->Sh t H' v' (.tuple (zDY (zH5 d) none (some (aOf σ))++zDY (zH5 d) (some (aOf σ+1)) none))->Q v' H')->te σ H Q) :
 PE X e (tD t (pre2 t v d) fun σ=>.tuple (zDY (zH5 d) none (some (aOf σ))++zDY (zH5 d) (some (aOf σ+1)) none)):=zDG h fun σ H Q q=>m σ H Q q.1 q.2
end
theorem zDJ (d:PyData):PyData.weightAll [d]=d.weight+1:=by simp[PyData.weightAll]
theorem zMr {n p:Nat}{d:PyData}(h:Fn n p d):Fn d.weight p d:=⟨zH _,h.dp,h.cl,h.sh,h.sw⟩
theorem zH9 {ds:List PyData}{a:Int}(h0:0<=a)(h1:a<=ds.length):zDY ds none (some a)=ds.take a.toNat/\zDY ds (some (a+1)) none=ds.drop (a.toNat+1):=by
 obtain⟨k,rfl⟩:∃k:Nat,a=k:=⟨a.toNat,by omega⟩
 constructor
 . unfold zDY
   rw[HT.sIx_none,zBI,Nat.sub_zero,HT.sIx_nat,show min k ds.length=k by omega]
   rfl
 . unfold zDY
   rw[HT.sIx_none,show ((k:Int)+1)=((k+1:Nat):Int) by omega,HT.sIx_nat]
   show (ds.drop (min (k+1) ds.length)).take (ds.length-min (k+1) ds.length)=ds.drop (k+1)
   by_cases c:k+1<=ds.length
   . rw[show min (k+1) ds.length=k+1 by omega,za (by rw[zAR];exact zH _)]
   . rw[show min (k+1) ds.length=ds.length by omega,Nat.sub_self,zBA,List.drop_of_length_le (by omega)]
section
variable {P:Program}{w:World}{K:PySem.W.Frag}{mg:Str->Option Value}{base:Heap}
end
theorem zDa {H H':Hp}{t:Addr}(h:∀b,b≠t->H' b=H b):Sm t H H':=fun b o n e=>by rw[h b n];exact e
theorem pick {K:PySem.W.Frag}{t:Addr}{H:Hp}{v:V}{ds:List PyData}{N:Nat}{i:Int}{Q:VK}{E:XK}(S:Sh t H v (.list ds))(T:zAE H t N)(hN:N<1000000)(hi:i=ds.length)(h0:0<i)(h1:i<1000000)
 (k:∀x d H',d∈ds->Sh t H' x d->zAE H' t (N+1)->Sm t H H'->Q x H'):zGH [.ref t,.int i] H (fun y H'=>rIxL K v y H' Q) E:=by
 cases S with
 | lst ex ax=>
  refine⟨t,N,i,rfl,T,hN,h0,h1,fun r H1 r0 r1 T1 e1=>?_⟩
  have s1:Sm t H H1:=zDa e1
  obtain⟨j,rfl⟩:∃j:Nat,r=j:=⟨r.toNat,by omega⟩
  have hj:j<ds.length:=by omega
  obtain⟨x,hx,sx⟩:=zCp ax (zF hj)
  exact⟨_,_,_,x,rfl,rfl,SqL.of (s1 _ _ (zBX ex).1 (zBX ex).2),zCC hx,k x _ H1 (zAS hj) (Sh.sm sx s1) T1 s1⟩
theorem zDO {n p:Nat}{d:PyData}(h1:Nat.ble d.weight 1000=true)(h2:Nat.ble d.depth 1=true)(h3:d.canLay0=true)(h4:d.intsShort 13=true)(h5:d.showable=true):Fn (2*n+1000) (p+1) d:=
 ⟨by have:=zBg h1;omega,by have:=zBg h2;omega,h3,h4,h5⟩
theorem lit9 {k l n p:Nat}{d:PyData}(h:d∈[PyData.none,.bool true,.bool false,.int 0,.int 1,.str (Str.ofString "a"),.tuple [],.list [],.tuple [.int 0]]):IB (k+100) (l+1) d/\Fn (2*n+1000) (p+1) d:=by
 simp only[zR,zA6,or_false] at h
 rcases h with rfl | rfl | rfl | rfl | rfl | rfl | rfl | rfl | rfl
 . exact⟨.non,zDO (by decide +kernel) (by decide +kernel) (by decide +kernel) (by decide +kernel) (by decide +kernel)⟩
 . exact⟨.bl _,zDO (by decide +kernel) (by decide +kernel) (by decide +kernel) (by decide +kernel) (by decide +kernel)⟩
 . exact⟨.bl _,zDO (by decide +kernel) (by decide +kernel) (by decide +kernel) (by decide +kernel) (by decide +kernel)⟩
 . exact⟨.int _ (by show (0:Int).natAbs<=_;simp),zDO (by decide +kernel) (by decide +kernel) (by decide +kernel) (by decide +kernel) (by decide +kernel)⟩
 . exact⟨.int _ (by show 1<=_;omega),zDO (by decide +kernel) (by decide +kernel) (by decide +kernel) (by decide +kernel) (by decide +kernel)⟩
 . exact⟨.str _,zDO (by decide +kernel) (by decide +kernel) (by decide +kernel) (by decide +kernel) (by decide +kernel)⟩
 . exact⟨.tup _ (zb _) (fun d hd=>by simp at hd),zDO (by decide +kernel) (by decide +kernel) (by decide +kernel) (by decide +kernel) (by decide +kernel)⟩
 . exact⟨.lst _ (zb _) (fun d hd=>by simp at hd),zDO (by decide +kernel) (by decide +kernel) (by decide +kernel) (by decide +kernel) (by decide +kernel)⟩
 . refine⟨.tup _ (by show 1<=l+1;omega) (fun d hd=>?_),zDO (by decide +kernel) (by decide +kernel) (by decide +kernel) (by decide +kernel) (by decide +kernel)⟩
   simp at hd
   subst hd
   exact .int _ (by simp)
theorem lit10 {k l n p:Nat}{i:Int}{d:PyData}(hi:i.natAbs<=k)(hk:k<=100000)(h:d∈[PyData.int (i+1),.int (i-1),.bool (decide (i=1)),.none,.int 0,.int 24,.int 25,.int 99,.int 100,.str (Str.ofString (toString i))]):IB (k+100) (l+1) d/\Fn (2*n+1000) (p+1) d:=by
 have fi:∀j:Int,j.natAbs<=k+100->IB (k+100) (l+1) (.int j)/\Fn (2*n+1000) (p+1) (.int j):=fun j hj=>⟨.int _ hj,(zDP (by omega)).mono (by omega) (by omega)⟩
 simp only[zR,zA6,or_false] at h
 rcases h with rfl | rfl | rfl | rfl | rfl | rfl | rfl | rfl | rfl | rfl
 . exact fi _ (by omega)
 . exact fi _ (by omega)
 . exact⟨.bl _,(zHH _).mono (by omega) (by omega)⟩
 . exact⟨.non,zDO (by decide +kernel) (by decide +kernel) (by decide +kernel) (by decide +kernel) (by decide +kernel)⟩
 . exact fi _ (by omega)
 . exact fi _ (by omega)
 . exact fi _ (by omega)
 . exact fi _ (by omega)
 . exact fi _ (by omega)
 . exact⟨.str _,(zL0 (zLA i (by omega)) (zHA _)).mono (by omega) (by omega)⟩
theorem zMy (ds:List PyData):(zDY ds none (some 1)).length<=1:=by
 have:=(zH9 (ds:=ds) (a:=1))
 unfold zDY
 rw[HT.sIx_none,zBI,Nat.sub_zero,show (1:Int)=((1:Nat):Int) from rfl,HT.sIx_nat,zd]
 omega
theorem lit5 {k l n p:Nat}{a:Int}{ds:List PyData}{d:PyData}(ha:0<=a)(ha2:a<=ds.length)(hb:IB k l (.tuple ds))(hf:Fn n p (.tuple ds))
 (h:d∈[PyData.list ds,.tuple (zDY ds none (some a)++zDY ds (some (a+1)) none),.tuple (ds++zDY ds none (some 1)),.tuple ds.reverse,.tuple (ds++[.int 0])]):IB (k+100) (l+1) d/\Fn (2*n+1000) (p+1) d:=by
 have hp:=zH1 hf
 obtain⟨p',rfl⟩:∃p',p=p'+1:=⟨p-1,by omega⟩
 have be:=hb.elem
 have b0:∀d∈ds,IB (k+100) (l+1) d:=fun d hd=>(be d hd).mono (by omega) (by omega)
 have f0:∀d∈ds,∃n,Fn n p' d:=fun d hd=>⟨n,zFx hf hd⟩
 have hw:PyData.weightAll ds<=n:=by have:=hf.wt;simpa only [PyData.weight] using this
 have hln:=hb.len
 have w1:=zHN ds none (some a)
 have w2:=zHN ds (some (a+1)) none
 have w3:=zHN ds none (some 1)
 simp only[zR,zA6,or_false] at h
 rcases h with rfl | rfl | rfl | rfl | rfl
 . exact⟨.lst _ (by omega) b0,(fn_mkL f0 hw).mono (by omega) (by omega)⟩
 . have mm:∀d∈zDY ds none (some a)++zDY ds (some (a+1)) none,d∈ds:=fun d hd=>(zJ.mp hd).elim zF0 zF0
   exact⟨.tup _ (by rw[zB];rw[(zH9 ha ha2).1,(zH9 ha ha2).2,zd,zAR];omega) fun d hd=>b0 d (mm d hd),(zEw (w:=2*n) (fun d hd=>f0 d (mm d hd)) (by rw[zA4];omega)).mono (by omega) (by omega)⟩
 . have mm:∀d∈ds++zDY ds none (some 1),d∈ds:=fun d hd=>(zJ.mp hd).elim id zF0
   exact⟨.tup _ (by rw[zB];have:=zMy ds;omega) fun d hd=>b0 d (mm d hd),(zEw (w:=2*n) (fun d hd=>f0 d (mm d hd)) (by rw[zA4];omega)).mono (by omega) (by omega)⟩
 . have mm:∀d∈ds.reverse,d∈ds:=fun d hd=>List.mem_reverse.mp hd
   exact⟨.tup _ (by rw[zBU];omega) fun d hd=>b0 d (mm d hd),(zEw (w:=n) (fun d hd=>f0 d (mm d hd)) (by rw[zFI];omega)).mono (by omega) (by omega)⟩
 . have f1:=zDP (i:=0) (by decide)
   have w5:=f1.wt
   refine⟨.tup _ (by rw[zB];show _+1<=_;omega) fun d hd=>(zJ.mp hd).elim (b0 d) (fun h=>?_),(zEw (w:=2*n+1000) (fun d hd=>(zJ.mp hd).elim (f0 d) (fun h=>?_)) (by rw[zA4,zDJ];omega)).mono (by omega) (by omega)⟩
   . simp at h
     subst h
     exact .int _ (by simp)
   . simp at h
     subst h
     exact⟨_,f1.mono (zH _) (by omega)⟩
theorem zKf:∀{ds:List PyData}{j:Nat}(h:j<ds.length),PyData.weightAll ds=PyData.weightAll (ds.take j)+(ds[j].weight+1)+PyData.weightAll (ds.drop (j+1)):=by
 intro ds j h
 have e:ds=ds.take j++([ds[j]]++ds.drop (j+1)):=by simp
 have:=congrArg PyData.weightAll e
 rw[zA4,zA4,zDJ] at this
 omega
theorem bentA {k l n p:Nat}{ds:List PyData}{d:PyData}{j:Nat}(hj:j<ds.length)(hb:IB k l (.tuple ds))(hf:Fn n (p+1) (.tuple ds))(gb:IB (k+100) (l+1) d)(gf:Fn (2*ds[j].weight+1000) (p+1) d) :
 IB (k+100) (l+1) (.tuple (zDY ds none (some (j:Int))++[d]++zDY ds (some ((j:Int)+1)) none))/\Fn (2*n+1000) (p+1+1) (.tuple (zDY ds none (some (j:Int))++[d]++zDY ds (some ((j:Int)+1)) none)):=by
 have b0:∀d∈ds,IB (k+100) (l+1) d:=fun d hd=>(hb.elem d hd).mono (by omega) (by omega)
 have f0:∀d∈ds,∃n,Fn n (p+1) d:=fun d hd=>⟨n,(zFx hf hd).mono (zH _) (by omega)⟩
 have hw:PyData.weightAll ds<=n:=by have:=hf.wt;simpa only [PyData.weight] using this
 have hln:=hb.len
 have sp:=zKf hj
 have gw:=gf.wt
 obtain⟨c1,c2⟩:=zH9 (ds:=ds) (a:=j) (by omega) (by omega)
 rw[c1,c2,zAT]
 have m1:∀x∈ds.take j,x∈ds:=fun x hx=>List.mem_of_mem_take hx
 have m2:∀x∈ds.drop (j+1),x∈ds:=fun x hx=>List.mem_of_mem_drop hx
 refine⟨.tup _ (by rw[zB,zB,zd,zAR];show _+1+_<=_;omega) fun x hx=>?_,zEw (fun x hx=>?_) (by rw[zA4,zA4,zDJ];omega)⟩
 . rcases zJ.mp hx with hx | hx
   . rcases zJ.mp hx with hx | hx
     . exact b0 x (m1 x hx)
     . cases zk.mp hx;exact gb
   . exact b0 x (m2 x hx)
 . rcases zJ.mp hx with hx | hx
   . rcases zJ.mp hx with hx | hx
     . exact f0 x (m1 x hx)
     . cases zk.mp hx;exact⟨_,gf⟩
   . exact f0 x (m2 x hx)
section
variable {P:Program}{w:World}{K:PySem.W.Frag}{mg:Str->Option Value}{base:Heap}
theorem zFN:zAN ["_law_tape_here", "_law_thing", "_law_at", "_law_some"] ["_law_tape_here", "_law_thing"] (defScope zJK):=⟨rfl,rfl,rfl,by decide +kernel,rfl,by decide +kernel,by decide +kernel⟩
theorem zJi {f fD:Addr}{fd' fdD:FuncData}(F:Fun K "_law_bent" "_law_bent" zJK f fd') (bB:zAI K fd' ["_law_tape_here", "_law_thing"] []) (mB:mg "_law_bent" = some (.ref f)) (FD:Fun K "_law_draw" "_law_draw" zEC fD fdD) (bD:zAI K fdD ["_law_tape_here", "_law_many"] []) (mD:mg "_law_draw" = some (.ref fD))
 (mIsi:mg "isinstance" = none) (mInt:mg "int" = none) (mBool:mg "bool" = none) (mTuple:mg "tuple" = none) (mList:mg "list" = none) (mStr:mg "str" = none) (mLen:mg "len" = none):∀m:Nat,zAs P w K mg base CX0 (m+1) f fd' ["_law_tape_here", "_law_thing"] (spB m)
 | 0=>F.ok zFN (fun vs H Q E h=>h.elim) (fun cdv A outer s H vs Q E hr h=>h.elim)
 | m+1=>by
  have GB:=zJi F bB mB FD bD mD mIsi mInt mBool mTuple mList mStr mLen m
  have GD:zAs P w K mg base CX0 (m+1) fD fdD ["_law_tape_here", "_law_many"] zGH:=(zHB FD mLen).mono (by omega)
  refine okW F zFN (fun vs H Q E h=>?_) (fun cdv A outer s H vs Q E hr h=>?_)
  . obtain⟨t,N,v,d,k,wd,n,p,rfl,_⟩:=h
    rfl
  . obtain⟨t,N,v,d,k,wd,n,p,rfl,TT,hN,S,ib,fn,hp,hk,hn,kk⟩:=h
    have hu0:=hr.units0
    have hT:zF8 t H:=by obtain⟨_,_,_,_,a,_⟩:=id TT;exact⟨_,a⟩
    refine⟨_,zIK (.mk (zBc (PW.pt (zCV (zBL (zn zAq (by rfl) mIsi (by decide +kernel) (zC (pv 1) (zC (zCJ (T := "tuple") (by rfl) mTuple (by decide +kernel)) zL))))
     (zCV (zAF (zJg hu0) (pv 1) (zAm zL) (zAg _)) (zCF (zAF zEf (zl GD hr rfl mD FD.kp bD .nil zAU (zC (pv 0) (zC zX zL))) zX (zAg _))))))
     (zV (zAL (i:=2) zFN.nd rfl (Or.inl rfl) (zl GD hr rfl mD FD.kp bD .nil zAU (zC (pv 0) (zC (zn zy (by rfl) mLen PySem.boot_len (zC (pv 1) zL)) zL))))
     (ze (zAH (zAz (zEg (t:=t)) (zAz (zEg (t:=t)) (zA5 (zER (t:=t)) (pv 1) zBP (zBO (pv 2))) (zAm (zC (zl GB hr rfl mB F.kp bB .nil zAU (zC (pv 0) (zC (zAM zAP (pv 1) (pv 2) (fun _ _=>rfl)) zL))) zL)))
      (zA5 (zER (t:=t)) (pv 1) (zBO (zAz zCK (pv 2) zX)) zBP))))) zAZ))
     (zIK (wif (.mk (zBL (zn zAq (by rfl) mIsi (by decide +kernel) (zC (pv 1) (zC (zCJ (T := "tuple") (by rfl) mTuple (by decide +kernel)) zL)))))
      (zIK (.mk (zAL (i:=2) zFN.nd rfl (Or.inl rfl) (zl GD hr rfl mD FD.kp bD .nil zAU (zC (pv 0) (zC (zAz zCK (zn zy (by rfl) mLen PySem.boot_len (zC (pv 1) zL)) zX) zL)))))
      (zIK (wset (i:=3) zFN.nd rfl (Or.inl rfl) (wit (Pre2 (t:=t) (v:=v) (d:=d)) (zBg rfl) (.cons (b1 (zAv zB3 (by rfl) mList (by decide +kernel) (zC (pv 1) zL)) (fun σ H Q ⟨a,xs,e1,e2,q⟩=>⟨_,e1,a,xs,rfl,.inr e2,q⟩)) rfl
       (.cons (b2 (zAz (zEg (t:=t)) (zA5 (zER (t:=t)) (pv 1) zBP (zBO (pv 2))) (zA5 (zER (t:=t)) (pv 1) (zBO (zAz zCK (pv 2) zX)) zBP)) (fun σ H Q pr q=>by
        obtain⟨hT,h1,S,h2,hl⟩:=pr
        refine⟨_,h1,_,h2,_,rfl,_,hT,S,fun v1 H1 s1 c1=>?_⟩
        refine⟨_,h1,_,h2,_,_,rfl,rfl,_,rfl,_,hT.same s1,S.same s1,fun v2 H2 s2 c2=>?_⟩
        have:=zE0 (zH5 d) none (some (aOf σ))
        have:=zE0 (zH5 d) (some (aOf σ+1)) none
        exact⟨_,_,(hT.same s1).same s2,c1.same s2,c2,by omega,fun v3 H3 s3 c3=>q v3 H3 (s1.trans (s2.trans s3)) c3⟩)) rfl
       (.cons (d:=fun _=>.tuple (zH5 d++zDY (zH5 d) none (some 1))) (zDG (zAz (zEg (t:=t)) (pv 1) (zA5 (zER (t:=t)) (pv 1) zBP (zBO zX))) (fun σ H Q q=>by
        obtain⟨⟨hT,h1,S,h2,hl⟩,q⟩:=q
        refine⟨_,h1,_,h1,_,rfl,_,hT,S,fun v2 H2 s2 c2=>?_⟩
        have:=zE0 (zH5 d) none (some 1)
        exact⟨_,_,hT.same s2,S.same s2,c2,by omega,fun v3 H3 s3 c3=>q v3 H3 (s2.trans s3) c3⟩)) rfl
       (.cons (d:=fun _=>.tuple (zH5 d).reverse) (zDG (pe_rev (ops:=fun a d=>[a,d]) (pv 1) (zDG (pe_un un_neg zX) (fun σ H Q q=>⟨1,rfl,q⟩)) (fun _ _=>by with_unfolding_all rfl)) (fun σ H Q q=>by
        obtain⟨⟨hT,h1,S,h2,hl⟩,q⟩:=q
        cases S with
        | tup ex ax=>exact⟨_,h1,_,_,rfl,SqT.of (zBX ex).2,fun l hl=>q _ _ (zG hl) (zFK hT (zJC ax) hl)⟩)) rfl
       (.cons (d:=fun _=>.tuple (zH5 d++[.int 0])) (zDG (zAz (zEg (t:=t)) (pv 1) (zAm (zC zX zL))) (fun σ H Q q=>by
        obtain⟨⟨hT,h1,S,h2,hl⟩,q⟩:=q
        refine⟨_,h1,by show 1<=sizeLine;decide,fun l hl'=>?_⟩
        exact⟨_,_,hT.same (zG hl'),S.same (zG hl'),zFK hT (.cons (.int 0) .nil) hl',by show _+1<=_;omega,fun v3 H3 s3 c3=>q v3 H3 ((zG hl').trans s3) c3⟩)) rfl .nil)))))))
      (.mk (ze (zAH (zAM zAw (pv 3) (zl GD hr rfl mD FD.kp bD .nil zAU (zC (pv 0) (zC zX zL))) (fun _ _=>rfl))))))) (.mk zAZ))
     (zIK (wif (.mk (PW.pt (zCV (zBL (zn zAq (by rfl) mIsi (by decide +kernel) (zC (pv 1) (zC (zCJ (T := "int") (by rfl) mInt (by decide +kernel)) zL)))) (zCF (zB0 (zBL (zn zAq (by rfl) mIsi (by decide +kernel) (zC (pv 1) (zC (zCJ (T := "bool") (by rfl) mBool (by decide +kernel)) zL)))))))))
      (zIK (wset (i:=3) zFN.nd rfl (Or.inl rfl) (wit (Pre3 (t:=t)) (zBg rfl) (.cons (d:=fun σ=>.int (iOf σ+1)) (zDG (zAz zCK (pv 1) zX) (fun σ H Q q=>⟨_,q.1.2.1,_,_,rfl,rfl,q.2 _ H (zAo.refl _) (.int _)⟩)) rfl
       (.cons (d:=fun σ=>.int (iOf σ-1)) (zDG (zAz zHn (pv 1) zX) (fun σ H Q q=>⟨_,q.1.2.1,_,_,rfl,rfl,q.2 _ H (zAo.refl _) (.int _)⟩)) rfl
       (.cons (d:=fun σ=>.bool (decide (iOf σ=1))) (zDG (zCX zDS (pv 1) zX (zAg _)) (fun σ H Q q=>⟨_,q.1.2.1,rfl,by rw[zH7];exact q.2 _ H (zAo.refl _) (.bl _)⟩)) rfl
       (.cons zJZ rfl (.cons zDv rfl (.cons zDv rfl (.cons zDv rfl (.cons zDv rfl (.cons zDv rfl
       (.cons (d:=fun σ=>.str (Str.ofString (toString (iOf σ)))) (zDG (zAv zKR (by rfl) mStr (by decide +kernel) (zC (pv 1) zL)) (fun σ H Q q=>⟨_,q.1.2.1,_,rfl,by have:=q.1.2.2;omega,q.2 _ H (zAo.refl _) (.str _)⟩)) rfl .nil))))))))))))
      (.mk (ze (zAH (zAM zAw (pv 3) (zl GD hr rfl mD FD.kp bD .nil zAU (zC (pv 0) (zC zX zL))) (fun _ _=>rfl)))))) (.mk zAZ))
     (wone (wret (wix zAw (wlit (Pre4 (t:=t)) (.lst (.cons .non (.cons .bl (.cons .bl (.cons .int (.cons .int (.cons .str (.cons (.tup .nil (zb _)) (.cons (.lst .nil (zb _)) (.cons (.tup (.cons .int .nil) (zBg rfl)) .nil))))))))) (zBg rfl)))
      (.mk (zl GD hr rfl mD FD.kp bD .nil zAU (zC (pv 0) (zC zX zL)))) (fun _ _=>rfl)))))),?_⟩
    have Sv:=S.shows
    obtain⟨ty,bi,bb,bt,hty,e1,e2,e3,e4,e5,nD,tD'⟩:=zC5 (K:=K) Sv
    by_cases c1:zKk d=true
    . have c1':bt=true:=by rw[e5];exact c1
      cases S with
      | non=>cases c1
      | bl=>cases c1
      | int=>cases c1
      | str=>cases c1
      | lst=>cases c1
      | tup ex ax=>
       rename_i a xs ds
       have lx:=zAf ax
       have lw:ds.length<=n:=zz (len_wt ds) (by have:=fn.wt;simpa only [PyData.weight] using this)
       refine⟨_,rfl,_,_,ty,bt,rfl,hty,e3,bt,rfl,ifT c1' ?_⟩
       refine⟨_,rfl,by show 0<=sizeLine;decide,fun l hl=>?_⟩
       have s0:zAo H (upd H l (.tup [])):=zG hl
       have S0:=(show Sh t H (.ref a) (.tuple ds) from .tup ex ax).same s0
       have T0:=TT.keep s0
       have hT0:=hT.same s0
       have e0:SqT (zH8 CX0 P w K mg base [Str.ofString "_law_tape_here",Str.ofString "_law_thing",Str.ofString "_law_at",Str.ofString "_law_some"] (Str.ofString "_law_bent") (defScope zJK) f cdv A outer s H E).nox.K (upd H l (.tup [])) l []:=SqT.of zK
       generalize upd H l (.tup [])=H0 at s0 S0 T0 hT0 e0 ⊢
       refine⟨a,l,xs,rfl,rfl,SqT.of (s0 _ _ (zBX ex).2),e0,?_⟩
       refine⟨_,rfl,?_⟩
       by_cases c3:(!xs.isEmpty)=true
       . refine ifT c3 ?_
         refine⟨_,rfl,t,N,4,rfl,T0,by omega,by decide,by decide,fun r H1 r0 r1 T1 e1'=>?_⟩
         have s1:Sm t H H1:=(Sm.of s0).trans (zDa e1')
         have S1:Sh t H1 (.ref a) (.tuple ds):=S0.sm (zDa e1')
         refine⟨_,_,rfl,rfl,_,rfl,?_⟩
         by_cases c4:(decide ((0:Int)<r))=true
         . refine ifT c4 ?_
           have hds:0<ds.length:=by
            rw[<-lx]
            cases xs with
            | nil=>cases c3
            | cons x xs=>exact Nat.succ_pos _
           have hd1:=zH1 fn
           obtain⟨p',rfl⟩:∃p',p=p'+1:=⟨p-1,by omega⟩
           refine⟨_,rfl,_,rfl,a,xs,rfl,.inr (SqT.of (s1 _ _ (zBX ex).1 (zBX ex).2)),?_⟩
           refine⟨t,N+1,_,rfl,T1,by omega,by omega,by omega,fun at' H2 r20 r21 T2 e2'=>?_⟩
           obtain⟨j,rfl⟩:∃j:Nat,at'=j:=⟨at'.toNat,by omega⟩
           have hj:j<ds.length:=by omega
           have s2:Sm t H H2:=s1.trans (zDa e2')
           have S2:Sh t H2 (.ref a) (.tuple ds):=S1.sm (zDa e2')
           have hT2:zF8 t H2:=by obtain⟨_,_,_,_,q,_⟩:=id T2;exact⟨_,q⟩
           refine⟨_,rfl,_,rfl,_,rfl,_,hT2,S2,fun v3 H3 s3 S3=>?_⟩
           obtain⟨x,hx,sx⟩:=zCp ax (zF hj)
           have s03:Sm t H H3:=s2.trans (Sm.of s3)
           refine⟨_,rfl,_,rfl,_,rfl,a,xs,_,x,rfl,rfl,SqT.of (s03 _ _ (zBX ex).1 (zBX ex).2),zCC hx,?_⟩
           cases m with
           | zero=>omega
           | succ m=>
            refine⟨t,N+2,x,ds[j],k,wd,ds[j].weight,p',rfl,T2.keep s3,by omega,Sh.sm sx s03,ib.elem _ (zAS hj),zMr (zFx fn (zAS hj)),by omega,hk,by have:=(zFx fn (zAS hj)).wt;omega,fun v4 d4 H4 S4 g1 g2 T4 s4=>?_⟩
            have hT4:zF8 t H4:=by obtain⟨_,_,_,_,q,_⟩:=id T4;exact⟨_,q⟩
            refine⟨by show 1<=sizeLine;decide,fun l5 hl5=>?_⟩
            have s5:=zG (o:=.tup [v4]) hl5
            have S5:=zFK (t:=t) hT4 (.cons S4 .nil) hl5
            have l1:=zE0 ds none (some (j:Int))
            have l2:=zE0 ds (some ((j:Int)+1)) none
            refine⟨_,_,hT4.same s5,(S3.sm s4).same s5,S5,by show _+1<=_;omega,fun v6 H6 s6 S6=>?_⟩
            have s36:Sm t H3 H6:=s4.trans ((Sm.of s5).trans (Sm.of s6))
            have hT6:=(hT4.same s5).same s6
            refine⟨_,rfl,_,rfl,_,_,rfl,rfl,_,rfl,_,hT6,(S2.same s3).sm s36,fun v7 H7 s7 S7=>?_⟩
            refine⟨_,_,hT6.same s7,S6.same s7,S7,by rw[zB];show _+1+_<=_;omega,fun v8 H8 s8 S8=>?_⟩
            obtain⟨q1,q2⟩:=bentA hj ib fn g1 g2
            exact kk v8 _ H8 S8 q1 q2 ((T4.keep (s5.trans (s6.trans (s7.trans s8)))).mono (by omega)) (s03.trans (s36.trans (Sm.of (s7.trans s8))))
         . have c4':(decide ((0:Int)<r))=false:=by simpa using c4
           rw[c4']
           obtain⟨N1,hN1,T1⟩:∃N1,N1<=N+1/\zAE H1 t N1:=⟨_,zH _,T1⟩
           obtain⟨ty',bi',bb',bt',hty',_,_,e3',_,e5',_,_⟩:=zC5 (K:=K) S1.shows
           refine ifF rfl ?_
           refine⟨_,rfl,_,_,ty',bt',rfl,hty',e3',bt',rfl,ifT e5' ?_⟩
           refine⟨_,rfl,_,rfl,a,xs,rfl,.inr (SqT.of (s1 _ _ (zBX ex).1 (zBX ex).2)),_,_,rfl,rfl,t,N1,_,rfl,T1,by omega,by omega,by omega,fun r2 H2 r20 r21 T2 e2=>?_⟩
           have S2:Sh t H2 (.ref a) (.tuple ds):=S1.sm (zDa e2)
           have hT2:zF8 t H2:=by obtain⟨_,_,_,_,q,_⟩:=id T2;exact⟨_,q⟩
           refine⟨⟨hT2,rfl,S2,rfl,by show 2*ds.length+2<=1000000;omega⟩,fun v3 H3 s3 S3=>?_⟩
           refine⟨_,rfl,_,rfl,pick (E:=E0) S3 (T2.keep s3) (by omega) rfl (by decide) (by decide) fun x d' H4 hd S4 T4 s4=>?_⟩
           obtain⟨g1,g2⟩:=lit5 r20 (by omega) ib fn hd
           exact kk x d' H4 S4 g1 g2 (T4.mono (by omega)) (s1.trans ((zDa e2).trans ((Sm.of s3).trans s4)))
       . refine ifF (by simpa using c3) ?_
         have s1:Sm t H H0:=Sm.of s0
         obtain⟨H1,rfl⟩:∃H1,H1=H0:=⟨_,rfl⟩
         have S1:=S0
         obtain⟨N1,hN1,T1⟩:∃N1,N1<=N+1/\zAE H1 t N1:=⟨_,zBl _,T0⟩
         obtain⟨ty',bi',bb',bt',hty',_,_,e3',_,e5',_,_⟩:=zC5 (K:=K) S1.shows
         refine ifF rfl ?_
         refine⟨_,rfl,_,_,ty',bt',rfl,hty',e3',bt',rfl,ifT e5' ?_⟩
         refine⟨_,rfl,_,rfl,a,xs,rfl,.inr (SqT.of (s1 _ _ (zBX ex).1 (zBX ex).2)),_,_,rfl,rfl,t,N1,_,rfl,T1,by omega,by omega,by omega,fun r2 H2 r20 r21 T2 e2=>?_⟩
         have S2:Sh t H2 (.ref a) (.tuple ds):=S1.sm (zDa e2)
         have hT2:zF8 t H2:=by obtain⟨_,_,_,_,q,_⟩:=id T2;exact⟨_,q⟩
         refine⟨⟨hT2,rfl,S2,rfl,by show 2*ds.length+2<=1000000;omega⟩,fun v3 H3 s3 S3=>?_⟩
         refine⟨_,rfl,_,rfl,pick (E:=E0) S3 (T2.keep s3) (by omega) rfl (by decide) (by decide) fun x d' H4 hd S4 T4 s4=>?_⟩
         obtain⟨g1,g2⟩:=lit5 r20 (by omega) ib fn hd
         exact kk x d' H4 S4 g1 g2 (T4.mono (by omega)) (s1.trans ((zDa e2).trans ((Sm.of s3).trans s4)))
    have c1':bt=false:=by rw[e5];simpa using c1
    refine⟨_,rfl,_,_,ty,bt,rfl,hty,e3,bt,rfl,ifF c1' ?_⟩
    refine ifF rfl ?_
    refine⟨_,rfl,_,_,ty,bt,rfl,hty,e3,bt,rfl,ifF c1' ?_⟩
    refine⟨_,rfl,_,_,ty,bi,rfl,hty,e1,bi,rfl,?_⟩
    by_cases c2:zFQ d=true
    . obtain⟨i,rfl,rfl⟩:=nD c2
      rw[c2] at e4
      have hi:i.natAbs<=k:=by cases ib;assumption
      refine ifT (by cases bi with | true=>rfl | false=>cases e4) ?_
      refine⟨_,rfl,_,_,ty,bb,rfl,hty,e2,bb,rfl,ifT (by cases bi with | true=>exact e4 | false=>cases e4) ?_⟩
      refine⟨⟨hT,rfl,by show i.natAbs<_;omega⟩,fun v1 H1 s1 S1=>?_⟩
      refine⟨_,rfl,_,rfl,pick (E:=E0) S1 (TT.keep s1) (by omega) rfl (by decide) (by decide) fun x d' H2 hd S2 T2 s2=>?_⟩
      obtain⟨g1,g2⟩:=lit10 (n:=n) (p:=p) hi hk hd
      exact kk x d' H2 S2 g1 g2 (T2.mono (by omega)) ((Sm.of s1).trans s2)
    have c2':(bi && !bb)=false:=by rw[e4];simpa using c2
    cases bi with
    | false=>
     refine ifF rfl (ifF rfl ?_)
     refine⟨hT,fun v1 H1 s1 S1=>⟨_,rfl,pick (E:=E0) S1 (TT.keep s1) (by omega) rfl (by decide) (by decide) fun x d' H2 hd S2 T2 s2=>?_⟩⟩
     obtain⟨g1,g2⟩:=lit9 (k:=k) (n:=n) (p:=p) hd
     exact kk x d' H2 S2 g1 g2 (T2.mono (by omega)) ((Sm.of s1).trans s2)
    | true=>
     refine ifT rfl ⟨_,rfl,_,_,ty,bb,rfl,hty,e2,bb,rfl,ifF c2' ?_⟩
     refine⟨hT,fun v1 H1 s1 S1=>⟨_,rfl,pick (E:=E0) S1 (TT.keep s1) (by omega) rfl (by decide) (by decide) fun x d' H2 hd S2 T2 s2=>?_⟩⟩
     obtain⟨g1,g2⟩:=lit9 (k:=k) (n:=n) (p:=p) hd
     exact kk x d' H2 S2 g1 g2 (T2.mono (by omega)) ((Sm.of s1).trans s2)
end
end K39
namespace K39
open PySem L2 WM
noncomputable def zFh:List Int->Bool
 | a::b::r=>decide (a<b) && zFh (b::r)
 | _=>true
theorem zJN:∀(ms:List Int),zFh ms=(List.range (ms.length-1)).all fun k=>decide (ms.getD k 0<ms.getD (k+1) 0)
 | []=>rfl
 | [_]=>rfl
 | a::b::r=>by
  show (decide (a<b) && zFh (b::r))=_
  rw[zJN (b::r)]
  show _=(List.range (r.length+1)).all _
  rw[List.range_succ_eq_map,List.all_cons,List.all_map]
  rfl
theorem zEH:∀(ms:List Int),zFh ms=true↔ms.Pairwise (· < ·)
 | []=>by simp[zFh]
 | [_]=>by simp[zFh]
 | a::b::r=>by
  have ih:=zEH (b::r)
  show (decide (a<b) && zFh (b::r))=true↔_
  rw[zAC,ih,decide_eq_true_iff,zBh (a:=a)]
  constructor
  . rintro ⟨h1,h2⟩
    refine⟨fun x hx=>?_,h2⟩
    rcases zR.mp hx with rfl | hx
    . exact h1
    . have:=(zBh.mp h2).1 x hx
      omega
  . rintro ⟨h1,h2⟩
    exact⟨h1 b zT,h2⟩
theorem zMx {a b:Int}:decide (V.int a=V.int b)=decide (a=b):=by
 by_cases h:a=b
 . rw[zQ h,zQ (congrArg V.int h)]
 . rw[zS h,zS fun z=>h (V.int.inj z)]
noncomputable def nnD (d:PyData):Bool:=match d with
 | .int i=>decide (0<=i)
 | _=>false
noncomputable def zFF (d:PyData):Int:=match d with
 | .int i=>i
 | _=>0
noncomputable def zCB (d:PyData):Bool:=match d with
 | .tuple ds=>!ds.isEmpty && (ds.all nnD && zFh (ds.map zFF))
 | _=>false
noncomputable def zBW:Nat->PyData->Bool
 | 0,_=>false
 | m+1,d=>match d with
  | .tuple [p,.tuple ps]=>zCB p && ps.all (zBW m)
  | _=>false
theorem zHC:∀{ds:List PyData},ds.all nnD=true->ds=(ds.map zFF).map PyData.int
 | [],_=>rfl
 | d::ds,h=>by
  rw[List.all_cons,zAC] at h
  rw[zAG,zAG,<-zHC h.2]
  cases d with
  | int i=>rfl
  | _=>cases h.1
theorem zJB {H:Hp}:∀{xs:List V}{os:List Int},zq H xs (os.map PyData.int)->xs=os.map V.int:=by
 intro xs os h
 induction os generalizing xs with
 | nil=>cases h;rfl
 | cons o os ih=>
  cases h with
  | cons a b=>
   cases a
   rw[ih b]
   rfl
noncomputable def spRis:Sp:=fun vs H Q _=>∃(p:Addr)(xs:List Int),vs=[.ref p]/\H p=some (.tup (xs.map V.int))/\xs.length<=1000/\∀H',zAo H H'->Q (.bl (zFh xs)) H'
noncomputable def zLf:Sp:=fun vs H Q _=>∃(v:V)(d:PyData)(k l:Nat),vs=[v]/\zAj H v d/\IB k l d/\l<64/\∀H',zAo H H'->Q (.bl (zCB d)) H'
noncomputable def spPw (m:Nat):Sp:=fun vs H Q _=>∃(v:V)(d:PyData)(k l:Nat),vs=[v,.int m]/\zAj H v d/\IB k l d/\l<64/\∀H',zAo H H'->Q (.bl (zBW m d)) H'
section
variable {P:Program}{w:World}{K:PySem.W.Frag}{mg:Str->Option Value}{base:Heap}
theorem scRis:zAN ["things"] ["things"] (defScope sRis):=⟨rfl,rfl,rfl,by decide +kernel,rfl,by decide +kernel,by decide +kernel⟩
theorem ok_ris {f:Addr}{fd':FuncData}(F:Fun K "is_rising" "is_rising" sRis f fd') (mLen:mg "len" = none) (mRange:mg "range" = none) (mAll:mg "all" = none):zAs P w K mg base CX0 1 f fd' ["things"] spRis:=by
 refine F.ok scRis (fun vs H Q E h=>?_) (fun cdv A outer s H vs Q E hr h=>?_)
 . obtain⟨p,xs,rfl,_⟩:=h
   rfl
 . obtain⟨p,xs,rfl,hp,hl,k⟩:=h
   refine⟨_,ze (zAH (zn (zF6 rfl) (by rfl) mAll (by decide +kernel) (zC (zCO (own:=["k"]) (cn:=["things"]) (ci:=[0]) rfl (csc rfl rfl) ⟨rfl,rfl,rfl,trivial⟩ rfl
    (zGU rfl mRange (zC zX (zC (zn zy (by rfl) mLen PySem.boot_len (zC (pv 0) zL)) zL))) (fun _ _ _ _=>zAX (i:=0) (zDT rfl) rfl (Or.inl rfl)) (fun _ _ _ _=>zCm)
    (fun _ _ _ _=>zCX zJh (zAM zEr (pv 1) (zAz zHn (pv 0) zX) (fun _ _=>rfl)) (zAM zEr (pv 1) (pv 0) (fun _ _=>rfl)) (zAg _))) zL))),?_⟩
   refine⟨_,rfl,p,_,rfl,.inr (SqT.of hp),1,_,rfl,⟨by decide,by decide,by rw[zE];omega,by rw[zE];omega⟩,[.ref p],rfl,fun D hD=>?_⟩
   refine zDE (lo:=1) (n:=(((xs.map V.int).length:Int)-1).toNat) (fun q ys H4=>q<=(((xs.map V.int).length:Int)-1).toNat/\ys=((List.range q).map fun k=>decide (xs.getD k 0<xs.getD (k+1) 0)).map V.bl/\H4=upd H D (.lst ys)) ⟨zb _,rfl,rfl⟩ (fun q ys H4 z=>?_) (fun q ys H4 hq z=>?_) (fun ys H4 z=>?_)
   . obtain⟨hq,rfl,_⟩:=z
     rw[zE] at hq
     rw[zE,zE,zAQ]
     exact zu (by omega)
   . obtain⟨_,rfl,rfl⟩:=z
     rw[zE] at hq
     have hp4:=zG (o:=.lst (((List.range q).map fun k=>decide (xs.getD k 0<xs.getD (k+1) 0)).map V.bl)) hD _ _ hp
     have h1:q<xs.length:=by omega
     have h2:q+1<xs.length:=by omega
     refine⟨⟨rfl,rfl⟩,?_⟩
     refine zKb ?_
     refine⟨_,rfl,_,rfl,_,_,rfl,rfl,p,_,_,.int xs[q],rfl,rfl,SqT.of hp4,zIG (by omega) (by rw[show ((1:Int)+q-1).toNat=q by omega,zZ,zF h1];rfl),_,rfl,_,rfl,p,_,_,.int xs[q+1],rfl,rfl,SqT.of hp4,zIG (by omega) (by rw[show ((1:Int)+q).toNat=q+1 by omega,zZ,zF h2];rfl),_,_,rfl,rfl,zK,by rw[zE];omega,?_,zCt⟩
     have d1:xs.getD q 0=xs[q]:=by rw[zU,zF h1];rfl
     have d2:xs.getD (q+1) 0=xs[q+1]:=by rw[zU,zF h2];rfl
     rw[List.range_succ,zj,zj]
     show _=_++[V.bl (decide (xs.getD q 0<xs.getD (q+1) 0))]
     rw[d1,d2]
   . obtain⟨_,rfl,rfl⟩:=z
     refine⟨D,_,rfl,SqL.of zK,?_⟩
     have e:(((List.range (((xs.map V.int).length:Int)-1).toNat).map fun k=>decide (xs.getD k 0<xs.getD (k+1) 0)).all id)=zFh xs:=by
      rw[zJN,List.all_map,zE,show ((xs.length:Int)-1).toNat=xs.length-1 by omega]
      rfl
     rw[e]
     exact k _ (zG hD)
theorem scPp:zAN ["thing"] ["thing"] (defScope sPp):=⟨rfl,rfl,rfl,by decide +kernel,rfl,by decide +kernel,by decide +kernel⟩
theorem ok_pp {f fN fR:Addr}{fd' fdN fdR:FuncData}(F:Fun K "are_plan_places" "are_plan_places" sPp f fd') (FN:Fun K "is_number" "is_number" sNum fN fdN) (bN:zAI K fdN ["thing"] []) (mN:mg "is_number" = some (.ref fN))
 (FR:Fun K "is_rising" "is_rising" sRis fR fdR) (bR:zAI K fdR ["things"] []) (mR:mg "is_rising" = some (.ref fR)) (mIsi:mg "isinstance" = none) (mInt:mg "int" = none) (mBool:mg "bool" = none) (mTuple:mg "tuple" = none) (mLen:mg "len" = none) (mRange:mg "range" = none) (mAll:mg "all" = none) :
 zAs P w K mg base CX0 2 f fd' ["thing"] zLf:=by
 have GN:zAs P w K mg base CX0 1 fN fdN ["thing"] zMI:=zLo FN mIsi mInt mBool
 have GR:zAs P w K mg base CX0 1 fR fdR ["things"] spRis:=ok_ris FR mLen mRange mAll
 refine F.ok scPp (fun vs H Q E h=>?_) (fun cdv A outer s H vs Q E hr h=>?_)
 . obtain⟨v,d,k,l,rfl,_⟩:=h
   rfl
 . obtain⟨v,d,kb,lb,rfl,S,ib,hlb,k⟩:=h
   obtain⟨t,bi,bb,bt,ty,_,_,e3,_,e5,_,ht⟩:=zC5 (K:=K) S
   refine⟨_,zV (zBc (PW.pt (zDF (zB0 (zBL (zn zAq (by rfl) mIsi (by decide +kernel) (zC (pv 0) (zC (zCJ (T := "tuple") (by rfl) mTuple (by decide +kernel)) zL))))) (zDK (zAF zDS (zn zy (by rfl) mLen PySem.boot_len (zC (pv 0) zL)) zX (zAg _))))) (ze (zAH zDw)) zAZ)
    (ze (zAH (zDN (zn (zF6 rfl) (by rfl) mAll (by decide +kernel) (zC (zCO (own:=["place"]) (cn:=[]) (ci:=[]) rfl (csc rfl rfl) trivial rfl (zCg (pv 0)) (fun _ _ _ _=>zAX (i:=0) (zDT rfl) rfl (Or.inl rfl)) (fun _ _ _ _=>zCm)
     (fun _ _ _ _=>zDN (zl GN hr rfl mN FN.kp bN .nil zAU (zC (pv 0) zL)) (zDL (zCX zK6 (pv 0) zX (zAg _))))) zL)) (zDL (zl GR hr rfl mR FR.kp bR .nil zAU (zC (pv 0) zL)))))),?_⟩
   refine⟨_,rfl,_,_,t,bt,rfl,ty,e3,bt,rfl,?_⟩
   rw[e5]
   cases hn:zKk d with
   | false=>
    refine zCj (zCj ?_)
    have:zCB d=false:=by cases d <;> first | rfl | cases hn
    rw[<-this]
    exact k H (zAo.refl _)
   | true=>
    refine zCZ ?_
    obtain⟨a,xs,ds,rfl,ha,rfl,al⟩:=ht hn
    have hxl:=zAf al
    have hl64:ds.length<64:=zAx ib.len hlb
    have k':∀(H':Hp),zAo H H'->Q (.bl (!ds.isEmpty && (ds.all nnD && zFh (ds.map zFF)))) H':=k
    refine⟨_,rfl,a,xs,rfl,.inr (SqT.of ha),rfl,_,rfl,?_⟩
    rw[zMx,hxl]
    by_cases c:ds=[]
    . subst c
      exact ifT rfl (k' H (zAo.refl _))
    have e0:(!ds.isEmpty)=true:=by cases ds with
     | nil=>exact absurd rfl c
     | cons _ _=>rfl
    rw[e0,Bool.true_and] at k'
    have h0:0<ds.length:=zAi.mpr c
    refine ifF (zS (by omega)) ?_
    refine⟨_,rfl,a,rfl,⟨_,SqT.of ha⟩,[],rfl,fun D hD=>?_⟩
    refine zCl (a:=a) (xs:=xs) (fun i ys H4=>ys=((ds.take i).map nnD).map V.bl/\H4=upd H D (.lst ys)) ⟨rfl,rfl⟩ (fun i ys H4 z=>?_) (fun i ys H4 z=>?_) (fun i x ys H4 hx z=>?_) (fun ys H4 z=>?_)
    . obtain⟨_,rfl⟩:=z
      exact SqT.of (zG hD _ _ ha)
    . obtain⟨rfl,_⟩:=z
      rw[zE,zE,zd]
      exact zu (by omega)
    . obtain⟨rfl,rfl⟩:=z
      have hi:i<ds.length:=by have:=(zM.mp hx).1;omega
      obtain⟨x',hx',Sx⟩:=zCp al (zF hi)
      rw[hx] at hx'
      cases hx'
      have Sx1:=zg (zG (o:=.lst (((ds.take i).map nnD).map V.bl)) hD) Sx
      have et:((ds.take (i+1)).map nnD).map V.bl=((ds.take i).map nnD).map V.bl++[V.bl (nnD ds[i])]:=by
       rw[zAb,zF hi,zj,zj];rfl
      generalize ds[i]=d at Sx1 et
      refine⟨⟨rfl,rfl⟩,?_⟩
      refine zKb ?_
      refine⟨_,rfl,x,d,rfl,Sx1,zFQ d,rfl,?_⟩
      cases hnu:zFQ d with
      | false=>
       have:nnD d=false:=by cases d <;> first | rfl | cases hnu
       rw[this] at et
       exact zCZ ⟨zK,et.symm,zCt⟩
      | true=>
       obtain⟨j,rfl⟩:∃j,d = .int j:=by cases d <;> first | exact⟨_,rfl⟩ | cases hnu
       cases Sx1
       refine zCj ?_
       refine⟨_,rfl,_,_,rfl,rfl,zK,?_,zCt⟩
       rw[et]
       rfl
    . obtain⟨rfl,rfl⟩:=z
      rw[hxl,za (zH _)]
      have ea:(ds.map nnD).all id=ds.all nnD:=by rw[List.all_map];rfl
      refine⟨D,_,rfl,SqL.of zK,(ds.map nnD).all id,rfl,?_⟩
      rw[ea]
      have s1:=zG (o:=.lst ((ds.map nnD).map V.bl)) hD
      generalize upd H D (.lst ((ds.map nnD).map V.bl))=H1 at s1 ⊢
      cases hall:ds.all nnD with
      | false=>
       rw[hall,zBo] at k'
       exact zCZ (k' _ s1)
      | true=>
       rw[hall,Bool.true_and] at k'
       refine zCj ?_
       have hxs:xs=(ds.map zFF).map V.int:=by
        rw[zHC hall] at al
        exact zJB al
       rw[hxs] at ha
       exact⟨_,rfl,a,ds.map zFF,rfl,s1 _ _ ha,by rw[zE];omega,fun H' s'=>k' _ (s1.trans s')⟩
theorem scPw:zAN ["thing", "most"] ["thing", "most"] (defScope sPw):=⟨rfl,rfl,rfl,by decide +kernel,rfl,by decide +kernel,by decide +kernel⟩
theorem ok_pw {f fT fA:Addr}{fd' fdT fdA:FuncData}(F:Fun K "is_plan_within" "is_plan_within" sPw f fd') (bF:zAI K fd' ["thing", "most"] []) (mF:mg "is_plan_within" = some (.ref f)) (FT:Fun K "is_tuple_of" "is_tuple_of" sTof fT fdT) (bT:zAI K fdT ["thing", "count"] []) (mT:mg "is_tuple_of" = some (.ref fT))
 (FA:Fun K "are_plan_places" "are_plan_places" sPp fA fdA) (bA:zAI K fdA ["thing"] []) (mA:mg "are_plan_places" = some (.ref fA)) (GA0:zAs P w K mg base CX0 2 fA fdA ["thing"] zLf)
 (mIsi:mg "isinstance" = none) (mTuple:mg "tuple" = none) (mLen:mg "len" = none) (mAll:mg "all" = none):∀m:Nat,zAs P w K mg base CX0 (m+3) f fd' ["thing", "most"] (spPw m)
 | 0=>by
  refine F.ok scPw (fun vs H Q E h=>?_) (fun cdv A outer s H vs Q E hr h=>?_)
  . obtain⟨v,d,k,l,rfl,_⟩:=h
    rfl
  . obtain⟨v,d,kb,lb,rfl,S,ib,hlb,k⟩:=h
    have GT:zAs P w K mg base CX0 2 fT fdT ["thing", "count"] zMH:=(zLl FT mIsi mTuple mLen).mono (by omega)
    refine⟨_,zV (zBc (PW.pt (zDF (zAF zDS (pv 1) zX (zAg _)) (zDF (zB0 (zBL (zl GT hr rfl mT FT.kp bT .nil zAU (zC (pv 0) (zC zX zL))))) (zDK (zB0 (zBL (zn zAq (by rfl) mIsi (by decide +kernel) (zC (zAM zAP (pv 0) zX (fun _ _=>rfl)) (zC (zCJ (T := "tuple") (by rfl) mTuple (by decide +kernel)) zL))))))))) (ze (zAH zDw)) zAZ)
     (ze ps_no),?_⟩
    refine⟨_,rfl,rfl,_,rfl,ifT rfl (ifT rfl ?_)⟩
    exact k H (zAo.refl _)
 | m+1=>by
  have GP:=ok_pw F bF mF FT bT mT FA bA mA GA0 mIsi mTuple mLen mAll m
  have GT:zAs P w K mg base CX0 (m+3) fT fdT ["thing", "count"] zMH:=(zLl FT mIsi mTuple mLen).mono (by omega)
  have GA:zAs P w K mg base CX0 (m+3) fA fdA ["thing"] zLf:=GA0.mono (by omega)
  refine F.ok scPw (fun vs H Q E h=>?_) (fun cdv A outer s H vs Q E hr h=>?_)
  . obtain⟨v,d,k,l,rfl,_⟩:=h
    rfl
  . obtain⟨v,d,kb,lb,rfl,S,ib,hlb,k⟩:=h
    refine⟨_,zV (zBc (PW.pt (zDF (zAF zDS (pv 1) zX (zAg _)) (zDF (zB0 (zBL (zl GT hr rfl mT FT.kp bT .nil zAU (zC (pv 0) (zC zX zL))))) (zDK (zB0 (zBL (zn zAq (by rfl) mIsi (by decide +kernel) (zC (zAM zAP (pv 0) zX (fun _ _=>rfl)) (zC (zCJ (T := "tuple") (by rfl) mTuple (by decide +kernel)) zL))))))))) (ze (zAH zDw)) zAZ)
     (ze (zAH (zDN (zl GA hr rfl mA FA.kp bA .nil zAU (zC (zAM zAP (pv 0) zX (fun _ _=>rfl)) zL))
      (zDL (zn (zF6 rfl) (by rfl) mAll (by decide +kernel) (zC (zCO (own:=["plan"]) (cn:=["most"]) (ci:=[1]) rfl (csc rfl rfl) ⟨rfl,rfl,rfl,trivial⟩ rfl (zCg (zAM zAP (pv 0) zX (fun _ _=>rfl))) (fun _ _ _ _=>zAX (i:=0) (zDT rfl) rfl (Or.inl rfl)) (fun _ _ _ _=>zCm)
       (fun _ _ _ _=>zl GP hr rfl mF F.kp bF .nil zAU (zC (pv 0) (zC (zAz zHn (pv 1) zX) zL)))) zL)))))),?_⟩
    refine⟨_,rfl,rfl,_,rfl,?_⟩
    rw[zMx]
    refine ifF (zS (by omega)) ?_
    refine⟨_,rfl,v,d,2,rfl,S,tupN d 2,rfl,?_⟩
    cases hn:tupN d 2 with
    | false=>
     refine zCj (zCj ?_)
     have:zBW (m+1) d=false:=by
      unfold zBW
      split
      . cases hn
      . rfl
     rw[<-this]
     exact k H (zAo.refl _)
    | true=>
     refine zCZ ?_
     obtain⟨x,y,rfl⟩:∃x y,d = .tuple [x,y]:=by
      cases d with
      | tuple ds=>
       have hn':decide ((ds.length:Int)=2)=true:=hn
       have hl:ds.length=2:=by have:=of_decide_eq_true hn';omega
       match ds,hl with
       | [x,y],_=>exact⟨x,y,rfl⟩
      | _=>cases hn
     have be:=ib.elem
     cases S with
     | tup ea al=>
      cases al with
      | cons s1 al=>cases al with
       | cons s2 al=>
        cases al
        have hta:=SqT.of (K:=K) ea
        obtain⟨t,bi,bb,bt,ty,_,_,e3,_,e5,_,ht⟩:=zC5 (K:=K) s2
        refine⟨_,rfl,_,_,_,_,rfl,rfl,hta,rfl,_,_,t,bt,rfl,ty,e3,bt,rfl,?_⟩
        rw[e5]
        cases hy:zKk y with
        | false=>
         refine zCj ?_
         have:zBW (m+1) (.tuple [x,y])=false:=by cases y <;> first | rfl | cases hy
         rw[<-this]
         exact k H (zAo.refl _)
        | true=>
         refine zCZ ?_
         obtain⟨c,zs,es,rfl,hc,rfl,bl⟩:=ht hy
         have hzl:=zAf bl
         have iy:IB kb lb (.tuple es):=be _ (by simp)
         have hl64:es.length<64:=zAx iy.len hlb
         have k':∀(H':Hp),zAo H H'->Q (.bl (zCB x && es.all (zBW m))) H':=k
         refine⟨_,rfl,_,_,_,_,rfl,rfl,hta,rfl,_,x,kb,lb,rfl,s1,be _ (by simp),hlb,fun H1 s01=>?_⟩
         refine⟨zCB x,rfl,?_⟩
         cases hp:zCB x with
         | false=>
          rw[hp,zBo] at k'
          exact zCZ (k' _ s01)
         | true=>
          rw[hp,Bool.true_and] at k'
          refine zCj ?_
          refine⟨_,rfl,_,_,_,_,rfl,rfl,SqT.of (s01 _ _ ea),rfl,c,rfl,⟨_,SqT.of (s01 _ _ hc)⟩,[.int ((m+1:Nat):Int)],rfl,fun D hD=>?_⟩
          refine zCl (a:=c) (xs:=zs) (fun i ys H4=>ys=((es.take i).map (zBW m)).map V.bl/\zAo H1 H4/\H4 D=some (.lst ys)) ⟨rfl,zG hD,zK⟩ (fun i ys H4 z=>?_) (fun i ys H4 z=>?_) (fun i x ys H4 hx z=>?_) (fun ys H4 z=>?_)
          . obtain⟨_,s4,_⟩:=z
            exact SqT.of (s4 _ _ (s01 _ _ hc))
          . obtain⟨rfl,_⟩:=z
            rw[zE,zE,zd]
            exact zu (by omega)
          . obtain⟨rfl,s4,h4⟩:=z
            have hi:i<es.length:=by have:=(zM.mp hx).1;omega
            obtain⟨x',hx',Sx⟩:=zCp bl (zF hi)
            rw[hx] at hx'
            cases hx'
            refine⟨⟨rfl,rfl⟩,?_⟩
            refine zKb ?_
            refine⟨_,rfl,_,rfl,_,_,rfl,rfl,x,es[i],kb,lb,?_,zg (s01.trans s4) Sx,iy.elem _ (zAS hi),hlb,fun H5 s5=>⟨s5 _ _ h4,?_,zBZ (s4.trans s5) hD,zK⟩⟩
            . show [x,V.int (((m+1:Nat):Int)-1)]=[x,V.int (m:Int)]
              rw[show (((m+1:Nat):Int)-1)=(m:Int) by omega]
            . rw[zAb,zF hi,zj,zj];rfl
          . obtain⟨rfl,s4,h4⟩:=z
            rw[hzl,za (zH _)] at h4
            refine⟨D,(es.map (zBW m)),rfl,SqL.of h4,?_⟩
            have ea:(es.map (zBW m)).all id=es.all (zBW m):=by rw[List.all_map];rfl
            rw[ea]
            exact k' _ (s01.trans s4)
end
end K39
namespace K39
open PySem L2 WM
section
variable {X:Cx}{pl:List (Addr×Obj)}{N':List Str}{sc:Scope}{fp:List Addr}{s3:Shared}{H3:Hp}
theorem zEA:zDI (zCN X pl N' sc fp s3 H3) (.builtin "isinstance") (fun xs H Q=>∃x T t b,xs=[x,.ty T]/\zHQ X.K H x t/\PySem.W.kitOne X.K t (.type T)=some b/\Q (.bl b) H):=zAq
end
theorem zJk:∀{ds:List PyData},ds.all zFQ=true->∃os:List Int,ds=os.map PyData.int
 | [],_=>⟨[],rfl⟩
 | d::ds,h=>by
  rw[List.all_cons,zAC] at h
  obtain⟨os,rfl⟩:=zJk h.2
  cases d with
  | int i=>exact⟨i::os,rfl⟩
  | _=>cases h.1
theorem zMf:∀{is:List Int}(h:is≠[]),((is.map PyData.int).all nnD && zFh is)=(decide (0<=is.head h) && zFh is)
 | [],h=>absurd rfl h
 | i::is,_=>by
  show ((decide (0<=i) && (is.map PyData.int).all nnD) && zFh (i::is))=(decide (0<=i) && zFh (i::is))
  cases hr:zFh (i::is) with
  | false=>rw[Bool.and_false,Bool.and_false]
  | true=>
   rw[Bool.and_true,Bool.and_true]
   by_cases c:0<=i
   . rw[zQ c,Bool.true_and]
     refine zA7.mpr fun d hd=>?_
     obtain⟨j,hj,rfl⟩:=zAY.mp hd
     have:=(zBh.mp ((zEH _).mp hr)).1 j hj
     show decide (0<=j)=true
     exact zQ (by omega)
   . rw[zS c,zBo]
theorem nn_num {d:PyData}(h:nnD d=true):zFQ d=true:=by cases d <;> first | rfl | cases h
theorem zHu (os:List Int):(os.map PyData.int).map zFF=os:=by
 rw[List.map_map]
 induction os with
 | nil=>rfl
 | cons o os ih=>rw[zAG,ih];rfl
theorem zKv {xs ms:List Int}(hr:ms.Pairwise (· < ·))(hm:∀z:Int,z∈ms↔z∈xs):decide (xs=ms)=zFh xs:=by
 rw[Bool.eq_iff_iff,decide_eq_true_iff,zEH]
 constructor
 . rintro rfl;exact hr
 . intro h;exact zGP h hr fun z=>(hm z).symm
theorem zMs (bs:List Bool):(bs.map V.bl).all zFG=true:=zA7.mpr fun x hx=>by
 obtain⟨b,_,rfl⟩:=zAY.mp hx
 rfl
theorem zJl {α:Type}{p:α->Bool}(es:List α):(if true=true then !inV (.bl false) ((es.map p).map V.bl) else inV (.bl false) ((es.map p).map V.bl))=es.all p:=by
 rw[if_pos rfl]
 induction es with
 | nil=>rfl
 | cons x es ih=>
  have:inV (.bl false) (((x::es).map p).map V.bl)=((p x==false) || inV (.bl false) ((es.map p).map V.bl)):=rfl
  rw[this,List.all_cons,<-ih]
  cases p x <;> rfl
noncomputable def spLp (m:Nat):Sp:=fun vs H Q _=>∃(v:V)(d:PyData)(k l:Nat),vs=[v,.int (25-(m:Int))]/\zAj H v d/\IB k l d/\l<64/\m<=24/\∀H',zAo H H'->Q (.bl (zBW m d)) H'
section
variable {P:Program}{w:World}{K:PySem.W.Frag}{mg:Str->Option Value}{base:Heap}
theorem scLq:zAN ["_law_thing"] ["_law_thing"] (defScope sLq):=⟨rfl,rfl,rfl,by decide +kernel,rfl,by decide +kernel,by decide +kernel⟩
theorem ok_lq {f:Addr}{fd':FuncData}(F:Fun K "_law_is_places" "_law_is_places" sLq f fd') (mIsi:mg "isinstance" = none) (mInt:mg "int" = none) (mBool:mg "bool" = none) (mTuple:mg "tuple" = none) (mLen:mg "len" = none) (mSorted:mg "sorted" = none) (mSet:mg "set" = none) :
 zAs P w K mg base CX0 1 f fd' ["_law_thing"] zLf:=by
 refine F.ok scLq (fun vs H Q E h=>?_) (fun cdv A outer s H vs Q E hr h=>?_)
 . obtain⟨v,d,k,l,rfl,_⟩:=h
   rfl
 . obtain⟨v,d,kb,lb,rfl,S,ib,hlb,k⟩:=h
   have hu0:=hr.units0
   obtain⟨t,bi,bb,bt,ty,_,_,e3,_,e5,_,ht⟩:=zC5 (K:=K) S
   refine⟨_,zV (zBc (PW.pt (zDF (zB0 (zBL (zn zAq (by rfl) mIsi (by decide +kernel) (zC (pv 0) (zC (zCJ (T := "tuple") (by rfl) mTuple (by decide +kernel)) zL))))) (zDK (zAF zDS (zn zy (by rfl) mLen PySem.boot_len (zC (pv 0) zL)) zX (zAg _))))) (ze (zAH zDw)) zAZ)
    (zV (zBc (zAF (zHo hu0) (zCO (own:=["_law_one"]) (cn:=[]) (ci:=[]) rfl (csc rfl rfl) trivial rfl (zCg (pv 0)) (fun _ _ _ _=>zAX (i:=0) (zDT rfl) rfl (Or.inl rfl))
     (fun _ _ _ _=>zEW (PW.pt (zDF (zB0 (zBL (zn zEA (by rfl) mIsi (by decide +kernel) (zC (pv 0) (zC (zCJ (T := "int") (by rfl) mInt (by decide +kernel)) zL))))) (zDK (zBL (zn zEA (by rfl) mIsi (by decide +kernel) (zC (pv 0) (zC (zCJ (T := "bool") (by rfl) mBool (by decide +kernel)) zL)))))))) (fun _ _ _ _=>pv 0)) (zBx zL) (zAg _)) (ze (zAH zDw)) zAZ)
    (ze (zAH (zDN (zCX zK6 (zAM zAP (pv 0) zX (fun _ _=>rfl)) zX (zAg _)) (zDL (zCX (op_eqT hu0) (pv 0) (zAv zAp (by rfl) mTuple (by decide +kernel) (zC (zD6 rfl rfl mSorted rfl mSet (zC (pv 0) zL)) zL)) (zAg _))))))),?_⟩
   refine⟨_,rfl,_,_,t,bt,rfl,ty,e3,bt,rfl,?_⟩
   rw[e5]
   cases hn:zKk d with
   | false=>
    refine zCj (zCj ?_)
    have:zCB d=false:=by cases d <;> first | rfl | cases hn
    rw[<-this]
    exact k H (zAo.refl _)
   | true=>
    refine zCZ ?_
    obtain⟨a,xs,ds,rfl,ha,rfl,al⟩:=ht hn
    have hxl:=zAf al
    have hl64:ds.length<64:=zAx ib.len hlb
    have k':∀(H':Hp),zAo H H'->Q (.bl (!ds.isEmpty && (ds.all nnD && zFh (ds.map zFF)))) H':=k
    refine⟨_,rfl,a,xs,rfl,.inr (SqT.of ha),rfl,_,rfl,?_⟩
    rw[zMx,hxl]
    by_cases c:ds=[]
    . subst c
      exact ifT rfl (k' H (zAo.refl _))
    have e0:(!ds.isEmpty)=true:=by cases ds with
     | nil=>exact absurd rfl c
     | cons _ _=>rfl
    rw[e0,Bool.true_and] at k'
    have h0:0<ds.length:=zAi.mpr c
    refine ifF (zS (by omega)) ?_
    refine⟨_,rfl,a,rfl,⟨_,SqT.of ha⟩,[],rfl,fun D hD=>?_⟩
    refine zCl (a:=a) (xs:=xs) (fun i ys H4=>(ys=[]↔(ds.take i).all zFQ=true)/\ys.length<=(ds.take i).length/\H4=upd H D (.lst ys)) ⟨⟨fun _=>rfl,fun _=>rfl⟩,zb _,rfl⟩ (fun i ys H4 z=>?_) (fun i ys H4 z=>?_) (fun i x ys H4 hx z=>?_) (fun ys H4 z=>?_)
    . obtain⟨_,_,rfl⟩:=z
      exact SqT.of (zG hD _ _ ha)
    . obtain⟨_,hl,_⟩:=z
      rw[zd] at hl
      exact zu (by omega)
    . obtain⟨hy,hl,rfl⟩:=z
      have hi:i<ds.length:=by have:=(zM.mp hx).1;omega
      obtain⟨x',hx',Sx⟩:=zCp al (zF hi)
      rw[hx] at hx'
      cases hx'
      have Sx1:=zg (zG (o:=.lst ys) hD) Sx
      obtain⟨tx,xi,xb,xt,tyx,x1,x2,_,x4,_⟩:=zC5 (K:=K) Sx1
      have et:(ds.take (i+1)).all zFQ=((ds.take i).all zFQ && zFQ ds[i]):=by
       rw[zAb,zF hi,List.all_append]
       show ((ds.take i).all zFQ && (zFQ ds[i] && true))=_
       rw[Bool.and_true]
      refine⟨⟨rfl,rfl⟩,?_⟩
      refine⟨_,rfl,_,_,tx,xi,rfl,tyx,x1,xi,rfl,?_⟩
      have yes:zFQ ds[i]=true->(ys=[]↔(ds.take (i+1)).all zFQ=true)/\ys.length<=(ds.take (i+1)).length/\upd H D (.lst ys)=upd H D (.lst ys):=fun e=>⟨by rw[et,e,Bool.and_true];exact hy,by rw[zd] at hl ⊢;omega,rfl⟩
      have no:zFQ ds[i]=false->(ys++[x]=[]↔(ds.take (i+1)).all zFQ=true)/\(ys++[x]).length<=(ds.take (i+1)).length/\upd (upd H D (.lst ys)) D (.lst (ys++[x]))=upd H D (.lst (ys++[x])):=fun e=>⟨by rw[et,e,Bool.and_false];simp,by rw[zB,zd];rw[zd] at hl;show ys.length+1<=_;omega,zCt⟩
      cases xi with
      | false=>
       refine zCj (zCj ?_)
       exact⟨_,rfl,zK,no (by rw[<-x4];rfl)⟩
      | true=>
       refine zCZ ?_
       refine⟨_,rfl,_,_,tx,xb,rfl,tyx,x2,xb,rfl,?_⟩
       cases xb with
       | true=>exact zCj ⟨_,rfl,zK,no (by rw[<-x4];rfl)⟩
       | false=>exact zCZ (yes (by rw[<-x4];rfl))
    . obtain⟨hy,hl,rfl⟩:=z
      rw[hxl,za (zH _)] at hy
      refine⟨zb _,fun b hb=>?_⟩
      have sb:=(zG (o:=.lst ys) hD).trans (zG (o:=.lst []) hb)
      have hD2:(upd (upd H D (.lst ys)) b (.lst [])) D=some (.lst ys):=zG hb _ _ zK
      refine⟨D,b,ys,rfl,rfl,SqL.of hD2,SqL.of zK,_,rfl,?_⟩
      generalize upd (upd H D (.lst ys)) b (.lst [])=H5 at sb ⊢
      cases hall:ds.all zFQ with
      | false=>
       have hne:ys≠[]:=fun z=>by have:=hy.mp z;rw[hall] at this;cases this
       have e1:(!ys.isEmpty)=true:=by cases ys with
        | nil=>exact absurd rfl hne
        | cons _ _=>rfl
       have hnn:ds.all nnD=false:=by
        cases hh:ds.all nnD with
        | false=>rfl
        | true=>
         have:ds.all zFQ=true:=zA7.mpr fun d hd=>nn_num (zA7.mp hh d hd)
         rw[this] at hall
         cases hall
       rw[hnn,zBo] at k'
       exact ifT e1 (k' _ sb)
      | true=>
       have he:ys=[]:=hy.mpr hall
       subst he
       refine ifF rfl ?_
       obtain⟨os,rfl⟩:=zJk hall
       have hxs:=zJB al
       subst hxs
       rw[zE] at hl64
       rw[zHu] at k'
       have hos:os≠[]:=fun z=>by subst z;exact c rfl
       rw[zMf hos] at k'
       have hat:atI (os.map V.int) 0=some (.int (os.head hos)):=by cases os with
        | nil=>exact absurd rfl hos
        | cons o os=>exact zIG (by decide) rfl
       refine⟨_,rfl,a,_,_,_,rfl,rfl,SqT.of (sb _ _ ha),hat,_,_,rfl,rfl,_,rfl,?_⟩
       by_cases c0:0<=os.head hos
       . rw[zQ c0,Bool.true_and] at k'
         refine ifT (zQ c0) ?_
         refine⟨_,rfl,_,rfl,a,os,rfl,.inr (SqT.of (sb _ _ ha)),hl64,fun l ms hl2 hrm hmm=>?_⟩
         refine⟨l,_,rfl,.inl ⟨SqL.of zK,fun l2 hl3=>?_⟩⟩
         have s2:=(zG (o:=.lst (ms.map V.int)) hl2).trans (zG (o:=.tup (ms.map V.int)) hl3)
         refine⟨a,l2,os,ms,rfl,rfl,SqT.of (s2 _ _ (sb _ _ ha)),SqT.of zK,?_⟩
         show Q (.bl (decide (os=ms))) _
         rw[zKv hrm hmm]
         exact k' _ (sb.trans s2)
       . rw[zS c0,zBo] at k'
         exact ifF (zS c0) (k' _ sb)
theorem scLp:zAN ["_law_thing", "_law_deep"] ["_law_thing", "_law_deep"] (defScope sLp):=⟨rfl,rfl,rfl,by decide +kernel,rfl,by decide +kernel,by decide +kernel⟩
theorem ok_lp {f fA:Addr}{fd' fdA:FuncData}(F:Fun K "_law_is_plan" "_law_is_plan" sLp f fd') (bF:zAI K fd' ["_law_thing", "_law_deep"] []) (mF:mg "_law_is_plan" = some (.ref f))
 (FA:Fun K "_law_is_places" "_law_is_places" sLq fA fdA) (bA:zAI K fdA ["_law_thing"] []) (mA:mg "_law_is_places" = some (.ref fA)) (GA0:zAs P w K mg base CX0 1 fA fdA ["_law_thing"] zLf)
 (mIsi:mg "isinstance" = none) (mTuple:mg "tuple" = none) (mLen:mg "len" = none):∀m:Nat,zAs P w K mg base CX0 (m+2) f fd' ["_law_thing", "_law_deep"] (spLp m)
 | 0=>by
  refine F.ok scLp (fun vs H Q E h=>?_) (fun cdv A outer s H vs Q E hr h=>?_)
  . obtain⟨v,d,k,l,rfl,_⟩:=h
    rfl
  . obtain⟨v,d,kb,lb,rfl,S,ib,hlb,_,k⟩:=h
    refine⟨_,zV (zBc (PW.pt (zDF (zAF zEf (pv 1) zX (zAg _)) (zDF (zB0 (zBL (zn zAq (by rfl) mIsi (by decide +kernel) (zC (pv 0) (zC (zCJ (T := "tuple") (by rfl) mTuple (by decide +kernel)) zL))))) (zDF (zJP (zLj (zn zy (by rfl) mLen PySem.boot_len (zC (pv 0) zL)) zX)) (zDK (zB0 (zBL (zl GA0 hr rfl mA FA.kp bA .nil zAU (zC (zAM zAP (pv 0) zX (fun _ _=>rfl)) zL)))))))) ) (ze (zAH zDw)) zAZ)
     (ze ps_no),?_⟩
    refine⟨_,rfl,_,_,rfl,rfl,_,rfl,ifT rfl (ifT rfl ?_)⟩
    exact k H (zAo.refl _)
 | m+1=>by
  have GP:=ok_lp F bF mF FA bA mA GA0 mIsi mTuple mLen m
  have GA:zAs P w K mg base CX0 (m+2) fA fdA ["_law_thing"] zLf:=GA0.mono (by omega)
  refine F.ok scLp (fun vs H Q E h=>?_) (fun cdv A outer s H vs Q E hr h=>?_)
  . obtain⟨v,d,k,l,rfl,_⟩:=h
    rfl
  . obtain⟨v,d,kb,lb,rfl,S,ib,hlb,hm,k⟩:=h
    refine⟨_,zV (zBc (PW.pt (zDF (zAF zEf (pv 1) zX (zAg _)) (zDF (zB0 (zBL (zn zAq (by rfl) mIsi (by decide +kernel) (zC (pv 0) (zC (zCJ (T := "tuple") (by rfl) mTuple (by decide +kernel)) zL))))) (zDF (zJP (zLj (zn zy (by rfl) mLen PySem.boot_len (zC (pv 0) zL)) zX)) (zDK (zB0 (zBL (zl GA hr rfl mA FA.kp bA .nil zAU (zC (zAM zAP (pv 0) zX (fun _ _=>rfl)) zL)))))))) ) (ze (zAH zDw)) zAZ)
     (ze (zAH (zDN (zn zAq (by rfl) mIsi (by decide +kernel) (zC (zAM zAP (pv 0) zX (fun _ _=>rfl)) (zC (zCJ (T := "tuple") (by rfl) mTuple (by decide +kernel)) zL)))
      (zDL (zCX zBj zDw (zCO (own:=["_law_one"]) (cn:=["_law_deep"]) (ci:=[1]) rfl (csc rfl rfl) ⟨rfl,rfl,rfl,trivial⟩ rfl (zCg (zAM zAP (pv 0) zX (fun _ _=>rfl))) (fun _ _ _ _=>zAX (i:=0) (zDT rfl) rfl (Or.inl rfl)) (fun _ _ _ _=>zCm)
       (fun _ _ _ _=>zl GP hr rfl mF F.kp bF .nil zAU (zC (pv 0) (zC (zAz zCK (pv 1) zX) zL)))) (by with_unfolding_all rfl)))))),?_⟩
    refine⟨_,rfl,_,_,rfl,rfl,_,rfl,ifF (zS (by omega)) ?_⟩
    obtain⟨t,bi,bb,bt,ty,_,_,e3,_,e5,_,ht⟩:=zC5 (K:=K) S
    refine⟨_,rfl,_,_,t,bt,rfl,ty,e3,bt,rfl,?_⟩
    rw[e5]
    cases hn:zKk d with
    | false=>
     refine zCj (zCj ?_)
     have:zBW (m+1) d=false:=by cases d <;> first | rfl | cases hn
     rw[<-this]
     exact k H (zAo.refl _)
    | true=>
     refine zCZ ?_
     obtain⟨a,xs,ds,rfl,ha,rfl,al⟩:=ht hn
     have hxl:=zAf al
     refine⟨_,rfl,a,xs,rfl,.inr (SqT.of ha),_,_,rfl,rfl,_,rfl,?_⟩
     by_cases c:ds.length=2
     case neg=>
      refine ifT (by simp;omega) (zCj ?_)
      have:zBW (m+1) (.tuple ds)=false:=by
       unfold zBW
       split
       . rename_i h;cases h;exact absurd rfl c
       . rfl
      rw[<-this]
      exact k H (zAo.refl _)
     refine ifF (by simp;omega) ?_
     obtain⟨x,y,rfl⟩:∃x y,ds=[x,y]:=by
      match ds,c with
      | [x,y],_=>exact⟨x,y,rfl⟩
     have be:=ib.elem
     cases al with
     | cons s1 al=>cases al with
      | cons s2 al=>
       cases al
       have hta:=SqT.of (K:=K) ha
       refine⟨_,rfl,_,_,_,_,rfl,rfl,hta,rfl,_,x,kb,lb,rfl,s1,be _ (by simp),hlb,fun H1 s01=>?_⟩
       refine⟨zCB x,rfl,?_⟩
       obtain⟨t2,bi2,bb2,bt2,ty2,_,_,f3,_,f5,_,ht2⟩:=zC5 (K:=K) (zg s01 s2)
       cases hp:zCB x with
       | false=>
        refine zCj ?_
        have:zBW (m+1) (.tuple [x,y])=false:=by
         cases y with
         | tuple es=>
          show (zCB x && _)=false
          rw[hp,zBo]
         | _=>rfl
        rw[<-this]
        exact k _ s01
       | true=>
        refine zCZ ?_
        refine⟨_,rfl,_,_,_,_,rfl,rfl,SqT.of (s01 _ _ ha),rfl,_,_,t2,bt2,rfl,ty2,f3,bt2,rfl,?_⟩
        rw[f5]
        cases hy:zKk y with
        | false=>
         refine zCZ ?_
         have:zBW (m+1) (.tuple [x,y])=false:=by cases y <;> first | rfl | cases hy
         rw[<-this]
         exact k _ s01
        | true=>
         refine zCj ?_
         obtain⟨c',zs,es,rfl,hc,rfl,bl⟩:=ht2 hy
         have hzl:=zAf bl
         have iy:IB kb lb (.tuple es):=be _ (by simp)
         have hl64:es.length<64:=zAx iy.len hlb
         have k':∀(H':Hp),zAo H H'->Q (.bl (es.all (zBW m))) H':=by
          have:zBW (m+1) (.tuple [x,.tuple es])=(zCB x && es.all (zBW m)):=rfl
          rw[this,hp,Bool.true_and] at k
          exact k
         refine⟨_,rfl,_,_,_,_,rfl,rfl,SqT.of (s01 _ _ ha),rfl,c',rfl,⟨_,SqT.of hc⟩,[.int (25-((m+1:Nat):Int))],rfl,fun D hD=>?_⟩
         refine zCl (a:=c') (xs:=zs) (fun i ys H4=>ys=((es.take i).map (zBW m)).map V.bl/\zAo H1 H4/\H4 D=some (.lst ys)) ⟨rfl,zG hD,zK⟩ (fun i ys H4 z=>?_) (fun i ys H4 z=>?_) (fun i x ys H4 hx z=>?_) (fun ys H4 z=>?_)
         . obtain⟨_,s4,_⟩:=z
           exact SqT.of (s4 _ _ hc)
         . obtain⟨rfl,_⟩:=z
           rw[zE,zE,zd]
           exact zu (by omega)
         . obtain⟨rfl,s4,h4⟩:=z
           have hi:i<es.length:=by have:=(zM.mp hx).1;omega
           obtain⟨x',hx',Sx⟩:=zCp bl (zF hi)
           rw[hx] at hx'
           cases hx'
           refine⟨⟨rfl,rfl⟩,?_⟩
           refine zKb ?_
           refine⟨_,rfl,_,rfl,_,_,rfl,rfl,x,es[i],kb,lb,?_,zg s4 Sx,iy.elem _ (zAS hi),hlb,by omega,fun H5 s5=>⟨s5 _ _ h4,?_,zBZ (s4.trans s5) hD,zK⟩⟩
           . show [x,V.int (25-((m+1:Nat):Int)+1)]=[x,V.int (25-(m:Int))]
             rw[show (25-((m+1:Nat):Int)+1)=25-(m:Int) by omega]
           . rw[zAb,zF hi,zj,zj];rfl
         . obtain⟨rfl,s4,h4⟩:=z
           rw[hzl,za (zH _)] at h4
           refine⟨D,_,rfl,.inl (SqL.of h4),rfl,zMs _,?_⟩
           have ea:(if true=true then !inV (.bl false) ((es.map (zBW m)).map V.bl) else inV (.bl false) ((es.map (zBW m)).map V.bl))=es.all (zBW m):=zJl _
           rw[ea]
           exact k' _ (s01.trans s4)
end
end K39
namespace K39
open PySem L2 WM
noncomputable def spIp:Sp:=fun vs H Q _=>∃(v:V)(d:PyData)(k l:Nat),vs=[v]/\zAj H v d/\IB k l d/\l<64/\∀H',zAo H H'->Q (.bl (zBW 24 d)) H'
section
variable {P:Program}{w:World}{K:PySem.W.Frag}{mg:Str->Option Value}{base:Heap}
theorem scIp:zAN ["thing"] ["thing"] (defScope sIp):=⟨rfl,rfl,rfl,by decide +kernel,rfl,by decide +kernel,by decide +kernel⟩
theorem ok_ip {f fW:Addr}{fd' fdW:FuncData}{tk:Tok}(F:Fun K "is_plan" "is_plan" sIp f fd') (FW:Fun K "is_plan_within" "is_plan_within" sPw fW fdW) (bW:zAI K fdW ["thing", "most"] []) (mW:mg "is_plan_within" = some (.ref fW)) (GW:zAs P w K mg base CX0 27 fW fdW ["thing", "most"] (spPw 24)) (mMW:mg "MOST_WITHIN" = some (.int 24 tk)) :
 zAs P w K mg base CX0 28 f fd' ["thing"] spIp:=by
 refine F.ok scIp (fun vs H Q E h=>?_) (fun cdv A outer s H vs Q E hr h=>?_)
 . obtain⟨v,d,k,l,rfl,_⟩:=h
   rfl
 . obtain⟨v,d,kb,lb,rfl,S,ib,hlb,k⟩:=h
   refine⟨_,ze (zAH (zl GW hr rfl mW FW.kp bW .nil zAU (zC (pv 0) (zC (zCG (v:=.int 24) rfl mMW ⟨tk,rfl⟩) zL)))),?_⟩
   exact⟨_,rfl,v,d,kb,lb,rfl,S,ib,hlb,k⟩
end
inductive Pln where
 | mk (ps:List Int)(ks:List Pln)
mutual
noncomputable def zAK:Pln->List Int
 | .mk ps ks=>ps++zAD ks
noncomputable def zAD:List Pln->List Int
 | []=>[]
 | k::ks=>zAK k++zAD ks
end
mutual
noncomputable def chO (x:Int):Pln->Option (List Int)
 | .mk ps ks=>if x∈ps then some ps else (zDH x ks).map (ps ++ ·)
noncomputable def zDH (x:Int):List Pln->Option (List Int)
 | []=>none
 | k::ks=>match chO x k with
  | some r=>some r
  | none=>zDH x ks
end
mutual
noncomputable def deep:Pln->Nat
 | .mk ps ks=>ps.length+zLU ks
noncomputable def zLU:List Pln->Nat
 | []=>0
 | k::ks=>max (deep k) (zLU ks)
end
mutual
noncomputable def hgt:Pln->Nat
 | .mk _ ks=>zCs ks+1
noncomputable def zCs:List Pln->Nat
 | []=>0
 | k::ks=>max (hgt k) (zCs ks)
end
mutual
noncomputable def plD:Pln->PyData
 | .mk ps ks=>.tuple [.tuple (ps.map PyData.int),.tuple (zBa ks)]
noncomputable def zBa:List Pln->List PyData
 | []=>[]
 | k::ks=>plD k::zBa ks
end
theorem zBz:∀ks:List Pln,(zBa ks).length=ks.length
 | []=>rfl
 | _::ks=>by rw[zBa,zY,zY,zBz ks]
theorem zCk {k:Pln}:∀{ks:List Pln},k∈ks->hgt k<=zCs ks
 | [],h=>by cases h
 | j::ks,h=>by
  rw[zCs]
  rcases zR.mp h with rfl | h
  . omega
  . have:=zCk h
    omega
theorem zDx {k:Pln}:∀{ks:List Pln}{i:Nat},ks[i]? = some k->zAD (ks.take (i+1))=zAD (ks.take i)++zAK k
 | [],_,h=>by cases h
 | j::ks,0,h=>by
  cases h
  show zAK k++zAD (ks.take 0)=zAD []++zAK k
  simp[zAD]
 | j::ks,i+1,h=>by
  show zAK j++zAD (ks.take (i+1))=(zAK j++zAD (ks.take i))++zAK k
  rw[zDx (ks:=ks) (by simpa using h),zAc]
theorem zCM {k:Pln}:∀{ks:List Pln},k∈ks->(zAK k).length<=(zAD ks).length
 | [],h=>by cases h
 | j::ks,h=>by
  rw[zAD,zB]
  rcases zR.mp h with rfl | h
  . omega
  . have:=zCM h
    omega
theorem zEx:∀(ks:List Pln)(i:Nat),(zAD (ks.take i)).length<=(zAD ks).length
 | ks,0=>by simp[zAD]
 | [],_+1=>zH _
 | k::ks,i+1=>by
  show (zAK k++zAD (ks.take i)).length<=(zAK k++zAD ks).length
  rw[zB,zB]
  have:=zEx ks i
  omega
theorem zES {H:Hp}:∀{zs:List V}{ks:List Pln}{i:Nat}{z:V},zq H zs (zBa ks)->zs[i]? = some z->∃k,ks[i]? = some k/\zAj H z (plD k)
 | [],_,_,_,_,h=>by cases h
 | z::zs,[],_,_,s,_=>by cases s
 | z::zs,k::ks,i,y,s,h=>by
  rw[zBa] at s
  cases s with
  | cons a b=>
   cases i with
   | zero=>cases h;exact⟨k,rfl,a⟩
   | succ i=>
    obtain⟨k',h1,h2⟩:=zES (ks:=ks) (i:=i) b (by simpa using h)
    exact⟨k',by simpa using h1,h2⟩
theorem zEY {H:Hp}{v:V}{ps:List Int}{ks:List Pln}(S:zAj H v (plD (.mk ps ks))):∃(a b c:Addr)(zs:List V),v = .ref a/\H a=some (.tup [.ref b,.ref c])/\H b=some (.tup (ps.map V.int))/\H c=some (.tup zs)/\zq H zs (zBa ks):=by
 rw[plD] at S
 cases S with
 | tup e al=>cases al with
  | cons s1 al=>cases al with
   | cons s2 al=>
    cases al
    cases s1 with
    | tup e1 a1=>cases s2 with
     | tup e2 a2=>
      rw[zJB a1] at e1
      exact⟨_,_,_,_,rfl,e,e1,e2,a2⟩
noncomputable def spPo (h:Nat):Sp:=fun vs H Q _=>∃(v:V)(p:Pln),vs=[v]/\zAj H v (plD p)/\hgt p<=h/\(zAK p).length<=20000/\∀(l:Addr)(H':Hp),zAo H H'->H' l=some (.tup ((zAK p).map V.int))->Q (.ref l) H'
noncomputable def spLf (h:Nat):Sp:=fun vs H Q _=>∃(v:V)(p:Pln),vs=[v]/\zAj H v (plD p)/\hgt p<=h/\(zAK p).length<=20000/\∀(l:Addr)(H':Hp),zAo H H'->H l=none->H' l=some (.lst ((zAK p).map V.int))->Q (.ref l) H'
section
variable {P:Program}{w:World}{K:PySem.W.Frag}{mg:Str->Option Value}{base:Heap}
theorem scPo:zAN ["plan", "found", "part"] ["plan"] (defScope sPo):=⟨rfl,rfl,rfl,by decide +kernel,rfl,by decide +kernel,by decide +kernel⟩
theorem ok_po {f:Addr}{fd':FuncData}(F:Fun K "plan_order" "plan_order" sPo f fd') (bF:zAI K fd' ["plan"] []) (mF:mg "plan_order" = some (.ref f)) (mList:mg "list" = none) (mTuple:mg "tuple" = none):∀h:Nat,zAs P w K mg base CX0 (h+1) f fd' ["plan"] (spPo h)
 | 0=>F.ok scPo (fun vs H Q E h=>by obtain⟨v,p,rfl,_⟩:=h;rfl) (fun cdv A outer s H vs Q E hr h=>by
  obtain⟨v,⟨ps,ks⟩,rfl,_,h0,_⟩:=h
  rw[hgt] at h0
  omega)
 | h+1=>by
  have GP:=ok_po F bF mF mList mTuple h
  refine F.ok scPo (fun vs H Q E h=>?_) (fun cdv A outer s H vs Q E hr h=>?_)
  . obtain⟨v,p,rfl,_⟩:=h
    rfl
  . obtain⟨v,⟨ps,ks⟩,rfl,S,hh,hl,k⟩:=h
    rw[hgt] at hh
    rw[zAK] at hl k
    obtain⟨a,b,c,zs,rfl,ha,hb,hc,al⟩:=zEY S
    have hzl:=zAf al
    rw[zBz] at hzl
    refine⟨_,zV (zAL (i:=1) scPo.nd rfl (Or.inl rfl) (zAv zB3 (by rfl) mList (by decide +kernel) (zC (zAM zAP (pv 0) zX (fun _ _=>rfl)) zL)))
     (zV (zCI PassesOwn.never rfl (zCg (zAM zAP (pv 0) zX (fun _ _=>rfl))) (zAX (i:=2) scPo.nd rfl (Or.inl rfl))
      (ze (zCW (zFn PySem.F.plainAttrs_list PySem.F.slot_list_extend PySem.F.type_list_extend zIZ (pv 1) (zC (zl GP hr rfl mF F.kp bF .nil zAU (zC (pv 2) zL)) zL)))))
     (ze (zAH (zAv zAp (by rfl) mTuple (by decide +kernel) (zC (pv 1) zL))))),?_⟩
    refine⟨_,rfl,_,_,_,_,rfl,rfl,SqT.of ha,rfl,b,_,rfl,.inr (SqT.of hb),fun D hD=>?_⟩
    have s1:=zG (o:=.lst (ps.map V.int)) hD
    refine⟨_,rfl,_,_,_,_,rfl,rfl,SqT.of (s1 _ _ ha),rfl,c,rfl,⟨_,SqT.of (s1 _ _ hc)⟩,zDW (K:=K) (a:=c) (xs:=zs) (fun i σ H2=>∃vt:Option V,σ=[some (.ref a),some (.ref D),vt]/\i<=ks.length/\H2 D=some (.lst ((ps++zAD (ks.take i)).map V.int))/\zAo H H2)
     ⟨none,rfl,zb _,by rw[zK];simp[zAD],s1⟩ (fun i σ H2 _ z=>?_) (fun i x σ H2 hx z=>?_) (fun σ H2 z=>?_)⟩
    . obtain⟨_,_,_,_,s2⟩:=z
      exact SqT.of (s2 _ _ hc)
    . obtain⟨vt,rfl,hi,h2,s2⟩:=z
      obtain⟨kd,hk,Sk⟩:=zES al hx
      have hkm:=zi hk
      have hil:=(zM.mp hk).1
      have hf:=zDx hk
      have hkl:=zCM hkm
      have hkh:=zCk hkm
      have hlen:(zAD (ks.take (i+1))).length<=(zAD ks).length:=zEx ks (i+1)
      rw[hf,zB] at hlen
      rw[zB] at hl
      refine⟨_,rfl,.inl ⟨rfl,_,SqL.of h2⟩,_,rfl,x,kd,rfl,zg s2 Sk,by omega,by omega,fun l H3 s3 h3=>?_⟩
      refine⟨D,l,_,_,rfl,rfl,s3 _ _ h2,h3,?_,?_⟩
      . rw[zE,zE,zB]
        exact zAl (zu (by omega))
      . exact⟨_,rfl,hil,by rw[hf,zK,<-zj,zAc],zBZ (s2.trans s3) hD⟩
    . obtain⟨vt,rfl,hi,h2,s2⟩:=z
      rw[hzl,za (zH _)] at h2
      refine⟨_,rfl,D,_,rfl,.inl ⟨SqL.of h2,fun l hl'=>?_⟩⟩
      exact k l _ (s2.trans (zG hl')) zK
theorem scLf:zAN ["_law_plan_here", "_law_found", "_law_one"] ["_law_plan_here"] (defScope sLf):=⟨rfl,rfl,rfl,by decide +kernel,rfl,by decide +kernel,by decide +kernel⟩
theorem zMc {f:Addr}{fd':FuncData}(F:Fun K "_law_flat" "_law_flat" sLf f fd') (bF:zAI K fd' ["_law_plan_here"] []) (mF:mg "_law_flat" = some (.ref f)) (mList:mg "list" = none):∀h:Nat,zAs P w K mg base CX0 (h+1) f fd' ["_law_plan_here"] (spLf h)
 | 0=>F.ok scLf (fun vs H Q E h=>by obtain⟨v,p,rfl,_⟩:=h;rfl) (fun cdv A outer s H vs Q E hr h=>by
  obtain⟨v,⟨ps,ks⟩,rfl,_,h0,_⟩:=h
  rw[hgt] at h0
  omega)
 | h+1=>by
  have GP:=zMc F bF mF mList h
  refine F.ok scLf (fun vs H Q E h=>?_) (fun cdv A outer s H vs Q E hr h=>?_)
  . obtain⟨v,p,rfl,_⟩:=h
    rfl
  . obtain⟨v,⟨ps,ks⟩,rfl,S,hh,hl,k⟩:=h
    rw[hgt] at hh
    rw[zAK] at hl k
    obtain⟨a,b,c,zs,rfl,ha,hb,hc,al⟩:=zEY S
    have hzl:=zAf al
    rw[zBz] at hzl
    refine⟨_,zV (zAL (i:=1) scLf.nd rfl (Or.inl rfl) (zAv zB3 (by rfl) mList (by decide +kernel) (zC (zAM zAP (pv 0) zX (fun _ _=>rfl)) zL)))
     (zV (zCI PassesOwn.never rfl (zCg (zAM zAP (pv 0) zX (fun _ _=>rfl))) (zAX (i:=2) scLf.nd rfl (Or.inl rfl))
      (ze (zAL (i:=1) scLf.nd rfl (Or.inl rfl) (zAz zGW (pv 1) (zl GP hr rfl mF F.kp bF .nil zAU (zC (pv 2) zL))))))
     (ze (zAH (pv 1)))),?_⟩
    refine⟨_,rfl,_,_,_,_,rfl,rfl,SqT.of ha,rfl,b,_,rfl,.inr (SqT.of hb),fun D hD=>?_⟩
    have s1:=zG (o:=.lst (ps.map V.int)) hD
    refine⟨_,rfl,_,_,_,_,rfl,rfl,SqT.of (s1 _ _ ha),rfl,c,rfl,⟨_,SqT.of (s1 _ _ hc)⟩,zDW (K:=K) (a:=c) (xs:=zs) (fun i σ H2=>∃(D:Addr)(vt:Option V),σ=[some (.ref a),some (.ref D),vt]/\i<=ks.length/\H D=none/\H2 D=some (.lst ((ps++zAD (ks.take i)).map V.int))/\zAo H H2)
     ⟨D,none,rfl,zb _,hD,by rw[zK];simp[zAD],s1⟩ (fun i σ H2 _ z=>?_) (fun i x σ H2 hx z=>?_) (fun σ H2 z=>?_)⟩
    . obtain⟨_,_,_,_,_,_,s2⟩:=z
      exact SqT.of (s2 _ _ hc)
    . obtain⟨D,vt,rfl,hi,hD,h2,s2⟩:=z
      obtain⟨kd,hk,Sk⟩:=zES al hx
      have hkm:=zi hk
      have hil:=(zM.mp hk).1
      have hf:=zDx hk
      have hkl:=zCM hkm
      have hkh:=zCk hkm
      have hlen:(zAD (ks.take (i+1))).length<=(zAD ks).length:=zEx ks (i+1)
      rw[hf,zB] at hlen
      rw[zB] at hl
      refine⟨_,rfl,_,rfl,x,kd,rfl,zg s2 Sk,by omega,by omega,fun l H3 s3 _ h3=>?_⟩
      refine⟨D,l,_,_,rfl,rfl,s3 _ _ h2,h3,?_,fun p hp=>?_⟩
      . rw[zE,zE,zB]
        exact zAl (zu (by omega))
      . have s4:=s2.trans s3
        refine⟨p,_,rfl,hil,?_,by rw[hf,zK,<-zj,zAc],s4.trans (zG hp)⟩
        cases e:H p with
        | none=>rfl
        | some o=>rw[s4 _ _ e] at hp;cases hp
    . obtain⟨D,vt,rfl,hi,hD,h2,s2⟩:=z
      rw[hzl,za (zH _)] at h2
      exact⟨_,rfl,k D _ s2 hD h2⟩
end
end K39
namespace K39
open PySem L2 WM
mutual
theorem zF4 {x:Int}:∀(p:Pln){r:List Int},chO x p=some r->r.length<=(zAK p).length
 | .mk ps ks,r,h=>by
  rw[chO] at h
  rw[zAK,zB]
  split at h
  . cases h
    omega
  . rw[zBV] at h
    obtain⟨r',h1,rfl⟩:=h
    have:=zIC ks h1
    rw[zB]
    omega
theorem zIC {x:Int}:∀(ks:List Pln){r:List Int},zDH x ks=some r->r.length<=(zAD ks).length
 | [],r,h=>by rw[zDH] at h;cases h
 | k::ks,r,h=>by
  rw[zDH] at h
  rw[zAD,zB]
  split at h
  . next r' e=>
    cases h
    have:=zF4 k e
    omega
  . have:=zIC ks h
    omega
end
theorem zKN {x:Int}{ks:List Pln}{i:Nat}{k:Pln}(h:ks[i]? = some k):zDH x (ks.drop i)=match chO x k with | some r=>some r | none=>zDH x (ks.drop (i+1)):=by
 obtain⟨hi,e⟩:=zM.mp h
 rw[List.drop_eq_getElem_cons hi,e,zDH]
 try (cases chO x k <;> rfl)
mutual
noncomputable def zDh:Pln->Prop
 | .mk _ ks=>ks.length<=1000/\ks1 ks
noncomputable def ks1:List Pln->Prop
 | []=>True
 | k::ks=>zDh k/\ks1 ks
end
theorem zJu {k:Pln}:∀{ks:List Pln},ks1 ks->k∈ks->zDh k
 | [],_,h=>by cases h
 | j::ks,h,hm=>by
  rw[ks1] at h
  rcases zR.mp hm with rfl | hm
  . exact h.1
  . exact zJu h.2 hm
noncomputable def spCo (h:Nat):Sp:=fun vs H Q _=>∃(v:V)(p:Pln)(x:Int),vs=[v,.int x]/\zAj H v (plD p)/\hgt p<=h/\(zAK p).length<=20000/\(chO x p=none->∀H',zAo H H'->Q .non H')/\(∀(r:List Int)(l:Addr)(H':Hp),chO x p=some r->zAo H H'->H' l=some (.tup (r.map V.int))->Q (.ref l) H')
noncomputable def spCh (h:Nat):Sp:=fun vs H Q _=>∃(v:V)(p:Pln)(x:Int)(r:List Int),vs=[v,.int x]/\zAj H v (plD p)/\hgt p<=h/\(zAK p).length<64/\chO x p=some r/\(∀(ms:List Int)(l:Addr)(H':Hp),ms.Pairwise (· < ·)->(∀z,z∈ms↔z∈r)->zAo H H'->H' l=some (.tup (ms.map V.int))->Q (.ref l) H')
section
variable {P:Program}{w:World}{K:PySem.W.Frag}{mg:Str->Option Value}{base:Heap}
theorem scCo:zAN ["plan", "place", "part", "rest"] ["plan", "place"] (defScope sCo):=⟨rfl,rfl,rfl,by decide +kernel,rfl,by decide +kernel,by decide +kernel⟩
theorem ok_co {f:Addr}{fd':FuncData}(F:Fun K "chain_or_none" "chain_or_none" sCo f fd') (bF:zAI K fd' ["plan", "place"] []) (mF:mg "chain_or_none" = some (.ref f)):∀h:Nat,zAs P w K mg base CX0 (h+1) f fd' ["plan", "place"] (spCo h)
 | 0=>F.ok scCo (fun vs H Q E h=>by obtain⟨v,p,x,rfl,_⟩:=h;rfl) (fun cdv A outer s H vs Q E hr h=>by
  obtain⟨v,⟨ps,ks⟩,x,rfl,_,h0,_⟩:=h
  rw[hgt] at h0
  omega)
 | h+1=>by
  have GP:=ok_co F bF mF h
  refine F.ok scCo (fun vs H Q E h=>?_) (fun cdv A outer s H vs Q E hr h=>?_)
  . obtain⟨v,p,x,rfl,_⟩:=h
    rfl
  . obtain⟨v,⟨ps,ks⟩,x,rfl,S,hh,hl,kn,ks'⟩:=h
    rw[hgt] at hh
    rw[zAK,zB] at hl
    rw[chO] at kn ks'
    obtain⟨a,b,c,zs,rfl,ha,hb,hc,al⟩:=zEY S
    have hzl:=zAf al
    rw[zBz] at hzl
    refine⟨_,zV (zBc (zAF zEe (pv 1) (zAM zAP (pv 0) zX (fun _ _=>rfl)) (by with_unfolding_all rfl)) (ze (zAH (zAM zAP (pv 0) zX (fun _ _=>rfl)))) zAZ)
     (zV (zCI PassesOwn.never rfl (zCg (zAM zAP (pv 0) zX (fun _ _=>rfl))) (zAX (i:=2) scCo.nd rfl (Or.inl rfl))
      (zV (zAL (i:=3) scCo.nd rfl (Or.inl rfl) (zl GP hr rfl mF F.kp bF .nil zAU (zC (pv 2) (zC (pv 1) zL))))
      (ze (zBc (zAF zJf (pv 3) zDM (zAg _)) (ze (zAH (zAz zG9 (zAM zAP (pv 0) zX (fun _ _=>rfl)) (pv 3)))) zAZ))))
     (ze (zAH zDM))),?_⟩
    refine⟨_,rfl,_,rfl,_,_,_,_,rfl,rfl,SqT.of ha,rfl,b,_,rfl,.inr (SqT.of hb),rfl,zA8 _,_,rfl,?_⟩
    show (if inV (.int x) (ps.map V.int)=true then _ else _)
    rw[zBS]
    by_cases cx:x∈ps
    . refine ifT (zQ cx) ?_
      rw[if_pos cx] at ks'
      exact⟨_,rfl,_,_,_,_,rfl,rfl,SqT.of ha,rfl,ks' ps b H rfl (zAo.refl _) hb⟩
    . refine ifF (zS cx) ?_
      rw[if_neg cx] at kn ks'
      refine⟨_,rfl,_,_,_,_,rfl,rfl,SqT.of ha,rfl,c,rfl,⟨_,SqT.of hc⟩,zDW (K:=K) (a:=c) (xs:=zs) (fun i σ H2=>∃v2 v3:Option V,σ=[some (.ref a),some (.int x),v2,v3]/\zDH x ks=zDH x (ks.drop i)/\zAo H H2) ⟨none,none,rfl,rfl,zAo.refl _⟩ (fun i σ H2 _ z=>?_) (fun i y σ H2 hy z=>?_) (fun σ H2 z=>?_)⟩
      . obtain⟨_,_,_,_,s2⟩:=z
        exact SqT.of (s2 _ _ hc)
      . obtain⟨v2,v3,rfl,hd,s2⟩:=z
        obtain⟨kd,hk,Sk⟩:=zES al hy
        have hkm:=zi hk
        have hkl:=zCM hkm
        have hkh:=zCk hkm
        rw[zKN hk] at hd
        refine⟨_,rfl,_,rfl,y,kd,x,rfl,zg s2 Sk,by omega,by omega,fun e H3 s3=>?_,fun r l H3 e s3 h3=>?_⟩
        . rw[e] at hd
          refine⟨_,rfl,rfl,_,rfl,ifF rfl ?_⟩
          exact⟨_,_,rfl,hd,s2.trans s3⟩
        . rw[e] at hd
          have hrl:=zF4 kd e
          have s23:=s2.trans s3
          refine⟨_,rfl,rfl,_,rfl,ifT rfl ?_⟩
          have ke:∀(l:Addr)(H':Hp),zAo H H'->H' l=some (.tup ((ps++r).map V.int))->Q (.ref l) H':=fun l H' s' h'=>ks' (ps++r) l H' (by rw[hd];rfl) s' h'
          refine⟨_,rfl,_,_,_,_,rfl,rfl,SqT.of (s23 _ _ ha),rfl,_,rfl,b,l,ps.map V.int,r.map V.int,rfl,rfl,SqT.of (s23 _ _ hb),SqT.of h3,?_,fun e0=>?_,fun _ e0=>?_,fun _ _ p hp=>?_⟩
          . rw[zE,zE]
            exact zAl (zu (by omega))
          . have:ps=[]:=List.map_eq_nil_iff.mp e0
            subst this
            exact ke l H3 s23 h3
          . have:r=[]:=List.map_eq_nil_iff.mp e0
            subst this
            exact ke b H3 s23 (by rw[zr];exact s23 _ _ hb)
          . exact ke p _ (s23.trans (zG hp)) (by rw[zj];exact zK)
      . obtain⟨v2,v3,rfl,hd,s2⟩:=z
        rw[hzl,List.drop_of_length_le (zH _),zDH] at hd
        exact kn (by rw[hd];rfl) _ s2
theorem scCh:zAN ["plan", "place"] ["plan", "place"] (defScope sCh):=⟨rfl,rfl,rfl,by decide +kernel,rfl,by decide +kernel,by decide +kernel⟩
theorem ok_ch {f fC:Addr}{fd' fdC:FuncData}{h:Nat}(F:Fun K "chain" "chain" sCh f fd') (FC:Fun K "chain_or_none" "chain_or_none" sCo fC fdC) (bC:zAI K fdC ["plan", "place"] []) (mC:mg "chain_or_none" = some (.ref fC)) (mTuple:mg "tuple" = none) (mSorted:mg "sorted" = none) (mSet:mg "set" = none):zAs P w K mg base CX0 (h+2) f fd' ["plan", "place"] (spCh h):=by
 have GC:zAs P w K mg base CX0 (h+1) fC fdC ["plan", "place"] (spCo h):=ok_co FC bC mC h
 refine F.ok scCh (fun vs H Q E h=>?_) (fun cdv A outer s H vs Q E hr h=>?_)
 . obtain⟨v,p,x,r,rfl,_⟩:=h
   rfl
 . obtain⟨v,p,x,r,rfl,S,hh,hl,hx,k⟩:=h
   refine⟨_,ze (zAH (zAv zAp (by rfl) mTuple (by decide +kernel) (zC (zD6 rfl rfl mSorted rfl mSet (zC (zl GC hr rfl mC FC.kp bC .nil zAU (zC (pv 0) (zC (pv 1) zL))) zL)) zL))),?_⟩
   refine⟨_,rfl,_,rfl,v,p,x,rfl,S,hh,by omega,(fun e=>by rw[hx] at e;cases e),fun r' l H1 e s1 h1=>?_⟩
   rw[hx] at e
   cases e
   have hrl:=zF4 p hx
   refine⟨l,r,rfl,.inr (SqT.of h1),by omega,fun l2 ms hl2 hr2 hm2=>?_⟩
   refine⟨l2,_,rfl,.inl ⟨SqL.of zK,fun l3 hl3=>?_⟩⟩
   exact k ms l3 _ hr2 hm2 (s1.trans ((zG hl2).trans (zG hl3))) zK
end
end K39
namespace K39
open PySem L2 WM
mutual
theorem zHO {x:Int}:∀p:Pln,(chO x p).isSome=decide (x∈zAK p)
 | .mk ps ks=>by
  rw[chO,zAK]
  by_cases c:x∈ps
  . rw[if_pos c,zQ (zJ.mpr (.inl c))]
    rfl
  . rw[if_neg c,Option.isSome_map,zID ks]
    by_cases c2:x∈zAD ks
    . rw[zQ c2,zQ (zJ.mpr (.inr c2))]
    . rw[zS c2,zS (fun z=>(zJ.mp z).elim c c2)]
theorem zID {x:Int}:∀ks:List Pln,(zDH x ks).isSome=decide (x∈zAD ks)
 | []=>by rw[zDH,zAD];simp
 | k::ks=>by
  have h1:=zHO (x:=x) k
  have h2:=zID (x:=x) ks
  rw[zDH,zAD]
  cases e:chO x k with
  | some r=>
   rw[e] at h1
   have:x∈zAK k:=of_decide_eq_true h1.symm
   rw[zQ (zJ.mpr (.inl this))]
   rfl
  | none=>
   rw[e] at h1
   have c:¬ x∈zAK k:=of_decide_eq_false h1.symm
   show (zDH x ks).isSome=_
   rw[h2]
   by_cases c2:x∈zAD ks
   . rw[zQ c2,zQ (zJ.mpr (.inr c2))]
   . rw[zS c2,zS (fun z=>(zJ.mp z).elim c c2)]
end
theorem zFX {x:Int}{p:Pln}(h:x∈zAK p):∃r,chO x p=some r:=by
 have:=zHO (x:=x) p
 rw[zQ h] at this
 exact zBt.mp this
theorem zKP {x:Int}{p:Pln}(h:¬ x∈zAK p):chO x p=none:=by
 have:=zHO (x:=x) p
 rw[zS h] at this
 cases e:chO x p with
 | none=>rfl
 | some r=>rw[e] at this;cases this
theorem zGj {x:Int}{k:Pln}:∀{ks:List Pln}{i:Nat},ks[i]? = some k->zDH x (ks.take (i+1))=match zDH x (ks.take i) with | some r=>some r | none=>chO x k
 | [],_,h=>by cases h
 | j::ks,0,h=>by
  cases h
  show zDH x [k]=match zDH x [] with | some r=>some r | none=>chO x k
  rw[zDH,zDH]
  cases chO x k <;> rfl
 | j::ks,i+1,h=>by
  have ih:=zGj (x:=x) (ks:=ks) (i:=i) (by simpa using h)
  show zDH x (j::ks.take (i+1))=match zDH x (j::ks.take i) with | some r=>some r | none=>chO x k
  rw[zDH,zDH,ih]
  cases chO x j <;> rfl
noncomputable def spLc (h:Nat):Sp:=fun vs H Q _=>∃(v:V)(p:Pln)(x:Int)(r:List Int),vs=[v,.int x]/\zAj H v (plD p)/\hgt p<=h/\(zAK p).length<64/\zDh p/\chO x p=some r/\(∀(ms:List Int)(l:Addr)(H':Hp),ms.Perm r->ms.Pairwise (· <= ·)->zAo H H'->H' l=some (.tup (ms.map V.int))->Q (.ref l) H')
noncomputable def ChW (H H2:Hp)(x:Int)(r:List Int)(h m:Nat)(v:V)(σ:St):Prop:=∃(v4:Option V)(D L:Addr)(fo:List Int),σ=[some v,some (.int x),some (.ref D),some (.ref L),v4]/\zAo H H2/\H2 D=some (.lst (fo.map V.int)) /\
 ((∃(y:V)(q:Pln)(rest:List V)(r':List Int),H2 L=some (.lst (y::rest))/\zAj H2 y (plD q)/\hgt q<=h/\(zAK q).length<64/\zDh q/\chO x q=some r'/\fo++r'=r/\m=hgt q)\/(H2 L=some (.lst [])/\fo=r/\m=0))
section
variable {X:Cx}{pl:List (Addr×Obj)}{N':List Str}{sc:Scope}{fp:List Addr}{s3:Shared}{H3:Hp}
theorem zLk:OpR (zCN X pl N' sc fp s3 H3) (compareOp .In) (rIn X.K false):=zEe
end
section
variable {P:Program}{w:World}{K:PySem.W.Frag}{mg:Str->Option Value}{base:Heap}
theorem scLc:zAN ["_law_plan_here", "_law_place", "_law_found", "_law_some", "_law_here"] ["_law_plan_here", "_law_place"] (defScope sLc):=⟨rfl,rfl,rfl,by decide +kernel,rfl,by decide +kernel,by decide +kernel⟩
theorem ok_lc {f fF:Addr}{fd' fdF:FuncData}{h:Nat}(F:Fun K "_law_chain" "_law_chain" sLc f fd') (FF:Fun K "_law_flat" "_law_flat" sLf fF fdF) (bF:zAI K fdF ["_law_plan_here"] []) (mF:mg "_law_flat" = some (.ref fF)) (mList:mg "list" = none) (mTuple:mg "tuple" = none) (mSorted:mg "sorted" = none):zAs P w K mg base CX0 (h+2) f fd' ["_law_plan_here", "_law_place"] (spLc h):=by
 have GF:zAs P w K mg base CX0 (h+1) fF fdF ["_law_plan_here"] (spLf h):=zMc FF bF mF mList h
 refine F.ok scLc (fun vs H Q E h=>?_) (fun cdv A outer s H vs Q E hr h=>?_)
 . obtain⟨v,p,x,r,rfl,_⟩:=h
   rfl
 . obtain⟨v,p,x,r,rfl,S,hh,hl,hk1,hx,k⟩:=h
   have hu0:=hr.units0
   have hrl:=zF4 p hx
   refine⟨_,zV (zAL (i:=2) scLc.nd rfl (Or.inl rfl) (zBx zL))
    (zV (zAL (i:=3) scLc.nd rfl (Or.inl rfl) (zBx (zC (pv 0) zL)))
    (zV (zEI PassesOwn.never (zAF (zHo hu0) (pv 3) (zBx zL) (zAg _))
     (zV (zAL (i:=4) scLc.nd rfl (Or.inr rfl) (zAM zAw (pv 3) zX (fun _ _=>rfl)))
     (zV (zAL (i:=2) scLc.nd rfl (Or.inl rfl) (zAz zGW (pv 2) (zAv zB3 (by rfl) mList (by decide +kernel) (zC (zAM zAP (pv 4) zX (fun _ _=>rfl)) zL))))
     (ze (zG4 (i:=3) (own:=["_law_one"]) (cn:=["_law_place", "_law_here"]) (ci:=[1,4]) scLc.nd rfl (Or.inl rfl) rfl (csc rfl rfl) ⟨rfl,rfl,rfl,rfl,rfl,rfl,trivial⟩ rfl (zCg (zAM zAP (pv 4) zX (fun _ _=>rfl))) (fun _ _ _ _=>zAX (i:=0) (zDT rfl) rfl (Or.inl rfl))
      (fun _ _ _ _=>zEW (PW.pt (zCV (zAF zDc (pv 1) (zAM zEr (pv 2) zX (fun _ _=>rfl)) (by with_unfolding_all rfl)) (zCF (zAF zLk (pv 1) (zl GF hr rfl mF FF.kp bF .nil zAU (zC (pv 0) zL)) (by with_unfolding_all rfl)))))) (fun _ _ _ _=>pv 0))))))
    (ze (zAH (zAv zAp (by rfl) mTuple (by decide +kernel) (zC (zn zB2 (by rfl) mSorted (by decide +kernel) (zC (pv 2) zL)) zL)))))),?_⟩
   refine⟨zb _,fun D0 hD0=>?_⟩
   have s0:=zG (o:=.lst []) hD0
   refine⟨_,rfl,by show 1<=sizeLine;decide,fun L0 hL0=>?_⟩
   have s1:=zG (o:=.lst [v]) hL0
   refine⟨fun m σ H2=>ChW H H2 x r h m v σ,⟨hgt p,none,D0,L0,[],rfl,s0.trans s1,s1 _ _ zK,.inl ⟨v,p,[],r,zK,zg (s0.trans s1) S,hh,hl,hk1,hx,rfl,rfl⟩⟩,fun m σ H2 z=>?_⟩
   obtain⟨v4,D,L,fo,rfl,s2,hD,z⟩:=z
   refine⟨_,rfl,zb _,fun b hb=>?_⟩
   have sb:=zG (o:=.lst []) hb
   rcases z with ⟨y,q,rest,r',hL,Sy,hq,hql,hq1,hxq,hfo,rfl⟩ | ⟨hL,rfl,rfl⟩
   . refine⟨L,b,_,rfl,rfl,SqL.of (sb _ _ hL),SqL.of zK,_,rfl,ifT rfl ?_⟩
     have s2b:=s2.trans sb
     have hDb:=sb _ _ hD
     have hLb:=sb _ _ hL
     have Syb:=zg sb Sy
     generalize upd H2 b (.lst [])=H3 at s2b hDb hLb Syb ⊢
     obtain⟨ps,ks⟩:=q
     rw[hgt] at hq ⊢
     rw[zAK,zB] at hql
     rw[chO] at hxq
     rw[zDh] at hq1
     obtain⟨a,b',c,zs,rfl,ha,hb',hc,al⟩:=zEY Syb
     have hzl:=zAf al
     rw[zBz] at hzl
     refine⟨fun σ' H'=>∃m',m'<zCs ks+1/\ChW H H' x r h m' v σ',fun σ' H' z=>z,?_⟩
     refine⟨_,rfl,L,_,_,.ref a,rfl,rfl,SqL.of hLb,zIG (by decide) rfl,?_⟩
     refine⟨_,rfl,_,rfl,_,_,_,_,rfl,rfl,SqT.of ha,rfl,b',_,rfl,.inr (SqT.of hb'),fun e he=>?_⟩
     have se:=zG (o:=.lst (ps.map V.int)) he
     refine⟨D,e,_,_,rfl,rfl,se _ _ hDb,zK,?_,fun D' hD'=>?_⟩
     . have:(fo++r').length=r.length:=by rw[hfo]
       rw[zB] at this
       rw[zE,zE]
       exact zAl (zu (by omega))
     have s3:=s2b.trans (se.trans (zG (o:=.lst (fo.map V.int++ps.map V.int)) hD'))
     have s33:=se.trans (zG (o:=.lst (fo.map V.int++ps.map V.int)) hD')
     have hD3:(upd (upd H3 e (.lst (ps.map V.int))) D' (.lst (fo.map V.int++ps.map V.int))) D'=some (.lst ((fo++ps).map V.int)):=by rw[zK,zj]
     generalize upd (upd H3 e (.lst (ps.map V.int))) D' (.lst (fo.map V.int++ps.map V.int))=H4 at s3 s33 hD3 ⊢
     have ha4:=s33 _ _ ha
     have hb4:=s33 _ _ hb'
     have hc4:=s33 _ _ hc
     refine⟨_,rfl,_,_,_,_,rfl,rfl,SqT.of ha4,rfl,c,rfl,⟨_,SqT.of hc4⟩,[.int x,.ref a],rfl,fun E' hE'=>?_⟩
     by_cases cx:x∈ps
     . rw[if_pos cx] at hxq
       have er:ps=r':=zm hxq
       subst er
       refine zCl (a:=c) (xs:=zs) (fun i ys H5=>ys=[]/\H5=upd H4 E' (.lst [])) ⟨rfl,rfl⟩ (fun i ys H5 z=>?_) (fun i ys H5 z=>?_) (fun i y ys H5 hy z=>?_) (fun ys H5 z=>?_)
       . obtain⟨_,rfl⟩:=z
         exact SqT.of (zG hE' _ _ hc4)
       . obtain⟨rfl,_⟩:=z
         exact zu (zb _)
       . obtain⟨rfl,rfl⟩:=z
         refine⟨⟨rfl,rfl⟩,?_⟩
         refine⟨_,rfl,_,rfl,_,_,_,_,rfl,rfl,SqT.of (zG hE' _ _ ha4),rfl,b',_,rfl,.inr (SqT.of (zG hE' _ _ hb4)),rfl,zA8 _,_,rfl,?_⟩
         show (if (!inV (.int x) (ps.map V.int))=true then _ else _)
         rw[zBS,zQ cx]
         exact zCZ (zCZ ⟨rfl,rfl⟩)
       . obtain⟨rfl,rfl⟩:=z
         exact⟨0,by omega,_,D',E',_,rfl,s3.trans (zG hE'),zG hE' _ _ hD3,.inr ⟨zK,hfo,rfl⟩⟩
     . rw[if_neg cx,zBV] at hxq
       obtain⟨r2,hr2,hrr⟩:=hxq
       refine zCl (a:=c) (xs:=zs) (fun i ys H5=>zAo H4 H5/\H5 E'=some (.lst ys)/\ys.length<=i/\i<=zs.length/\((ys=[]/\zDH x (ks.take i)=none)\/∃(y:V)(q:Pln)(rest:List V)(r':List Int),ys=y::rest/\zAj H4 y (plD q)/\q∈ks/\chO x q=some r'/\zDH x (ks.take i)=some r')) ⟨zG hE',zK,zH _,zb _,.inl ⟨rfl,by rw[zBA,zDH]⟩⟩ (fun i ys H5 z=>?_) (fun i ys H5 z=>?_) (fun i y ys H5 hy z=>?_) (fun ys H5 z=>?_)
       . exact SqT.of (z.1 _ _ hc4)
       . obtain⟨_,_,hl1,hl2,_⟩:=z
         exact zu (by omega)
       . obtain⟨s5,h5,hl1,_,zc⟩:=z
         obtain⟨kd,hk,Sk⟩:=zES al hy
         have hkm:=zi hk
         have hkl:=zCM hkm
         have hkh:=zCk hkm
         have hyl:=(zM.mp hy).1
         have ht:=zGj (x:=x) hk
         refine⟨⟨rfl,rfl⟩,?_⟩
         refine⟨_,rfl,_,rfl,_,_,_,_,rfl,rfl,SqT.of (s5 _ _ ha4),rfl,b',_,rfl,.inr (SqT.of (s5 _ _ hb4)),rfl,zA8 _,_,rfl,?_⟩
         show (if (!inV (.int x) (ps.map V.int))=true then _ else _)
         rw[zBS,zS cx]
         refine zCj ?_
         refine⟨_,rfl,_,rfl,y,kd,rfl,zg (s33.trans s5) Sk,by omega,by omega,fun lf H6 s6 _ h6=>?_⟩
         refine⟨lf,_,rfl,.inl (SqL.of h6),rfl,zA8 _,_,rfl,?_⟩
         show (if inV (.int x) ((zAK kd).map V.int)=true then _ else _)
         rw[zBS]
         by_cases ck:x∈zAK kd
         . refine ifT (zQ ck) ?_
           obtain⟨rk,hrk⟩:=zFX ck
           refine⟨_,rfl,s6 _ _ h5,zBZ (s5.trans s6) hE',zK,by rw[zB];show _+1<=_;omega,hyl,.inr ?_⟩
           rcases zc with ⟨rfl,hn⟩ | ⟨y0,q0,rest0,r0,rfl,g1,g2,g3,g4⟩
           . rw[hn,hrk] at ht
             exact⟨y,kd,[],rk,rfl,zg s33 Sk,hkm,hrk,ht⟩
           . rw[g4] at ht
             exact⟨y0,q0,rest0++[y],r0,rfl,g1,g2,g3,ht⟩
         . refine ifF (zS ck) ?_
           rw[zKP ck] at ht
           refine⟨s5.trans s6,s6 _ _ h5,by omega,hyl,?_⟩
           rcases zc with ⟨rfl,hn⟩ | ⟨y0,q0,rest0,r0,rfl,g1,g2,g3,g4⟩
           . rw[hn] at ht
             exact .inl ⟨rfl,ht⟩
           . rw[g4] at ht
             exact .inr ⟨y0,q0,rest0,r0,rfl,g1,g2,g3,ht⟩
       . obtain⟨s5,h5,_,_,zc⟩:=z
         rw[hzl,za (zH _),hr2] at zc
         rcases zc with ⟨_,hn⟩ | ⟨y0,q0,rest0,r0,rfl,g1,g2,g3,g4⟩
         . cases hn
         . cases g4
           have hkh:=zCk g2
           have hkl:=zCM g2
           exact⟨hgt q0,by omega,_,D',E',_,rfl,s3.trans s5,s5 _ _ hD3,.inl ⟨y0,q0,rest0,r2,h5,zg s5 g1,by omega,by omega,zJu hq1.2 g2,g3,by rw[zAc,hrr,hfo],rfl⟩⟩
   . refine⟨L,b,[],rfl,rfl,SqL.of (sb _ _ hL),SqL.of zK,_,rfl,ifF rfl ?_⟩
     refine⟨_,rfl,D,fo,rfl,SqL.of (sb _ _ hD),by omega,fun l1 ms hl1 pm so=>?_⟩
     refine⟨l1,_,rfl,.inl ⟨SqL.of zK,fun l2 hl2=>?_⟩⟩
     exact k ms l2 _ pm so (s2.trans (sb.trans ((zG hl1).trans (zG hl2)))) zK
end
end K39
namespace K39
open PySem L2 WM
mutual
noncomputable def zFw:Pln->Prop
 | .mk ps ks=>ps≠[]/\zCS ks
noncomputable def zCS:List Pln->Prop
 | []=>True
 | k::ks=>zFw k/\zCS ks
end
theorem zEv {k:Pln}:∀{ks:List Pln},zCS ks->k∈ks->zFw k
 | [],_,h=>by cases h
 | j::ks,h,hm=>by
  rw[zCS] at h
  rcases zR.mp hm with rfl | hm
  . exact h.1
  . exact zEv h.2 hm
mutual
theorem zM0 {x:Int}:∀(p:Pln){r:List Int},chO x p=some r->r.Sublist (zAK p)/\x∈r/\r.length<=deep p
 | .mk ps ks,r,h=>by
  rw[chO] at h
  rw[zAK,deep]
  split at h
  . next c=>
    cases h
    exact⟨List.sublist_append_left _ _,c,by omega⟩
  . rw[zBV] at h
    obtain⟨r',h1,rfl⟩:=h
    obtain⟨a,b,c⟩:=zIB ks h1
    exact⟨a.append_left ps,zJ.mpr (.inr b),by rw[zB];omega⟩
theorem zIB {x:Int}:∀(ks:List Pln){r:List Int},zDH x ks=some r->r.Sublist (zAD ks)/\x∈r/\r.length<=zLU ks
 | [],r,h=>by rw[zDH] at h;cases h
 | k::ks,r,h=>by
  rw[zDH] at h
  rw[zAD,zLU]
  split at h
  . next r' e=>
    cases h
    obtain⟨a,b,c⟩:=zM0 k e
    exact⟨a.trans (List.sublist_append_left _ _),b,by omega⟩
  . obtain⟨a,b,c⟩:=zIB ks h
    exact⟨a.trans (List.sublist_append_right _ _),b,by omega⟩
end
theorem zC7 {k:Pln}{x:Int}(hx:x∈zAK k):∀{ks:List Pln},k∈ks->x∈zAD ks
 | [],h=>by cases h
 | j::ks,h=>by
  rw[zAD]
  rcases zR.mp h with rfl | h
  . exact zJ.mpr (.inl hx)
  . exact zJ.mpr (.inr (zC7 hx h))
theorem zKO {k:Pln}{x:Int}(hx:x∈zAK k):∀{ks:List Pln},(zAD ks).Nodup->k∈ks->zDH x ks=chO x k
 | [],_,h=>by cases h
 | j::ks,nd,h=>by
  rw[zAD,zAt] at nd
  rw[zDH]
  by_cases c:x∈zAK j
  . rcases zR.mp h with rfl | h
    . obtain⟨r,hr⟩:=zFX c
      rw[hr]
    . exact absurd rfl (nd.2.2 x c x (zC7 hx h))
  . rw[zKP c]
    rcases zR.mp h with rfl | h
    . exact absurd hx c
    . exact zKO hx nd.2.1 h
theorem zCA {H:Hp}:∀l:List Int,zq H (l.map V.int) (l.map PyData.int)
 | []=>.nil
 | _::r=>.cons (.int _) (zCA r)
end K39
namespace K39
open PySem L2 WM
mutual
theorem zCn {H H':Hp}(k:∀b ys,H b=some (.tup ys)->H' b=some (.tup ys)):∀(q:Pln){v:V},zAj H v (plD q)->zAj H' v (plD q)
 | .mk ps ks,v,S=>by
  obtain⟨a,b,c,zs,rfl,ha,hb,hc,al⟩:=zEY S
  rw[plD]
  exact .tup (k _ _ ha) (.cons (.tup (k _ _ hb) (zCA _)) (.cons (.tup (k _ _ hc) (zBD k ks al)) .nil))
theorem zBD {H H':Hp}(k:∀b ys,H b=some (.tup ys)->H' b=some (.tup ys)):∀(ks:List Pln){zs:List V},zq H zs (zBa ks)->zq H' zs (zBa ks)
 | [],zs,S=>by
  rw[zBa] at S ⊢
  cases S
  exact .nil
 | q::ks,zs,S=>by
  rw[zBa] at S ⊢
  cases S with
  | cons a b=>exact .cons (zCn k q a) (zBD k ks b)
end
theorem zDC:∀ks js:List Pln,zBa (ks++js)=zBa ks++zBa js
 | [],_=>rfl
 | k::ks,js=>by rw[zB5,zBa,zBa,zDC ks js];rfl
theorem zBy:∀ks js:List Pln,zAD (ks++js)=zAD ks++zAD js
 | [],_=>rfl
 | k::ks,js=>by rw[zB5,zAD,zAD,zBy ks js,zAc]
theorem zC6:∀{ks js:List Pln},zCS ks->zCS js->zCS (ks++js)
 | [],_,_,h=>h
 | k::ks,js,h,h'=>by
  rw[zCS] at h
  rw[zB5,zCS]
  exact⟨h.1,zC6 h.2 h'⟩
theorem zCv:∀ks js:List Pln,zCs (ks++js)=max (zCs ks) (zCs js)
 | [],_=>by rw[List.nil_append,zCs];omega
 | k::ks,js=>by rw[zB5,zCs,zCs,zCv ks js];omega
theorem zCb (xs:List V)(m:Nat):zEM xs none (some (m:Int))=xs.take m:=by
 unfold zEM
 rw[HT.sIx_none,HT.sIx_nat,zBI,Nat.sub_zero]
 by_cases h:m<=xs.length
 . rw[Nat.min_eq_left h]
 . rw[Nat.min_eq_right (by omega),za (zH _),za (by omega)]
theorem zCr (xs:List V)(m:Nat):zEM xs (some (m:Int)) none=xs.drop m:=by
 unfold zEM
 rw[HT.sIx_none,HT.sIx_nat]
 by_cases h:m<=xs.length
 . rw[Nat.min_eq_left h,za (by rw[zAR];exact zH _)]
 . rw[Nat.min_eq_right (by omega),Nat.sub_self,zBA,List.drop_of_length_le (by omega)]
theorem zBk.ne2 {H:Hp}{t p b:Addr}{N:Nat}(h:zBk H t p N)(hb:H b=none):b≠t/\b≠p:=by
 obtain⟨ns,spot,rest,h1,h2,_⟩:=h
 exact⟨(zo h1 hb).symm,(zo h2 hb).symm⟩
theorem zIX {b:Addr}{H H':Hp}(s:zAo H H')(h:H' b=none):H b=none:=by
 cases e:H b with
 | none=>rfl
 | some o=>rw[s _ _ e] at h;cases h
theorem zFR {t b:Addr}{H H':Hp}(s:Sm t H H')(n:b≠t)(h:H' b=none):H b=none:=by
 cases e:H b with
 | none=>rfl
 | some o=>rw[s _ _ n e] at h;cases h
theorem sm_eq {H H':Hp}{t:Addr}(h:∀b,b≠t->H' b=H b):Sm t H H':=fun b o n e=>by rw[h b n];exact e
noncomputable def spPn (n:Nat):Sp:=fun vs H Q _=>∃(t p pa:Addr)(N:Nat)(os:List Int),vs=[.ref t,.ref pa]/\zBk H t p N/\N+2*os.length<900000/\pa≠t/\H pa=some (.lst (os.map V.int))/\1<=os.length/\os.length<=n/\os.length<64 /\
 ∀(v:V)(q:Pln)(H':Hp),zAj H' v (plD q)->zFw q->(zAK q).Perm os->hgt q<=os.length->zBk H' t p (N+(2*os.length-1))->Sm t H H'->Q v H'
noncomputable def PnW (H H2:Hp)(t p pa D:Addr)(N m:Nat)(os:List Int)(k:Nat)(σ:St):Prop:=∃(v5:Option V)(R:Addr)(rs:List Int)(vs:List V)(ks:List Pln),σ=[some (.ref t),some (.ref pa),some (.int m),some (.ref R),some (.ref D),v5]/\R≠t/\R≠D/\H2 R=some (.lst (rs.map V.int))/\H2 D=some (.lst vs)/\zq H2 vs (zBa ks)/\zCS ks/\(zAD ks++rs).Perm (os.drop m)/\zCs ks+m<=os.length/\rs.length=k/\ks.length+k<=os.length/\k+m<=os.length/\zBk H2 t p (N+1+2*(os.length-m-k))/\Sm t H H2
section
variable {P:Program}{w:World}{K:PySem.W.Frag}{mg:Str->Option Value}{base:Heap}
theorem zML:zAN ["_law_tape_here", "_law_pool", "_law_many", "_law_rest", "_law_plans", "_law_cut"] ["_law_tape_here", "_law_pool"] (defScope sPn):=⟨rfl,rfl,rfl,by decide +kernel,rfl,by decide +kernel,by decide +kernel⟩
theorem ok_pn {f fD:Addr}{fd' fdD:FuncData}(F:Fun K "_law_plan" "_law_plan" sPn f fd') (bF:zAI K fd' ["_law_tape_here", "_law_pool"] []) (mF:mg "_law_plan" = some (.ref f)) (FD:Fun K "_law_draw" "_law_draw" zEC fD fdD) (bD:zAI K fdD ["_law_tape_here", "_law_many"] []) (mD:mg "_law_draw" = some (.ref fD))
 (mLen:mg "len" = none) (mMin:mg "min" = none) (mTuple:mg "tuple" = none) (mSorted:mg "sorted" = none):∀n:Nat,zAs P w K mg base CX0 (n+1) f fd' ["_law_tape_here", "_law_pool"] (spPn n)
 | 0=>F.ok zML (fun vs H Q E h=>by obtain⟨t,p,pa,N,os,rfl,_⟩:=h;rfl) (fun cdv A outer s H vs Q E hr h=>by
  obtain⟨t,p,pa,N,os,rfl,_,_,_,_,h1,h2,_⟩:=h
  omega)
 | n+1=>by
  have GP:=ok_pn F bF mF FD bD mD mLen mMin mTuple mSorted n
  have GD:zAs P w K mg base CX0 (n+1) fD fdD ["_law_tape_here", "_law_many"] zEQ:=(zDd FD mLen).mono (by omega)
  refine F.ok zML (fun vs H Q E h=>?_) (fun cdv A outer s H vs Q E hr h=>?_)
  . obtain⟨t,p,pa,N,os,rfl,_⟩:=h
    rfl
  . obtain⟨t,p,pa,N,os,rfl,T,hN,npt,hpa,h1,hn,h64,k⟩:=h
    have hu0:=hr.units0
    refine⟨_,zV (zAL (i:=2) zML.nd rfl (Or.inl rfl) (zAz zCK zX (zl GD hr rfl mD FD.kp bD .nil zAU (zC (pv 0) (zC (zn (zGm rfl) (by rfl) mMin (by decide +kernel) (zC zX (zC (zn zy (by rfl) mLen PySem.boot_len (zC (pv 1) zL)) zL))) zL)))))
     (zV (zAL (i:=3) zML.nd rfl (Or.inl rfl) (zA5 zC2 (pv 1) (zBO (pv 2)) zBP))
     (zV (zAL (i:=4) zML.nd rfl (Or.inl rfl) (zBx zL))
     (zV (zEI PassesOwn.never (zAF (zHo hu0) (pv 3) (zBx zL) (zAg _))
      (zV (zAL (i:=5) zML.nd rfl (Or.inl rfl) (zAz zCK zX (zl GD hr rfl mD FD.kp bD .nil zAU (zC (pv 0) (zC (zn zy (by rfl) mLen PySem.boot_len (zC (pv 3) zL)) zL)))))
      (zV (zCW (zFn PySem.F.plainAttrs_list PySem.F.slot_list_append PySem.F.type_list_append zCY (pv 4) (zC (zl GP hr rfl mF F.kp bF .nil zAU (zC (pv 0) (zC (zA5 zC2 (pv 3) zBP (zBO (pv 5))) zL))) zL)))
      (ze (zAL (i:=3) zML.nd rfl (Or.inl rfl) (zA5 zC2 (pv 3) (zBO (pv 5)) zBP))))))
     (ze (zAH (zAm (zC (zAv zAp (by rfl) mTuple (by decide +kernel) (zC (zn zB2 (by rfl) mSorted (by decide +kernel) (zC (zA5 zC2 (pv 1) zBP (zBO (pv 2))) zL)) zL)) (zC (zAv zAp (by rfl) mTuple (by decide +kernel) (zC (pv 4) zL)) zL)))))))),?_⟩
    refine⟨_,rfl,_,rfl,pa,_,rfl,.inl (SqL.of hpa),_,_,rfl,?_⟩
    rw[zE]
    refine⟨t,p,N,_,rfl,T,by omega,by split <;> omega,by split <;> omega,fun r0 H1 a0 b0 T1 e1=>?_⟩
    refine⟨_,_,rfl,rfl,?_⟩
    obtain⟨m,hm⟩:∃m:Nat,1+r0=(m:Int):=⟨(1+r0).toNat,by omega⟩
    have hm1:1<=m:=by omega
    have hmo:m<=os.length:=by
     have:r0<os.length:=by split at b0 <;> omega
     omega
    show zIk 2 (V.int (1+r0)) _ _ _
    rw[hm]
    have s1:Sm t H H1:=sm_eq e1
    have hpa1:=s1 _ _ npt hpa
    refine⟨_,rfl,_,rfl,(m:Int),rfl,pa,_,rfl,SqL.of hpa1,fun R hR=>?_⟩
    rw[zCr,<-List.map_drop]
    have nRt:=T1.ne2 hR
    have s2:=zG (o:=.lst ((os.drop m).map V.int)) hR
    refine⟨zb _,fun D hD=>?_⟩
    have s3:=zG (o:=.lst []) hD
    have T2:zBk (upd H1 R (.lst ((os.drop m).map V.int))) t p (N+1):=T1.keepF (fun o e=>s2 _ _ e) (fun o e=>s2 _ _ e) (zH _)
    have nDt:=T2.ne2 hD
    have hD1:H1 D=none:=zIX s2 hD
    have hD0:H D=none:=zFR s1 nDt.1 hD1
    refine⟨fun k' σ H2=>PnW H H2 t p pa D N m os k' σ,⟨(os.drop m).length,none,R,os.drop m,[],[],rfl,nRt.1,(zo zK hD),s3 _ _ zK,zK,.nil,trivial,zCD _,by rw[zCs];omega,rfl,by rw[zAR,zA3];omega,by rw[zAR];omega,T2.keepF (fun o e=>s3 _ _ e) (fun o e=>s3 _ _ e) (by omega),(s1.trans (Sm.of s2)).trans (Sm.of s3)⟩,fun k' σ H2 z=>?_⟩
    clear T1 T2 hR hD s1 s2 s3 hpa1 hD1 nRt nDt R e1
    obtain⟨v5,R,rs,vs,ks,rfl,nRt,nRD,hR,hD2,SA,gk,pm,hh,rfl,hkl,hkm,T2,s2⟩:=z
    have npD:pa≠D:=zo hpa hD0
    have nDt:D≠t:=by
     obtain⟨_,_,_,h0,_⟩:=id T
     exact (zo h0 hD0).symm
    have nDp:D≠p:=by
     obtain⟨_,_,_,_,h0,_⟩:=id T
     exact (zo h0 hD0).symm
    have hvl:=zAf SA
    rw[zBz] at hvl
    refine⟨_,rfl,zb _,fun b hb=>?_⟩
    have sb:=zG (o:=.lst []) hb
    have hbb:(upd H2 b (.lst [])) b=some (.lst []):=zK
    have T3:zBk (upd H2 b (.lst [])) t p (N+1+2*(os.length-m-rs.length)):=T2.keepF (fun o e=>sb _ _ e) (fun o e=>sb _ _ e) (zH _)
    have hR3:=sb _ _ hR
    have hD3:=sb _ _ hD2
    have SA3:=zCT sb SA
    have s3:Sm t H (upd H2 b (.lst [])):=s2.trans (Sm.of sb)
    generalize upd H2 b (.lst [])=H3 at hbb T3 hR3 hD3 SA3 s3 ⊢
    clear T2 hR hD2 SA s2 sb hb
    refine⟨R,b,_,rfl,rfl,SqL.of hR3,SqL.of hbb,_,rfl,?_⟩
    by_cases ce:rs=[]
    . subst ce
      refine ifF rfl ?_
      have hpa3:=s3 _ _ npt hpa
      refine⟨_,rfl,_,rfl,(m:Int),rfl,pa,_,rfl,SqL.of hpa3,fun S hS=>?_⟩
      rw[zCb,<-List.map_take]
      have t1:=zG (o:=.lst ((os.take m).map V.int)) hS
      refine⟨S,os.take m,rfl,SqL.of zK,by rw[zd];omega,fun l1 ms hl1 pm1 so=>?_⟩
      have t2:=zG (o:=.lst (ms.map V.int)) hl1
      refine⟨l1,_,rfl,.inl ⟨SqL.of zK,fun l2 hl2=>?_⟩⟩
      have t3:=zG (o:=.tup (ms.map V.int)) hl2
      have t123:=t1.trans (t2.trans t3)
      have hl22:(upd (upd (upd H3 S (.lst ((os.take m).map V.int))) l1 (.lst (ms.map V.int))) l2 (.tup (ms.map V.int))) l2=some (.tup (ms.map V.int)):=zK
      generalize upd (upd (upd H3 S (.lst ((os.take m).map V.int))) l1 (.lst (ms.map V.int))) l2 (.tup (ms.map V.int))=H4 at t123 hl22 ⊢
      refine⟨_,rfl,D,_,rfl,.inl ⟨SqL.of (t123 _ _ hD3),fun l3 hl3=>?_⟩⟩
      have t4:=zG (o:=.tup vs) hl3
      refine⟨by show 2<=sizeLine;decide,fun l4 hl4=>?_⟩
      have t5:=zG (o:=.tup [V.ref l2,V.ref l3]) hl4
      have t45:=t4.trans t5
      have tt:=t123.trans t45
      rw[zr] at pm
      refine k (.ref l4) (.mk ms ks) _ ?_ ?_ ?_ ?_ (T3.keepF (fun o e=>tt _ _ e) (fun o e=>tt _ _ e) (by rw[zA3];omega)) (s3.trans (Sm.of tt))
      . rw[plD]
        exact .tup zK (.cons (.tup (t45 _ _ hl22) (zCA _)) (.cons (.tup (t5 _ _ zK) (zCT tt SA3)) .nil))
      . rw[zFw]
        refine⟨fun z=>?_,gk⟩
        have:=pm1.length_eq
        rw[z,zd,zA3] at this
        omega
      . rw[zAK]
        have:=pm1.append pm
        rw[zAd] at this
        exact this
      . rw[hgt]
        omega
    . have hrl:0<rs.length:=zAi.mpr ce
      have e0:(!(rs.map V.int).isEmpty)=true:=by cases rs with
       | nil=>exact absurd rfl ce
       | cons _ _=>rfl
      refine ifT e0 ?_
      refine⟨fun σ' H'=>∃m',m'<rs.length/\PnW H H' t p pa D N m os m' σ',fun σ' H' z=>z,?_⟩
      refine⟨_,rfl,_,rfl,R,_,rfl,.inl (SqL.of hR3),t,p,_,_,rfl,T3,by omega,by rw[zE];omega,by rw[zE];omega,fun rc H4 c0 c1 T4 e4=>?_⟩
      rw[zE] at c1
      refine⟨_,_,rfl,rfl,?_⟩
      obtain⟨c,hc⟩:∃c:Nat,1+rc=(c:Int):=⟨(1+rc).toNat,by omega⟩
      have hc1:1<=c:=by omega
      have hcr:c<=rs.length:=by omega
      show zIk 5 (V.int (1+rc)) _ _ _
      rw[hc]
      have s34:Sm t H3 H4:=sm_eq e4
      have hR4:=s34 _ _ nRt hR3
      have hD4:=s34 _ _ nDt hD3
      refine⟨_,rfl,.inl ⟨rfl,_,SqL.of hD4⟩,?_⟩
      refine⟨_,rfl,_,rfl,_,rfl,(c:Int),rfl,R,_,rfl,SqL.of hR4,fun S hS=>?_⟩
      rw[zCb,<-List.map_take]
      have t5:=zG (o:=.lst ((rs.take c).map V.int)) hS
      have T5:zBk (upd H4 S (.lst ((rs.take c).map V.int))) t p (N+1+2*(os.length-m-rs.length)+1):=T4.keepF (fun o e=>t5 _ _ e) (fun o e=>t5 _ _ e) (zH _)
      have nSt:=T4.ne2 hS
      have lt:(rs.take c).length=c:=by rw[zd];omega
      refine⟨t,p,S,_,rs.take c,rfl,T5,by rw[lt];omega,nSt.1,zK,by omega,by omega,by omega,fun v q H6 Sv gq pq hq T6 s6=>?_⟩
      rw[lt] at hq T6
      have hD6:=s6 _ _ nDt (t5 _ _ hD4)
      have hR6:=s6 _ _ nRt (t5 _ _ hR4)
      refine⟨D,vs,v,rfl,rfl,hD6,by rw[hvl];exact zu (by omega),?_⟩
      have hR7:(upd H6 D (.lst (vs++[v]))) R=some (.lst (rs.map V.int)):=by rw[zf nRD];exact hR6
      refine⟨_,rfl,_,rfl,(c:Int),rfl,R,_,rfl,SqL.of hR7,fun R' hR'=>?_⟩
      rw[zCr,<-List.map_drop]
      have hD7:(upd H6 D (.lst (vs++[v]))) D=some (.lst (vs++[v])):=zK
      have nR'D:R'≠D:=(zo hD7 hR').symm
      have t8:=zG (o:=.lst ((rs.drop c).map V.int)) hR'
      have k6:∀b ys,H6 b=some (.tup ys)->(upd (upd H6 D (.lst (vs++[v]))) R' (.lst ((rs.drop c).map V.int))) b=some (.tup ys):=fun b ys e=>by
       refine t8 _ _ ?_
       rw[zf (zDe e hD6 (by intro z;cases z))]
       exact e
      have k36:∀b ys,H3 b=some (.tup ys)->H6 b=some (.tup ys):=fun b ys e=>by
       have nb:b≠t:=by
        obtain⟨_,_,_,h0,_⟩:=id T3
        exact zDe e h0 (by intro z;cases z)
       exact s6 _ _ nb (t5 _ _ (s34 _ _ nb e))
      have T7:zBk (upd H6 D (.lst (vs++[v]))) t p (N+1+2*(os.length-m-rs.length)+1+(2*c-1)):=T6.keepF (fun o e=>by rw[zf nDt.symm];exact e) (fun o e=>by rw[zf nDp.symm];exact e) (zH _)
      have nR't:=T7.ne2 hR'
      have ld:(rs.drop c).length=rs.length-c:=zAR
      refine⟨(rs.drop c).length,by omega,_,R',rs.drop c,vs++[v],ks++[q],rfl,nR't.1,nR'D,zK,t8 _ _ hD7,?_,zC6 gk ⟨gq,trivial⟩,?_,?_,rfl,?_,by omega,T7.keepF (fun o e=>t8 _ _ e) (fun o e=>t8 _ _ e) (by omega),?_⟩
      . rw[zDC]
        exact zET (zBD (fun b ys e=>k6 b ys (k36 b ys e)) ks SA3) (.cons (zCn k6 q Sv) .nil)
      . rw[zBy,zAD,zAD,zr,zAc]
        refine List.Perm.trans (List.Perm.append_left _ ?_) pm
        have:=pq.append_right (rs.drop c)
        rw[zAd] at this
        exact this
      . rw[zCv,zCs,zCs]
        omega
      . rw[zB,ld]
        show ks.length+1+_<=_
        omega
      . exact ((((s3.trans s34).trans (Sm.of t5)).trans s6).chg hD0).trans (Sm.of t8)
end
end K39
namespace K39
open PySem L2 WM
theorem zJm {α:Type}{l k:List α}(h:(l++k).Nodup){x:α}(h1:x∈l)(h2:x∈k):False:=(zAt.mp h).2.2 x h1 x h2 rfl
theorem zH4 {x:Int}:∀{ks:List Pln},x∈zAD ks->∃k∈ks,x∈zAK k
 | [],h=>by rw[zAD] at h;cases h
 | k::ks,h=>by
  rw[zAD] at h
  rcases zJ.mp h with h | h
  . exact⟨k,zT,h⟩
  . obtain⟨j,h1,h2⟩:=zH4 h
    exact⟨j,zN _ h1,h2⟩
theorem zM1 {ps:List Int}{ks:List Pln}{x:Int}(h:x∈ps):chO x (.mk ps ks)=some ps:=by rw[chO,if_pos h]
theorem zKQ {ps:List Int}{ks:List Pln}{k:Pln}{x:Int}(nd:(zAK (.mk ps ks)).Nodup)(hk:k∈ks)(hx:x∈zAK k):chO x (.mk ps ks)=(chO x k).map (ps ++ ·):=by
 rw[zAK] at nd
 rw[chO,if_neg fun z=>zJm nd z (zC7 hx hk),zKO hx (zAt.mp nd).2.1 hk]
noncomputable def TieOk (ts:List T3)(p:Pln):Prop:=∀a b l,Adj ts a b l->a∈zAK p->b∈zAK p->(∃r,chO b p=some r/\a∈r)\/∃r,chO a p=some r/\b∈r
mutual
noncomputable def zJL:Pln->Prop
 | .mk ps ks=>ps.Pairwise (· < ·)/\zGO ks
noncomputable def zGO:List Pln->Prop
 | []=>True
 | k::ks=>zJL k/\zGO ks
end
theorem zFO {k:Pln}:∀{ks:List Pln},zGO ks->k∈ks->zJL k
 | [],_,h=>by cases h
 | j::ks,h,hm=>by
  rw[zGO] at h
  rcases zR.mp hm with rfl | hm
  . exact h.1
  . exact zFO h.2 hm
mutual
noncomputable def wid:Pln->Nat
 | .mk ps ks=>max (max ps.length ks.length) (zDX ks)
noncomputable def zDX:List Pln->Nat
 | []=>0
 | k::ks=>max (wid k) (zDX ks)
end
theorem zHT {k:Pln}:∀{ks:List Pln},k∈ks->wid k<=zDX ks
 | [],h=>by cases h
 | j::ks,h=>by
  rw[zDX]
  rcases zR.mp h with rfl | h
  . omega
  . have:=zHT h
    omega
theorem zC9:∀ks js:List Pln,zDX (ks++js)=max (zDX ks) (zDX js)
 | [],js=>by rw[List.nil_append,zDX];omega
 | k::ks,js=>by rw[zB5,zDX,zDX,zC9 ks js];omega
mutual
theorem zFl:∀(m:Nat)(d:PyData),zBW m d=true->∃p:Pln,d=plD p/\hgt p<=m/\zFw p/\∀x∈zAK p,0<=x
 | 0,d,h=>by rw[zBW] at h;cases h
 | m+1,d,h=>by
  unfold zBW at h
  split at h
  . next q ds=>
    rw[zAC] at h
    obtain⟨h1,h2⟩:=h
    unfold zCB at h1
    split at h1
    . next es=>
      rw[zAC,zAC] at h1
      obtain⟨h3,h4,_⟩:=h1
      have e:=zHC h4
      obtain⟨ks,ek,hk,gk,nk⟩:=zGR m ds (zA7.mp h2)
      refine⟨.mk (es.map zFF) ks,?_,by rw[hgt];omega,⟨fun z=>?_,gk⟩,fun x hx=>?_⟩
      . rw[plD,<-e,<-ek]
      . rw[List.map_eq_nil_iff.mp z] at h3
        cases h3
      . rw[zAK,zJ] at hx
        rcases hx with hx | hx
        . obtain⟨d',hd',rfl⟩:=zAY.mp hx
          have:=zA7.mp h4 d' hd'
          cases d' with
          | int i=>exact of_decide_eq_true this
          | _=>cases this
        . exact nk x hx
    . cases h1
  . cases h
theorem zGR:∀(m:Nat)(ds:List PyData),(∀d∈ds,zBW m d=true)->∃ks:List Pln,ds=zBa ks/\zCs ks<=m/\zCS ks/\∀x∈zAD ks,0<=x
 | _,[],_=>⟨[],rfl,zb _,trivial,fun x hx=>by rw[zAD] at hx;cases hx⟩
 | m,d::ds,h=>by
  obtain⟨p,e,a,b,c⟩:=zFl m d (h d zT)
  obtain⟨ks,e',a',b',c'⟩:=zGR m ds fun x hx=>h x (zN _ hx)
  refine⟨p::ks,by rw[zBa,<-e,<-e'],by rw[zCs];omega,⟨b,b'⟩,fun x hx=>?_⟩
  rw[zAD,zJ] at hx
  exact hx.elim (c x) (c' x)
end
mutual
theorem zHJ:∀p:Pln,(zAK p).length<=(plD p).weight
 | .mk ps ks=>by
  have h1:=zH3 ks
  have h2:ps.length<=(PyData.tuple (ps.map PyData.int)).weight:=by
   show ps.length<=PyData.weightAll (ps.map PyData.int)
   induction ps with
   | nil=>exact zb _
   | cons x l ih=>
    have e:PyData.weightAll (PyData.int x::l.map PyData.int)=(PyData.int x).weight+1+PyData.weightAll (l.map PyData.int):=by
     rw[show PyData.int x::l.map PyData.int=[PyData.int x]++l.map PyData.int from rfl,zA4,zDJ]
    rw[zAG,e,zY]
    omega
  rw[zAK,plD,zB]
  show _<=PyData.weightAll [PyData.tuple (ps.map PyData.int),PyData.tuple (zBa ks)]
  have e:PyData.weightAll [PyData.tuple (ps.map PyData.int),PyData.tuple (zBa ks)]=(PyData.tuple (ps.map PyData.int)).weight+1+((PyData.tuple (zBa ks)).weight+1):=by
   rw[show [PyData.tuple (ps.map PyData.int),PyData.tuple (zBa ks)]=[PyData.tuple (ps.map PyData.int)]++[PyData.tuple (zBa ks)] from rfl,zA4,zDJ,zDJ]
  have h3:(PyData.tuple (zBa ks)).weight=PyData.weightAll (zBa ks):=rfl
  rw[e]
  omega
theorem zH3:∀ks:List Pln,(zAD ks).length<=PyData.weightAll (zBa ks)
 | []=>zb _
 | k::ks=>by
  have h1:=zHJ k
  have h2:=zH3 ks
  have e:PyData.weightAll (plD k::zBa ks)=(plD k).weight+1+PyData.weightAll (zBa ks):=by
   rw[show plD k::zBa ks=[plD k]++zBa ks from rfl,zA4,zDJ]
  rw[zAD,zBa,e,zB]
  omega
end
mutual
theorem zBq:∀p q:Pln,plD p=plD q->p=q
 | .mk ps ks,.mk qs js,h=>by
  rw[plD,plD] at h
  injection h with h
  injection h with h1 h2
  injection h1 with h1
  injection h2 with h2 _
  injection h2 with h2
  have e1:ps=qs:=by
   have:=congrArg (List.map zFF) h1
   rwa [zHu,zHu] at this
  rw[e1,zHk ks js h2]
theorem zHk:∀ks js:List Pln,zBa ks=zBa js->ks=js
 | [],[],_=>rfl
 | [],j::js,h=>by rw[zBa,zBa] at h;cases h
 | k::ks,[],h=>by rw[zBa,zBa] at h;cases h
 | k::ks,j::js,h=>by
  rw[zBa,zBa] at h
  injection h with h1 h2
  rw[zBq k j h1,zHk ks js h2]
end
noncomputable def Bad (n:Int)(fl:List Int)(i:Nat)(x:Int):Prop:=x∈fl.take i\/¬ (0<=x/\x<n)
noncomputable def zIr (n:Int)(fl:List Int):Prop:=∀(i:Nat)(x:Int),fl[i]? = some x->¬ Bad n fl i x
noncomputable def zIt (p:Pln)(a b:Int):Prop:=(∃r,chO b p=some r/\a∈r)\/∃r,chO a p=some r/\b∈r
inductive zBr (n:Int)(ts:List T3)(d:PyData):Option (Str×PyData)->Prop
 | shape (h:zBW 24 d=false):zBr n ts d (some ("shape",.none))
 | place (p:Pln)(i:Nat)(x:Int)(e:d=plD p)(h:zBW 24 d=true)(hx:(zAK p)[i]? = some x)(hb:Bad n (zAK p) i x)(hj:∀(j:Nat)(y:Int),j<i->(zAK p)[j]? = some y->¬ Bad n (zAK p) j y):zBr n ts d (some ("place",.int x))
 | lacks (p:Pln)(x:Int)(e:d=plD p)(h:zBW 24 d=true)(nb:zIr n (zAK p))(x0:0<=x)(x1:x<n)(nx:x∉zAK p)(hm:∀y,0<=y->y<n->y∉zAK p->x<=y):zBr n ts d (some ("lacks",.int x))
 | tie (p:Pln)(i:Nat)(a b l:Int)(e:d=plD p)(h:zBW 24 d=true)(nb:zIr n (zAK p))(al:∀x,0<=x->x<n->x∈zAK p)(ht:ts[i]? = some (a,b,l))(nt:¬ zIt p a b)(hj:∀(j:Nat)(a' b' l':Int),j<i->ts[j]? = some (a',b',l')->zIt p a' b'):zBr n ts d (some ("tie",.tuple [.int a,.int b]))
 | none (p:Pln)(e:d=plD p)(h:zBW 24 d=true)(nb:zIr n (zAK p))(al:∀x,0<=x->x<n->x∈zAK p)(tc:∀a b l,(a,b,l)∈ts->zIt p a b):zBr n ts d Option.none
theorem zBr.uniq {n:Int}{ts:List T3}{d:PyData}{f f':Option (Str×PyData)}(a:zBr n ts d f)(b:zBr n ts d f'):f=f':=by
 cases a with
 | shape h=>cases b with
  | shape=>rfl
  | place _ _ _ _ h'=>rw[h] at h';cases h'
  | lacks _ _ _ h'=>rw[h] at h';cases h'
  | tie _ _ _ _ _ _ h'=>rw[h] at h';cases h'
  | none _ _ h'=>rw[h] at h';cases h'
 | place p i x e h hx hb hj=>cases b with
  | shape h'=>rw[h] at h';cases h'
  | place q j y e' _ hy hb' hj'=>
   obtain rfl:=zBq p q (e.symm.trans e')
   by_cases c:i=j
   . subst c
     rw[hx] at hy
     cases hy
     rfl
   . by_cases c2:i<j
     . exact absurd hb (hj' i x c2 hx)
     . exact absurd hb' (hj j y (by omega) hy)
  | lacks q _ e' _ nb=>
   obtain rfl:=zBq p q (e.symm.trans e')
   exact absurd hb (nb i x hx)
  | tie q _ _ _ _ e' _ nb=>
   obtain rfl:=zBq p q (e.symm.trans e')
   exact absurd hb (nb i x hx)
  | none q e' _ nb=>
   obtain rfl:=zBq p q (e.symm.trans e')
   exact absurd hb (nb i x hx)
 | lacks p x e h nb x0 x1 nx hm=>cases b with
  | shape h'=>rw[h] at h';cases h'
  | place q j y e' _ hy hb' _=>
   obtain rfl:=zBq p q (e.symm.trans e')
   exact absurd hb' (nb j y hy)
  | lacks q y e' _ _ y0 y1 ny hm'=>
   obtain rfl:=zBq p q (e.symm.trans e')
   have:=hm y y0 y1 ny
   have:=hm' x x0 x1 nx
   obtain rfl:x=y:=by omega
   rfl
  | tie q _ _ _ _ e' _ _ al=>
   obtain rfl:=zBq p q (e.symm.trans e')
   exact absurd (al x x0 x1) nx
  | none q e' _ _ al=>
   obtain rfl:=zBq p q (e.symm.trans e')
   exact absurd (al x x0 x1) nx
 | tie p i a b' l e h nb al ht nt hj=>cases b with
  | shape h'=>rw[h] at h';cases h'
  | place q j y e' _ hy hb' _=>
   obtain rfl:=zBq p q (e.symm.trans e')
   exact absurd hb' (nb j y hy)
  | lacks q y e' _ _ y0 y1 ny _=>
   obtain rfl:=zBq p q (e.symm.trans e')
   exact absurd (al y y0 y1) ny
  | tie q j c d' l' e' _ _ _ ht' nt' hj'=>
   obtain rfl:=zBq p q (e.symm.trans e')
   by_cases c1:i=j
   . subst c1
     rw[ht] at ht'
     cases ht'
     rfl
   . by_cases c2:i<j
     . exact absurd (hj' i a b' l c2 ht) nt
     . exact absurd (hj j c d' l' (by omega) ht') nt'
  | none q e' _ _ _ tc=>
   obtain rfl:=zBq p q (e.symm.trans e')
   exact absurd (tc a b' l (zi ht)) nt
 | none p e h nb al tc=>cases b with
  | shape h'=>rw[h] at h';cases h'
  | place q j y e' _ hy hb' _=>
   obtain rfl:=zBq p q (e.symm.trans e')
   exact absurd hb' (nb j y hy)
  | lacks q y e' _ _ y0 y1 ny _=>
   obtain rfl:=zBq p q (e.symm.trans e')
   exact absurd (al y y0 y1) ny
  | tie q j c d' l' e' _ _ _ ht' nt' _=>
   obtain rfl:=zBq p q (e.symm.trans e')
   exact absurd (tc c d' l' (zi ht')) nt'
  | none=>rfl
end K39
namespace K39
open PySem L2 WM
theorem zAo.none {H H':Hp}{r:Addr}(s:zAo H H')(h:H' r=none):H r=none:=by
 cases z:H r with
 | none=>rfl
 | some u=>have y:=(s _ _ z).symm.trans h;cases y
theorem zIU {X:Cx}{st:Stmt}{u u':TS}(h:PS X st u)(m:∀D σ H,u' D σ H->u D σ H):PS X st u':=fun pins s σ H D I q=>h pins s σ H D I (m D σ H q)
theorem zHf {X:Cx}{st:List Stmt}:PSs X st (fun _ _ _=>False):=fun _ _ _ _ _ _ h=>h.elim
theorem upd_3 {H:Hp}{dx e:Addr}{o1 o2 x:HO}(n:dx≠e):upd (upd (upd H dx o1) e x) dx o2=upd (upd H dx o2) e x:=by
 funext b
 by_cases h1:b=dx
 . subst h1;rw[zK,zf n,zK]
 . by_cases h2:b=e
   . subst h2;rw[zf h1,zK,zK]
   . rw[zf h1,zf h2,zf h1,zf h2,zf h1]
section
variable {P:Program}{w:World}{K:PySem.W.Frag}{mg:Str->Option Value}{base:Heap}
theorem scI1:zAN ["self", "word", "at"] ["self", "word", "at"] (defScope sI1):=⟨rfl,rfl,rfl,by decide +kernel,rfl,by decide +kernel,by decide +kernel⟩
theorem ok_I1 {C f:Addr}{fd':FuncData}(F:Fun K "__init__" "NoPlan.__init__" sI1 f fd') (EI:zHS K C f)(mo:PySem.W.mroIn K C (.type "object")=some true) (n1:PySem.W.findIn K (.ref C) "word" = some none) (n2:PySem.W.findIn K (.ref C) "at" = some none):zAs P w K mg base CX0 1 f fd' ["self", "word", "at"] (spXI C "word" "at"):=by
 refine F.ok scI1 (fun vs H Q E h=>?_) (fun cdv A outer s H vs Q E hr h=>?_)
 . obtain⟨e,t,v1,v2,rfl,_⟩:=h
   rfl
 . obtain⟨e,t,v1,v2,rfl,he,k⟩:=h
   refine⟨_,zV (zJQ EI mo n1 (pv 0) (pv 1)) (ze (zJQ EI mo n2 (pv 0) (pv 2))),?_⟩
   refine⟨_,rfl,_,rfl,e,t,rfl,.inl ⟨he,fun dx hdx=>?_⟩⟩
   have ne:dx≠e:=fun z=>by rw[z,he] at hdx;cases hdx
   refine⟨_,rfl,_,rfl,e,t,rfl,.inr ⟨dx,_,zK,by rw[zf ne,zK],by show 1<900;decide,?_⟩⟩
   show Q _ _
   rw[upd_3 ne]
   exact k dx hdx ne
end
theorem zJ3 (q:Nat):lowTo (q+1)=lowTo q++[(q:Int)]:=by unfold lowTo;rw[List.range_succ,zj];rfl
theorem zBR (q:Nat):(lowTo q).length=q:=by unfold lowTo;rw[zE,zAQ]
theorem zMg:∀{fl:List Int},(∀(i:Nat)(x:Int),fl[i]? = some x->x∉fl.take i)->fl.Nodup:=fun {fl} h=>by
 rw[zBb,zAV]
 intro i j hi hj hij e
 refine h j fl[j] (zF hj) ?_
 rw[<-e]
 have:i<(fl.take j).length:=by rw[zd];omega
 have e2:(fl.take j)[i]=fl[i]:=List.getElem_take
 exact e2 ▸ zAS this
theorem zL9 {fl:List Int}(nd:fl.Nodup){i:Nat}{x:Int}(h:fl[i]? = some x):x∉fl.take i:=fun z=>by
 obtain⟨j,hj,e⟩:=zAW z
 rw[zd] at hj
 rw[List.getElem_take] at e
 obtain⟨hi,ei⟩:=zM.mp h
 exact zAV.mp (zBb.mp nd) j i (by omega) hi (by omega) (by rw[e,ei])
theorem zEh {n:Int}{fl:List Int}:zIr n fl↔fl.Nodup/\∀x∈fl,0<=x/\x<n:=by
 constructor
 . intro h
   refine⟨zMg fun i x hx z=>h i x hx (.inl z),fun x hx=>?_⟩
   obtain⟨i,hi,e⟩:=zAW hx
   exact zBn fun z=>h i x (by rw[zF hi,e]) (.inr z)
 . rintro ⟨nd,rng⟩ i x hx (z | z)
   . exact zL9 nd hx z
   . exact z (rng x (zi hx))
noncomputable def spPlB:Sp:=fun vs H Q _=>∃n i:Int,vs=[.int n,.int i]/\Q (.bl (decide (0<=i/\i<n))) H
noncomputable def spPf (h:Nat):Sp:=fun vs H Q _=>∃(wa ta:Addr)(v:V)(n:Int)(p:Pln),vs=[.ref wa,v]/\H wa=some (.tup [.int n,.ref ta])/\zAj H v (plD p)/\hgt p<=h/\(zAK p).length<=20000 /\
 (zIr n (zAK p)->∀H',zAo H H'->Q .non H')/\∀(i:Nat)(x:Int)(H':Hp),(zAK p)[i]? = some x->Bad n (zAK p) i x->(∀(j:Nat)(y:Int),j<i->(zAK p)[j]? = some y->¬ Bad n (zAK p) j y)->zAo H H'->Q (.int x) H'
noncomputable def spLk (h:Nat):Sp:=fun vs H Q _=>∃(wa ta:Addr)(v:V)(n:Int)(p:Pln),vs=[.ref wa,v]/\H wa=some (.tup [.int n,.ref ta])/\0<=n/\n<=24/\zAj H v (plD p)/\hgt p<=h/\(zAK p).length<=20000 /\
 ((∀x,0<=x->x<n->x∈zAK p)->∀H',zAo H H'->Q .non H')/\∀(x:Int)(H':Hp),0<=x->x<n->x∉zAK p->(∀y,0<=y->y<n->y∉zAK p->x<=y)->zAo H H'->Q (.int x) H'
noncomputable def spTf (h:Nat):Sp:=fun vs H Q _=>∃(wa:Addr)(v:V)(n:Int)(ts:List T3)(p:Pln),vs=[.ref wa,v]/\zC0 H wa n ts/\zAj H v (plD p)/\hgt p<=h/\(zAK p).length<64/\(∀x,0<=x->x<n->x∈zAK p) /\
 ((∀a b l,(a,b,l)∈ts->zIt p a b)->∀H',zAo H H'->Q .non H')/\∀(i:Nat)(a b l:Int)(q:Addr)(H':Hp),ts[i]? = some (a,b,l)->¬ zIt p a b->(∀(j:Nat)(a' b' l':Int),j<i->ts[j]? = some (a',b',l')->zIt p a' b')->zAo H H'->H' q=some (.tup [.int a,.int b])->Q (.ref q) H'
noncomputable def zI3 (C:Addr):Sp:=fun vs H Q E=>∃(x:Str)(v:V),vs=[.str x,v]/\(v = .non->Q .non H)/\(v ≠ .non->∀tt dx,H tt=none->H dx=none->tt≠dx->E (.ref C) (some dx) (upd (upd H tt (.tup [.str x,v])) dx (dO dx [("word",.str x),("at",v)])))
noncomputable def FldAt (H:Hp)(dx:Addr)(x:Str)(v:V):Prop:=H dx=some (dO dx [("word",.str x),("at",v)])
noncomputable def zI5 (C:Addr):Sp:=fun vs H Q E=>∃(wa:Addr)(v:V)(d:PyData)(n:Int)(ts:List T3)(k l:Nat),vs=[.ref wa,v]/\zC0 H wa n ts/\zAj H v d/\IB k l d/\l<64/\d.weight<=20000/\(zBr n ts d none->∀H',zAo H H'->Q (.bl true) H') /\
 ∀(x:Str)(e:PyData)(at':V)(dx:Addr)(H':Hp),zBr n ts d (some (x,e))->zAo H H'->zAj H' at' e->FldAt H' dx x at'->E (.ref C) (some dx) H'
section
variable {P:Program}{w:World}{K:PySem.W.Frag}{mg:Str->Option Value}{base:Heap}
theorem scWi:zAN ["thing", "least", "most"] ["thing", "least", "most"] (defScope sWi):=⟨rfl,rfl,rfl,by decide +kernel,rfl,by decide +kernel,by decide +kernel⟩
theorem scPl:zAN ["n", "thing"] ["n", "thing"] (defScope sPl):=⟨rfl,rfl,rfl,by decide +kernel,rfl,by decide +kernel,by decide +kernel⟩
theorem ok_plB {f fW fN:Addr}{fd' fdW fdN:FuncData}(F:Fun K "is_place" "is_place" sPl f fd') (FW:Fun K "is_within" "is_within" sWi fW fdW) (bW:zAI K fdW ["thing", "least", "most"] []) (mW:mg "is_within" = some (.ref fW)) (FN:Fun K "is_number" "is_number" sNum fN fdN) (bN:zAI K fdN ["thing"] []) (mN:mg "is_number" = some (.ref fN)) (mIsi:mg "isinstance" = none) (mInt:mg "int" = none) (mBool:mg "bool" = none) :
 zAs P w K mg base CX0 3 f fd' ["n", "thing"] spPlB:=by
 have GN:zAs P w K mg base CX0 1 fN fdN ["thing"] zMI:=zLo FN mIsi mInt mBool
 have GW':zAs P w K mg base CX0 2 fW fdW ["thing", "least", "most"] (fun vs H Q _=>∃i a b:Int,vs=[.int i,.int a,.int b]/\Q (.bl (decide (a<=i/\i<=b))) H):=by
  refine FW.ok scWi (fun vs H Q E h=>?_) (fun cdv A outer s H vs Q E hr h=>?_)
  . obtain⟨i,a,b,rfl,_⟩:=h
    rfl
  . obtain⟨i,a,b,rfl,k⟩:=h
    refine⟨_,ze (zAH (zDN (zl GN hr rfl mN FN.kp bN .nil zAU (zC (pv 0) zL)) (zDN (zCX op_le (pv 1) (pv 0) (zAg _)) (zDL (zCX op_le (pv 0) (pv 2) (zAg _)))))),?_⟩
    refine⟨_,rfl,.int i,.int i,rfl,.int i,true,rfl,zCj ?_⟩
    refine⟨_,rfl,_,rfl,_,_,rfl,rfl,_,rfl,zFV (fun c=>?_) (fun c=>?_)⟩
    . have c:=of_decide_eq_true c
      refine⟨_,rfl,_,rfl,_,_,rfl,rfl,?_⟩
      have e:decide (i<=b)=decide (a<=i/\i<=b):=decide_eq_decide.mpr ⟨fun z=>⟨c,z⟩,fun z=>z.2⟩
      dsimp only
      rw[e]
      exact k
    . have e:decide (a<=i/\i<=b)=decide (a<=i):=decide_eq_decide.mpr ⟨fun z=>z.1,fun z=>absurd (zQ z) c⟩
      rw[e,zS fun z=>c (zQ z)] at k
      exact k
 refine F.ok scPl (fun vs H Q E h=>?_) (fun cdv A outer s H vs Q E hr h=>?_)
 . obtain⟨n,i,rfl,_⟩:=h
   rfl
 . obtain⟨n,i,rfl,k⟩:=h
   refine⟨_,ze (zAH (zl GW' hr rfl mW FW.kp bW .nil zAU (zC (pv 1) (zC zX (zC (zAz zHn (pv 0) zX) zL))))),?_⟩
   refine⟨_,rfl,_,rfl,_,_,rfl,rfl,i,0,n-1,rfl,?_⟩
   have e:decide (0<=i/\i<=n-1)=decide (0<=i/\i<n):=decide_eq_decide.mpr (by omega)
   rw[e]
   exact k
theorem scPf:zAN ["web", "plan", "ahead", "place"] ["web", "plan"] (defScope sPf):=⟨rfl,rfl,rfl,by decide +kernel,rfl,by decide +kernel,by decide +kernel⟩
theorem ok_pf {f fO fP:Addr}{fd' fdO fdP:FuncData}{h:Nat}(F:Fun K "place_fault" "place_fault" sPf f fd') (FO:Fun K "plan_order" "plan_order" sPo fO fdO) (bO:zAI K fdO ["plan"] []) (mO:mg "plan_order" = some (.ref fO)) (GO:zAs P w K mg base CX0 (h+3) fO fdO ["plan"] (spPo h))
 (FP:Fun K "is_place" "is_place" sPl fP fdP) (bP:zAI K fdP ["n", "thing"] []) (mP:mg "is_place" = some (.ref fP)) (GP:zAs P w K mg base CX0 (h+3) fP fdP ["n", "thing"] spPlB):zAs P w K mg base CX0 (h+4) f fd' ["web", "plan"] (spPf h):=by
 refine F.ok scPf (fun vs H Q E h=>?_) (fun cdv A outer s H vs Q E hr h=>?_)
 . obtain⟨wa,ta,v,n,p,rfl,_⟩:=h
   rfl
 . obtain⟨wa,ta,v,n,p,rfl,hwa,S,hh,hl,kY,kN⟩:=h
   have hu:=zIj hr
   refine⟨_,zV (zAL (i:=2) scPf.nd rfl (Or.inl rfl) zK3)
    (zV (zCI PassesOwn.never rfl (zCg (zl GO hr rfl mO FO.kp bO .nil zAU (zC (pv 1) zL))) (zAX (i:=3) scPf.nd rfl (Or.inl rfl))
     (zV (zBc (PW.pt (zDF (zJP (pc_din hu (pv 3) (pv 2)) (by with_unfolding_all rfl)) (zDK (zB0 (zBL (zl GP hr rfl mP FP.kp bP .nil zAU (zC (zAM zAP (pv 0) zX (fun _ _=>rfl)) (zC (pv 3) zL)))))))) (ze (zAH (pv 3))) zAZ)
     (ze (zG5 hu (pv 2) (pv 3) zDw rfl))))
    (ze (zAH zDM))),?_⟩
   intro d hd
   have sd:=zG (o:=.dK []) hd
   refine⟨_,rfl,v,p,rfl,zg sd S,hh,hl,fun l H1 s1 hl1=>?_⟩
   have hd1:=s1 _ _ (zK (H:=H) (a:=d) (o:=.dK []))
   refine⟨l,rfl,⟨_,SqT.of hl1⟩,zDW (K:=K) (a:=l) (xs:=(zAK p).map V.int) (fun i σ H2=>∃(v3:Option V)(kvs:List (Key×V)),σ=[some (.ref wa),some v,some (.ref d),v3]/\zAo H H2/\H2 l=some (.tup ((zAK p).map V.int))/\H2 d=some (.dK kvs)/\kvs.length<=i/\(∀x:Int,(zC1 kvs (Sum.inl x)).isSome=decide (x∈(zAK p).take i))/\∀(j:Nat)(y:Int),j<i->(zAK p)[j]? = some y->¬ Bad n (zAK p) j y)
    ⟨_,[],rfl,sd.trans s1,hl1,hd1,zH _,fun x=>by rw[zBA];simp[zKi],fun j y hj=>absurd hj (zBu _)⟩ (fun i σ H2 _ z=>?_) (fun i x σ H2 hx z=>?_) (fun σ H2 z=>?_)⟩
   . obtain⟨_,_,_,_,h2,_⟩:=z
     exact SqT.of h2
   . obtain⟨v3,kvs,rfl,s2,hl2,hd2,hkl,hkv,nb⟩:=z
     obtain⟨y,hy,rfl⟩:∃y,(zAK p)[i]? = some y/\V.int y=x:=by
      rw[zZ] at hx
      cases e:(zAK p)[i]? with
      | none=>rw[e] at hx;cases hx
      | some y=>rw[e] at hx;exact⟨y,rfl,zm hx⟩
     have hi:=(zM.mp hy).1
     refine⟨_,rfl,_,rfl,d,_,rfl,zII.k (k:=Sum.inl y) hd2,_,rfl,?_⟩
     rw[hkv y]
     by_cases c1:y∈(zAK p).take i
     . rw[zQ c1]
       exact zCj (zCj ⟨_,rfl,kN i y H2 hy (.inl c1) nb s2⟩)
     . rw[zS c1]
       refine zCZ ?_
       refine⟨_,rfl,wa,_,_,_,rfl,rfl,SqT.of (s2 _ _ hwa),rfl,_,rfl,n,y,rfl,_,rfl,?_⟩
       by_cases c2:0<=y/\y<n
       . rw[zQ c2]
         refine zCZ ?_
         refine⟨_,rfl,_,rfl,d,_,rfl,.inl ⟨kvs,Sum.inl y,hd2,rfl,zu (by omega),rfl⟩,?_⟩
         have e0:zC1 kvs (Sum.inl y)=none:=by
          have:=hkv y
          rw[zS c1] at this
          cases z:zC1 kvs (Sum.inl y) with
          | none=>rfl
          | some u=>rw[z] at this;cases this
         refine⟨_,_,rfl,zBZ s2 hd,by rw[zf (zDe hl2 hd2 (by intro z;cases z))];exact hl2,zK,by rw[zFj _ e0,zB];show kvs.length+1<=i+1;omega,fun x=>?_,fun j z hj hz=>?_⟩
         . rw[zEF,zAb,hy]
           by_cases c3:x=y
           . subst c3
             rw[if_pos rfl];exact (zQ (zJ.mpr (.inr (zk.mpr rfl)))).symm
           . rw[if_neg (fun z=>c3 (Sum.inl.inj z)),hkv x]
             refine decide_eq_decide.mpr ⟨fun z=>zJ.mpr (.inl z),fun z=>?_⟩
             rcases zJ.mp z with z | z
             . exact z
             . exact absurd (zk.mp z) c3
         . by_cases c4:j=i
           . subst c4
             rw[hy] at hz
             cases hz
             rintro (q | q)
             . exact c1 q
             . exact q c2
           . exact nb j z (by omega) hz
       . rw[zS c2]
         exact zCj ⟨_,rfl,kN i y H2 hy (.inr c2) nb s2⟩
   . obtain⟨v3,kvs,rfl,s2,hl2,hd2,hkl,hkv,nb⟩:=z
     rw[zE] at nb
     exact kY (fun i x hx=>nb i x (zM.mp hx).1 hx) H2 s2
theorem scLk:zAN ["web", "plan", "order"] ["web", "plan"] (defScope sLk):=⟨rfl,rfl,rfl,by decide +kernel,rfl,by decide +kernel,by decide +kernel⟩
theorem ok_lk {f fO:Addr}{fd' fdO:FuncData}{h:Nat}(F:Fun K "lacks_fault" "lacks_fault" sLk f fd') (FO:Fun K "plan_order" "plan_order" sPo fO fdO) (bO:zAI K fdO ["plan"] []) (mO:mg "plan_order" = some (.ref fO)) (GO:zAs P w K mg base CX0 (h+3) fO fdO ["plan"] (spPo h)) (mRange:mg "range" = none) (mMin:mg "min" = none):zAs P w K mg base CX0 (h+4) f fd' ["web", "plan"] (spLk h):=by
 refine F.ok scLk (fun vs H Q E h=>?_) (fun cdv A outer s H vs Q E hr h=>?_)
 . obtain⟨wa,ta,v,n,p,rfl,_⟩:=h
   rfl
 . obtain⟨wa,ta,v,n,p,rfl,hwa,n0,n24,S,hh,hl,kY,kN⟩:=h
   have hu:=zIj hr
   refine⟨_,zV (zAL (i:=2) scLk.nd rfl (Or.inr rfl) (zl GO hr rfl mO FO.kp bO .nil zAU (zC (pv 1) zL)))
    (ze (zAH (zMU rfl hu (by rfl) mMin (zC (zCO (own:=["place"]) (cn:=["order"]) (ci:=[2]) rfl (csc rfl rfl) ⟨rfl,rfl,rfl,trivial⟩ rfl (zBw rfl mRange (zC (zAM zAP (pv 0) zX (fun _ _=>rfl)) zL)) (fun _ _ _ _=>zAX (i:=0) (zDT rfl) rfl (Or.inl rfl))
     (fun _ _ _ _=>zEW (zAF zDc (pv 0) (pv 1) (by with_unfolding_all rfl))) (fun _ _ _ _=>pv 0)) zL) zDM))),?_⟩
   refine⟨_,rfl,v,p,rfl,S,hh,hl,fun l H1 s1 hl1=>?_⟩
   refine⟨_,rfl,wa,_,_,_,rfl,rfl,SqT.of (s1 _ _ hwa),rfl,n,rfl,by omega,by omega,[.ref l],rfl,fun D hD=>?_⟩
   refine zDE (lo:=0) (n:=n.toNat) (fun q ys H4=>q<=n.toNat/\ys=((lowTo q).filter fun x=>!decide (x∈zAK p)).map V.int/\H4=upd H1 D (.lst ys)) ⟨zb _,rfl,rfl⟩ (fun q ys H4 z=>?_) (fun q ys H4 hq z=>?_) (fun ys H4 z=>?_)
   . obtain⟨hq,rfl,_⟩:=z
     rw[zE]
     refine zAx (List.length_filter_le _ _) ?_
     rw[zBR]
     exact zu (by omega)
   . obtain⟨_,rfl,rfl⟩:=z
     rw[Int.zero_add]
     have st:(lowTo (q+1)).filter (fun x=>!decide (x∈zAK p))=(lowTo q).filter (fun x=>!decide (x∈zAK p))++[(q:Int)].filter (fun x=>!decide (x∈zAK p)):=by rw[zJ3,List.filter_append]
     refine⟨⟨rfl,rfl⟩,?_⟩
     refine⟨_,rfl,_,rfl,l,_,rfl,.inr (SqT.of (by rw[zf (zo hl1 hD)];exact hl1)),rfl,zA8 _,_,rfl,?_⟩
     show (if (!inV (.int q) ((zAK p).map V.int))=true then _ else _)
     rw[zBS]
     by_cases c:(q:Int)∈zAK p
     . rw[zQ c]
       refine zCZ ⟨by omega,?_,rfl⟩
       rw[st,List.filter_cons_of_neg (by rw[zQ c];decide),List.filter_nil,zr]
     . rw[zS c]
       refine zCj ⟨_,rfl,zK,by omega,?_,zCt⟩
       rw[st,List.filter_cons_of_pos (by rw[zS c];rfl),List.filter_nil,zj];rfl
   . obtain⟨_,rfl,rfl⟩:=z
     have sD:=zG (o:=.lst (((lowTo n.toNat).filter fun x=>!decide (x∈zAK p)).map V.int)) hD
     have mm:∀x,x∈(lowTo n.toNat).filter (fun x=>!decide (x∈zAK p))↔(0<=x/\x<n)/\x∉zAK p:=fun x=>by
      rw[List.mem_filter,zCi,Bool.not_eq_true',decide_eq_false_iff_not]
      constructor <;> rintro ⟨a,b⟩ <;> exact⟨by omega,b⟩
     refine⟨_,rfl,D,_,rfl,.inl (SqL.of zK),fun e=>kY (fun x x0 x1=>?_) _ (s1.trans sD),.inr ⟨_,rfl,fun x hx hm=>?_⟩⟩
     . refine zBn fun z=>?_
       have:=(mm x).mpr ⟨⟨x0,x1⟩,z⟩
       rw[List.map_eq_nil_iff.mp e] at this
       cases this
     . obtain⟨⟨x0,x1⟩,nx⟩:=(mm x).mp hx
       exact kN x _ x0 x1 nx (fun y y0 y1 ny=>hm y ((mm y).mpr ⟨⟨y0,y1⟩,ny⟩)) (s1.trans sD)
theorem scTf:zAN ["web", "plan", "chains", "a", "b", "long"] ["web", "plan"] (defScope sTf):=⟨rfl,rfl,rfl,by decide +kernel,rfl,by decide +kernel,by decide +kernel⟩
theorem ok_tf {f fC:Addr}{fd' fdC:FuncData}{h:Nat}(F:Fun K "tie_fault" "tie_fault" sTf f fd') (FC:Fun K "chain" "chain" sCh fC fdC) (bC:zAI K fdC ["plan", "place"] []) (mC:mg "chain" = some (.ref fC)) (GC:zAs P w K mg base CX0 (h+3) fC fdC ["plan", "place"] (spCh h)) (mRange:mg "range" = none):zAs P w K mg base CX0 (h+4) f fd' ["web", "plan"] (spTf h):=by
 refine F.ok scTf (fun vs H Q E h=>?_) (fun cdv A outer s H vs Q E hr h=>?_)
 . obtain⟨wa,v,n,ts,p,rfl,_⟩:=h
   rfl
 . obtain⟨wa,v,n,ts,p,rfl,⟨ta,tys,hwa,hta,TA,G⟩,S,hh,hl,al,kY,kN⟩:=h
   have hn1:=G.n1
   have hn24:=G.n24
   refine⟨_,zV (zG4 (i:=2) (own:=["place"]) (cn:=["plan"]) (ci:=[1]) scTf.nd rfl (Or.inl rfl) rfl (csc rfl rfl) ⟨rfl,rfl,rfl,trivial⟩ rfl (zBw rfl mRange (zC (zAM zAP (pv 0) zX (fun _ _=>rfl)) zL)) (fun _ _ _ _=>zAX (i:=0) (zDT rfl) rfl (Or.inl rfl))
    (fun _ _ _ _=>zCm) (fun _ _ _ _=>zl GC hr rfl mC FC.kp bC .nil zAU (zC (pv 1) (zC (pv 0) zL))))
    (zV (zCI PassesOwn.never rfl (zCg (zAM zAP (pv 0) zX (fun _ _=>rfl))) (zJX rfl (zCR (zAX (i:=3) scTf.nd rfl (Or.inl rfl)) (zCR (zAX (i:=4) scTf.nd rfl (Or.inl rfl)) (zCR (zAX (i:=5) scTf.nd rfl (Or.inl rfl)) zG8))))
     (ze (zBc (PW.pt (zCV (zAF zBj (pv 3) (zAM zAw (pv 2) (pv 4) (fun _ _=>rfl)) (by with_unfolding_all rfl)) (zCF (zAF zBj (pv 4) (zAM zAw (pv 2) (pv 3) (fun _ _=>rfl)) (by with_unfolding_all rfl))))) (ze (zAH (zAm (zC (pv 3) (zC (pv 4) zL))))) zAZ)))
    (ze (zAH zDM))),?_⟩
   refine⟨_,rfl,wa,_,_,_,rfl,rfl,SqT.of hwa,rfl,n,rfl,by omega,by omega,[v],rfl,fun D hD=>?_⟩
   refine zDE (lo:=0) (n:=n.toNat) (fun q ys H4=>q<=n.toNat/\zAo H H4/\H4 D=some (.lst ys)/\∃as:List Addr,ys=as.map V.ref/\as.length=q/\∀(i:Nat)(a:Addr),as[i]? = some a->∃(r ms:List Int),chO i p=some r/\H4 a=some (.tup (ms.map V.int))/\∀z,z∈ms↔z∈r)
    ⟨zb _,zG hD,zK,[],rfl,rfl,fun i a e=>by simp at e⟩ (fun q ys H4 z=>?_) (fun q ys H4 hq z=>?_) (fun ys H4 z=>?_)
   . obtain⟨hq,_,_,as,rfl,hal,_⟩:=z
     rw[zE,hal]
     exact zu (by omega)
   . obtain⟨_,s4,hD4,as,rfl,hal,hch⟩:=z
     rw[Int.zero_add]
     obtain⟨r,hr'⟩:=zFX (al (q:Int) (by omega) (by omega))
     refine⟨⟨rfl,rfl⟩,?_⟩
     refine zKb ?_
     refine⟨_,rfl,_,rfl,v,p,(q:Int),r,rfl,zg s4 S,hh,hl,hr',fun ms l H5 _ hm s5 h5=>?_⟩
     refine⟨s5 _ _ hD4,hq,zBZ (s4.trans s5) hD,zK,as++[l],by rw[zj];rfl,by rw[zB,hal];rfl,fun i a ha=>?_⟩
     have hkeep:∀b zs,H5 b=some (.tup zs)->upd H5 D (.lst (as.map V.ref++[.ref l])) b=some (.tup zs):=fun b zs e=>by rw[zf (zDe e (s5 _ _ hD4) (by intro z;cases z))];exact e
     by_cases c:i<q
     . rw[zAk (by omega)] at ha
       obtain⟨r',ms',e1,e2,e3⟩:=hch i a ha
       exact⟨r',ms',e1,hkeep _ _ (s5 _ _ e2),e3⟩
     . have hi:i=q:=by
        have:=(zM.mp ha).1
        rw[zB,hal] at this
        have:i<q+1:=this
        omega
       subst hi
       rw[zAu (by omega),hal,Nat.sub_self] at ha
       cases ha
       exact⟨r,ms,hr',hkeep _ _ h5,hm⟩
   . obtain⟨_,s4,hD4,as,rfl,hal,hch⟩:=z
     refine⟨_,rfl,wa,_,_,_,rfl,rfl,SqT.of (s4 _ _ hwa),rfl,ta,rfl,⟨_,SqT.of (s4 _ _ hta)⟩,zDW (K:=K) (a:=ta) (xs:=tys) (fun i σ H5=>∃(va vb vl:Option V),σ=[some (.ref wa),some v,some (.ref D),va,vb,vl]/\zAo H4 H5/\∀(j:Nat)(a' b' l':Int),j<i->ts[j]? = some (a',b',l')->zIt p a' b')
      ⟨_,_,_,rfl,zAo.refl _,fun j a' b' l' hj=>absurd hj (zBu _)⟩ (fun i σ H5 _ ⟨_,_,_,_,s5,_⟩=>SqT.of (s5 _ _ (s4 _ _ hta))) ?turn ?after⟩
     case after=>
      rintro σ H5 ⟨va,vb,vl,rfl,s5,nb⟩
      refine kY (fun a b l hm=>?_) H5 (s4.trans s5)
      obtain⟨j,hj,e⟩:=zAW hm
      exact nb j a b l (by rw[TA.length,zE];exact hj) (by rw[zF hj,e])
     case turn=>
      rintro i y σ H5 hi ⟨va,vb,vl,rfl,s5,nb⟩
      obtain⟨ya,ky,rfl,hky,hya,_⟩:=TA.get hi
      rw[zZ] at hky
      obtain⟨⟨a,b,c⟩,hti,rfl⟩:∃t:T3,ts[i]? = some t/\tl t=ky:=by
       cases e:ts[i]? with
       | none=>rw[e] at hky;cases hky
       | some t=>rw[e] at hky;exact⟨t,rfl,zm hky⟩
      have rg:=G.adj (.inl (zi hti):Adj ts a b c)
      have s45:=s4.trans s5
      have look:∀x:Int,0<=x->x<n->∃(q:Addr)(r ms:List Int),atI (as.map V.ref) x=some (.ref q)/\chO x p=some r/\H5 q=some (.tup (ms.map V.int))/\∀z,z∈ms↔z∈r:=fun x x0 x1=>by
       obtain⟨j,rfl⟩:=zBG x0
       have hj:j<as.length:=by omega
       obtain⟨r,ms,e1,e2,e3⟩:=hch j as[j] (zF hj)
       exact⟨as[j],r,ms,zCC (by rw[zZ,zF hj];rfl),e1,s5 _ _ e2,e3⟩
      obtain⟨qb,rb,mb,ab,eb,hqb,mmb⟩:=look b rg.2.2.1 rg.2.2.2.1
      obtain⟨qa,ra,ma,aa,ea,hqa,mma⟩:=look a rg.1 rg.2.1
      have next:zIt p a b->∀(j:Nat)(a' b' l':Int),j<i+1->ts[j]? = some (a',b',l')->zIt p a' b':=fun tc j a' b' l' hj ht=>by
       by_cases cj:j=i
       . subst cj
         rw[hti] at ht
         cases ht
         exact tc
       . exact nb j a' b' l' (by omega) ht
      refine⟨ya,_,rfl,SqT.of (s45 _ _ hya),rfl,_,_,rfl,_,_,rfl,_,_,rfl,rfl,?_⟩
      have hD5:=s5 _ _ hD4
      refine⟨_,rfl,_,rfl,_,rfl,D,_,_,.ref qb,rfl,rfl,SqL.of hD5,ab,qb,_,rfl,.inr (SqT.of hqb),rfl,zA8 _,_,rfl,?_⟩
      show (if (!inV (.int a) (mb.map V.int))=true then _ else _)
      rw[zBS]
      by_cases c1:a∈mb
      . rw[zQ c1]
        exact zCZ (zCZ ⟨_,_,_,rfl,s5,next (.inl ⟨rb,eb,(mmb a).mp c1⟩)⟩)
      . rw[zS c1]
        refine zCj ?_
        refine⟨_,rfl,_,rfl,_,rfl,D,_,_,.ref qa,rfl,rfl,SqL.of hD5,aa,qa,_,rfl,.inr (SqT.of hqa),rfl,zA8 _,_,rfl,?_⟩
        show (if (!inV (.int b) (ma.map V.int))=true then _ else _)
        rw[zBS]
        by_cases c2:b∈ma
        . rw[zQ c2]
          exact zCZ ⟨_,_,_,rfl,s5,next (.inr ⟨ra,ea,(mma b).mp c2⟩)⟩
        . rw[zS c2]
          refine zCj ⟨_,rfl,_,rfl,by show 2<=sizeLine;decide,fun q hq=>?_⟩
          refine kN i a b c q _ hti ?_ nb (s45.trans (zG hq)) zK
          rintro (⟨r,e,z⟩ | ⟨r,e,z⟩)
          . rw[eb] at e;cases e;exact c1 ((mmb a).mpr z)
          . rw[ea] at e;cases e;exact c2 ((mma b).mpr z)
theorem scRefa:zAN ["word", "at"] ["word", "at"] (defScope zJI):=⟨rfl,rfl,rfl,by decide +kernel,rfl,by decide +kernel,by decide +kernel⟩
theorem zMb {C f fI:Addr}{fd' fdI:FuncData}(F:Fun K "refuse_at" "refuse_at" zJI f fd') (mC:mg "NoPlan" = some (.ref C)) (EI:zHS K C fI)(bI:zAI K fdI ["self", "word", "at"] []) (GI:zAs P w K mg base CX0 1 fI fdI ["self", "word", "at"] (spXI C "word" "at")):zAs P w K mg base (CXI P w) 3 f fd' ["word", "at"] (zI3 C):=by
 refine F.okI scRefa (fun vs H Q E h=>?_) (fun cdv A outer s H vs Q E hr h=>?_)
 . obtain⟨x,v,rfl,_⟩:=h
   rfl
 . obtain⟨x,v,rfl,kY,kN⟩:=h
   refine⟨_,ze (zBc (zAF zJf (pv 1) zDM (zAg _)) (ze (zGQ (E:=E) rfl mC EI rfl GI hr bI (zC (pv 0) (zC (pv 1) zL)) (fun pins σ H s ea tt dx I he hn h0 hE=>zJO I he rfl rfl rfl rfl hn h0 hE))) zAZ),?_⟩
   refine⟨_,rfl,rfl,_,rfl,?_⟩
   by_cases c:v = .non
   . exact ifF (by rw[zQ c];rfl) (kY c)
   . refine ifT (by rw[zS c];rfl) ?_
     exact⟨_,rfl,_,rfl,_,_,rfl,kN c⟩
theorem scLets:zAN ["web", "thing"] ["web", "thing"] (defScope zJJ):=⟨rfl,rfl,rfl,by decide +kernel,rfl,by decide +kernel,by decide +kernel⟩
theorem zMd {C f fI fP fR fF fL fT:Addr}{fd' fdI fdP fdR fdF fdL fdT:FuncData}{m:Nat}(F:Fun K "lets_plan" "lets_plan" zJJ f fd') (mC:mg "NoPlan" = some (.ref C)) (EI:zHS K C fI)(bI:zAI K fdI ["self", "word", "at"] []) (GI:zAs P w K mg base CX0 m fI fdI ["self", "word", "at"] (spXI C "word" "at"))
 (FP:Fun K "is_plan" "is_plan" sIp fP fdP) (bP:zAI K fdP ["thing"] []) (mP:mg "is_plan" = some (.ref fP)) (GP:zAs P w K mg base CX0 (m+1) fP fdP ["thing"] spIp)
 (FR:Fun K "refuse_at" "refuse_at" zJI fR fdR) (bR:zAI K fdR ["word", "at"] []) (mR:mg "refuse_at" = some (.ref fR)) (GR:zAs P w K mg base (CXI P w) (m+1) fR fdR ["word", "at"] (zI3 C))
 (FF:Fun K "place_fault" "place_fault" sPf fF fdF) (bF:zAI K fdF ["web", "plan"] []) (mF:mg "place_fault" = some (.ref fF)) (GF:zAs P w K mg base CX0 (m+1) fF fdF ["web", "plan"] (spPf 24))
 (FL:Fun K "lacks_fault" "lacks_fault" sLk fL fdL) (bL:zAI K fdL ["web", "plan"] []) (mL:mg "lacks_fault" = some (.ref fL)) (GL:zAs P w K mg base CX0 (m+1) fL fdL ["web", "plan"] (spLk 24))
 (FT:Fun K "tie_fault" "tie_fault" sTf fT fdT) (bT:zAI K fdT ["web", "plan"] []) (mT:mg "tie_fault" = some (.ref fT)) (GT:zAs P w K mg base CX0 (m+1) fT fdT ["web", "plan"] (spTf 24)):zAs P w K mg base (CXI P w) (m+2) f fd' ["web", "thing"] (zI5 C):=by
 refine F.okI scLets (fun vs H Q E h=>?_) (fun cdv A outer s H vs Q E hr h=>?_)
 . obtain⟨wa,v,d,n,ts,k0,l0,rfl,_⟩:=h
   rfl
 . obtain⟨wa,v,d,n,ts,k0,l0,rfl,W,S,ib,hl,hw,kY,kN⟩:=h
   obtain⟨ta,tys,hwa,_,_,G⟩:=id W
   have hn1:=G.n1
   have hn24:=G.n24
   refine⟨_,zV (zBc (zB0 (zBL (zl GP hr rfl mP FP.kp bP .nil zAU (zC (pv 1) zL)))) (ze (zGQ (E:=E) rfl mC EI rfl GI hr bI (zC zC3 (zC zDM zL)) (fun pins σ H s ea tt dx I he hn h0 hE=>zJO I he rfl rfl rfl rfl hn h0 hE))) zAZ)
    (zV (zCW (zl GR hr rfl mR FR.kp bR .nil zMX (zC zC3 (zC (zl GF hr rfl mF FF.kp bF .nil zAU (zC (pv 0) (zC (pv 1) zL))) zL))))
    (zV (zCW (zl GR hr rfl mR FR.kp bR .nil zMX (zC zC3 (zC (zl GL hr rfl mL FL.kp bL .nil zAU (zC (pv 0) (zC (pv 1) zL))) zL))))
    (zV (zCW (zl GR hr rfl mR FR.kp bR .nil zMX (zC zC3 (zC (zl GT hr rfl mT FT.kp bT .nil zAU (zC (pv 0) (zC (pv 1) zL))) zL))))
    (ze (zAH zDw))))),?_⟩
   have fail:∀(x:Str)(u:V)(e:PyData)(H1:Hp),zBr n ts d (some (x,e))->zAo H H1->zAj H1 u e->∀tt dx,H1 tt=none->H1 dx=none->tt≠dx->E (.ref C) (some dx) (upd (upd H1 tt (.tup [.str x,u])) dx (dO dx [("word",.str x),("at",u)])):=fun x u e H1 fo s1 Su tt dx ht hd ne=>by
    have s2:=(zG (o:=.tup [.str x,u]) ht).trans (zG (o:=dO dx [("word",.str x),("at",u)]) (by rw[zf (Ne.symm ne)];exact hd))
    exact kN _ _ _ _ _ fo (s1.trans s2) (zg s2 Su) zK
   refine⟨_,rfl,v,d,k0,l0,rfl,S,ib,hl,fun H1 s1=>?_⟩
   refine⟨_,rfl,?_⟩
   cases cp:zBW 24 d with
   | false=>
    refine zCj ?_
    exact⟨_,_,rfl,fail _ _ _ _ (.shape cp) s1 .non⟩
   | true=>
    refine zCZ ?_
    obtain⟨p,rfl,hh,gd,gn⟩:=zFl 24 d cp
    have hlen:=zz (zHJ p) hw
    refine⟨_,rfl,_,rfl,wa,ta,v,n,p,rfl,s1 _ _ hwa,zg s1 S,hh,hlen,fun nb H2 s2=>?_,fun i x H2 hx hb hj s2=>?_⟩
    . obtain⟨nd,rng⟩:=zEh.mp nb
      have h64:(zAK p).length<64:=by
       have:=zLs (n:=n.toNat) nd fun x hx=>by have:=rng x hx;omega
       omega
      refine⟨_,_,rfl,fun _=>?_,fun z=>absurd rfl z⟩
      have s02:=s1.trans s2
      refine⟨_,rfl,_,rfl,wa,ta,v,n,p,rfl,s02 _ _ hwa,by omega,by omega,zg s02 S,hh,hlen,fun all H3 s3=>?_,fun x H3 x0 x1 nx hm s3=>?_⟩
      . refine⟨_,_,rfl,fun _=>?_,fun z=>absurd rfl z⟩
        have s03:=s02.trans s3
        refine⟨_,rfl,_,rfl,wa,v,n,ts,p,rfl,W.keep s03,zg s03 S,hh,h64,all,fun tie H4 s4=>?_,fun i a b l q H4 ht nt hj s4 h4=>?_⟩
        . refine⟨_,_,rfl,fun _=>?_,fun z=>absurd rfl z⟩
          exact kY (.none p rfl cp nb all tie) H4 (s03.trans s4)
        . exact⟨_,_,rfl,(fun z=>by cases z),fun _=>fail _ _ _ _ (.tie p i a b l rfl cp nb all ht nt hj) (s03.trans s4) (.tup h4 (.cons (.int _) (.cons (.int _) .nil)))⟩
      . exact⟨_,_,rfl,(fun z=>by cases z),fun _=>fail _ _ _ _ (.lacks p x rfl cp nb x0 x1 nx hm) (s02.trans s3) (.int _)⟩
    . exact⟨_,_,rfl,(fun z=>by cases z),fun _=>fail _ _ _ _ (.place p i x rfl cp hx hb hj) (s1.trans s2) (.int _)⟩
end
end K39
namespace K39
open PySem L2 WM
noncomputable def zEG (ts:List T3)(x:Int):List Int:=(fd x ts).map hd
theorem zMj {ts:List T3}{x y:Int}:y∈zEG ts x↔∃l,Adj ts x y l:=by
 unfold zEG
 rw[zAY]
 constructor
 . rintro ⟨k,hk,e⟩
   obtain⟨z,l,rfl,a⟩:=zHr.mp hk
   exact⟨l,(show z=y from e) ▸ a⟩
 . rintro ⟨l,a⟩
   exact⟨[y,l],zHr.mpr ⟨y,l,rfl,a⟩,rfl⟩
theorem zG2 {n:Int}{ts:List T3}(G:GW n ts)(i:Nat)(x:Int):(zEG (ts.take i) x).length<=ts.length:=by
 unfold zEG
 rw[zE]
 refine zz (zL1 (n:=n) x fun t ht=>(G.rng t (List.mem_of_mem_take ht)).2.1) ?_
 rw[zd]
 omega
theorem zKu {ts:List T3}{i:Nat}{a b c:Int}(h:ts[i]? = some (a,b,c))(x:Int):zEG (ts.take (i+1)) x=zEG (ts.take i) x++((if a=x then [b] else [])++(if b=x then [a] else [])):=by
 unfold zEG
 rw[zAb,h,zGf,zj]
 show _++((if a=x then [[b,c]] else [])++(if b=x then [[a,c]] else [])++[]).map hd=_
 rw[zr,zj]
 congr 2
 . split <;> rfl
 . split <;> rfl
noncomputable def zCc (H:Hp)(rs:List Addr)(R:List (List Int)):Prop:=rs.length=R.length/\∀(i:Nat)(r:Addr)(row:List Int),rs[i]? = some r->R[i]? = some row->H r=some (.lst (row.map V.int))
theorem zCc.same {H H':Hp}{rs:List Addr}{R:List (List Int)}(h:zCc H rs R)(k:zAo H H'):zCc H' rs R:=⟨h.1,fun i r row a b=>k _ _ (h.2 i r row a b)⟩
theorem zCc.snoc {H:Hp}{rs:List Addr}{R:List (List Int)}{r:Addr}{row:List Int}(h:zCc H rs R)(hr:H r=some (.lst (row.map V.int))):zCc H (rs++[r]) (R++[row]):=by
 refine⟨by rw[zB,zB,h.1];rfl,fun i b w e1 e2=>?_⟩
 by_cases c:i<rs.length
 . rw[zAk c] at e1
   rw[zAk (by rw[<-h.1];exact c)] at e2
   exact h.2 i b w e1 e2
 . rw[zAu (by omega)] at e1
   rw[zAu (by rw[<-h.1];omega),<-h.1] at e2
   have hi:i-rs.length=0:=by
    have:=(zM.mp e1).1
    rw[List.length_singleton] at this
    omega
   rw[hi] at e1 e2
   cases e1
   cases e2
   exact hr
theorem zCc.off {H:Hp}{rs:List Addr}{R:List (List Int)}{l:Addr}{o:HO}(h:zCc H rs R)(nl:l∉rs):zCc (upd H l o) rs R:=⟨h.1,fun i r row a b=>by rw[zf (show r≠l from fun z=>nl (z ▸ zi a))];exact h.2 i r row a b⟩
noncomputable def zDQ (H:Hp)(sl:Addr)(R:List (List Int)):Prop:=∃rs:List Addr,H sl=some (.lst (rs.map V.ref))/\zCc H rs R
theorem zDQ.same {H H':Hp}{sl:Addr}{R:List (List Int)}(h:zDQ H sl R)(k:zAo H H'):zDQ H' sl R:=by
 obtain⟨rs,a,b⟩:=h
 exact⟨rs,k _ _ a,b.same k⟩
noncomputable abbrev zG1 (ts:List T3)(n:Int):List (List Int):=(lowTo n.toNat).map (zEG ts)
theorem zDB {ts:List T3}{n:Int}{i:Nat}(h:i<n.toNat):(zG1 ts n)[i]? = some (zEG ts i):=by
 unfold zG1 lowTo
 rw[zZ,zZ,List.getElem?_range h];rfl
noncomputable def spBes:Sp:=fun vs H Q _=>∃(wa:Addr)(n:Int)(ts:List T3),vs=[.ref wa]/\zC0 H wa n ts/\∀(bl:Addr)(H':Hp),zAo H H'->zDQ H' bl (zG1 ts n)->Q (.ref bl) H'
structure zCd (ts:List T3)(xs:List Int)(fs:List (List Int)):Prop where
 ne:∀f∈fs,f≠[]
 cl:∀f∈fs,∀a∈f,∀b l,Adj ts a b l->b∈xs->b∈f
noncomputable def spPar:Sp:=fun vs H Q _=>∃(bl la:Addr)(n:Int)(ts:List T3)(xs:List Int),vs=[.ref bl,.ref la]/\zDQ H bl (zG1 ts n)/\GW n ts/\H la=some (.lst (xs.map V.int))/\xs.Nodup/\(∀x∈xs,0<=x/\x<n)/\xs.length<64 /\
 ∀(fl:Addr)(fs:List (List Int))(H':Hp),H fl=none->zAo H H'->zDQ H' fl fs->fs.flatten.Perm xs->zCd ts xs fs->Q (.ref fl) H'
theorem cut1 (xs:List V):zEM xs none (some 1)=xs.take 1:=zCb xs 1
section
variable {P:Program}{w:World}{K:PySem.W.Frag}{mg:Str->Option Value}{base:Heap}
theorem zJH:zAN ["_law_web_here", "_law_found", "_law_a", "_law_b", "_law_long"] ["_law_web_here"] (defScope sBes):=⟨rfl,rfl,rfl,by decide +kernel,rfl,by decide +kernel,by decide +kernel⟩
theorem ok_bes {f:Addr}{fd':FuncData}(F:Fun K "_law_beside" "_law_beside" sBes f fd') (mRange:mg "range" = none):zAs P w K mg base CX0 1 f fd' ["_law_web_here"] spBes:=by
 refine F.ok zJH (fun vs H Q E h=>?_) (fun cdv A outer s H vs Q E hr h=>?_)
 . obtain⟨wa,n,ts,rfl,_⟩:=h
   rfl
 . obtain⟨wa,n,ts,rfl,⟨ta,tys,hwa,hta,TA,G⟩,k⟩:=h
   have hn1:=G.n1
   have hn24:=G.n24
   refine⟨_,zV (zG4 (i:=1) (own:=["_law_place"]) (cn:=[]) (ci:=[]) zJH.nd rfl (Or.inl rfl) rfl (csc rfl rfl) trivial rfl (zBw rfl mRange (zC (zAM zAP (pv 0) zX (fun _ _=>rfl)) zL)) (fun _ _ _ _=>zAX (i:=0) (zDT rfl) rfl (Or.inl rfl))
    (fun _ _ _ _=>zCm) (fun _ _ _ _=>zBx zL))
    (zV (zCI PassesOwn.never rfl (zCg (zAM zAP (pv 0) zX (fun _ _=>rfl))) (zJX rfl (zCR (zAX (i:=2) zJH.nd rfl (Or.inl rfl)) (zCR (zAX (i:=3) zJH.nd rfl (Or.inl rfl)) (zCR (zAX (i:=4) zJH.nd rfl (Or.inl rfl)) zG8))))
     (zV (zCW (zFn PySem.F.plainAttrs_list PySem.F.slot_list_append PySem.F.type_list_append zCY (zAM zAw (pv 1) (pv 2) (fun _ _=>rfl)) (zC (pv 3) zL)))
     (ze (zCW (zFn PySem.F.plainAttrs_list PySem.F.slot_list_append PySem.F.type_list_append zCY (zAM zAw (pv 1) (pv 3) (fun _ _=>rfl)) (zC (pv 2) zL))))))
    (ze (zAH (pv 1)))),?_⟩
   refine⟨_,rfl,wa,_,_,_,rfl,rfl,SqT.of hwa,rfl,n,rfl,by omega,by omega,[],rfl,fun D hD=>?_⟩
   refine zDE (lo:=0) (n:=n.toNat) (fun q ys H4=>q<=n.toNat/\zAo H H4/\H4 D=some (.lst ys)/\∃rs:List Addr,ys=rs.map V.ref/\rs.length=q/\rs.Nodup/\(∀r∈rs,H r=none/\r≠D)/\∀r∈rs,H4 r=some (.lst []))
    ⟨zb _,zG hD,zK,[],rfl,rfl,List.nodup_nil,(fun r hr=>by cases hr),fun r hr=>by cases hr⟩ (fun q ys H4 z=>?_) (fun q ys H4 hq z=>?_) (fun ys H4 z=>?_)
   . obtain⟨hq,_,_,rs,rfl,hl,_⟩:=z
     rw[zE,hl]
     exact zu (by omega)
   . obtain⟨_,s4,hD4,rs,rfl,hl,nd,fr,em⟩:=z
     refine⟨⟨rfl,rfl⟩,?_⟩
     refine zKb ?_
     refine⟨zb _,fun r hr'=>?_⟩
     have sr:=zG (o:=.lst []) hr'
     have nrD:r≠D:=fun z=>by
      have:H4 r=none:=hr'
      rw[z,hD4] at this;cases this
     have nr:r∉rs:=fun z=>by
      have:H4 r=none:=hr'
      rw[em r z] at this;cases this
     have hr0:H r=none:=zAo.none s4 hr'
     refine⟨sr _ _ hD4,hq,zBZ (s4.trans sr) hD,zK,rs++[r],by rw[zj];rfl,by rw[zB,hl];rfl,?_,fun x hx=>?_,fun x hx=>?_⟩
     . rw[zAt]
       exact⟨nd,by simp,fun x hx y hy=>by rw[zk.mp hy];exact fun z=>nr (z ▸ hx)⟩
     . rcases zJ.mp hx with hx | hx
       . exact fr x hx
       . rw[zk.mp hx];exact⟨hr0,nrD⟩
     . rcases zJ.mp hx with hx | hx
       . rw[zf (fr x hx).2];exact sr _ _ (em x hx)
       . rw[zk.mp hx,zf nrD];exact zK
   . obtain⟨_,s4,hD4,rs,rfl,hl,nd,fr,em⟩:=z
     have R0:zCc H4 rs (zG1 (ts.take 0) n):=⟨by rw[hl,zE,zBR],fun i r row e1 e2=>by
      have hi:i<n.toNat:=by rw[<-hl];exact (zM.mp e1).1
      rw[zDB hi] at e2
      cases e2
      exact em r (zi e1)⟩
     refine⟨_,rfl,wa,_,_,_,rfl,rfl,SqT.of (s4 _ _ hwa),rfl,ta,rfl,⟨_,SqT.of (s4 _ _ hta)⟩,zDW (K:=K) (a:=ta) (xs:=tys) (fun i σ H5=>∃(va vb vl:Option V),σ=[some (.ref wa),some (.ref D),va,vb,vl]/\zAo H H5/\H5 D=some (.lst (rs.map V.ref))/\zCc H5 rs (zG1 (ts.take i) n))
      ⟨_,_,_,rfl,s4,hD4,R0⟩ (fun i σ H5 _ ⟨_,_,_,_,s5,_⟩=>SqT.of (s5 _ _ hta)) ?turn ?after⟩
     case after=>
      rintro σ H5 ⟨va,vb,vl,rfl,s5,h5,R5⟩
      rw[TA.length,zE,za (zH _)] at R5
      exact⟨_,rfl,k D H5 s5 ⟨rs,h5,R5⟩⟩
     case turn=>
      rintro i y σ H5 hi ⟨va,vb,vl,rfl,s5,h5,R5⟩
      obtain⟨ya,ky,rfl,hky,hya,_⟩:=TA.get hi
      rw[zZ] at hky
      obtain⟨⟨a,b,c⟩,hti,rfl⟩:∃t:T3,ts[i]? = some t/\tl t=ky:=by
       cases e:ts[i]? with
       | none=>rw[e] at hky;cases hky
       | some t=>rw[e] at hky;exact⟨t,rfl,zm hky⟩
      obtain⟨a0,a1,b0,b1,nab,_⟩:=G.adj (.inl (zi hti):Adj ts a b c)
      obtain⟨a,rfl⟩:=zBG a0
      obtain⟨b,rfl⟩:=zBG b0
      have ha:a<rs.length:=by omega
      have hb:b<rs.length:=by omega
      have ea:rs[a]? = some rs[a]:=zF ha
      have eb:rs[b]? = some rs[b]:=zF hb
      have nrr:rs[a]≠rs[b]:=fun z=>by
       have hp:=zAV.mp (zBb.mp nd)
       by_cases cc:a<b
       . exact hp a b ha hb cc z
       . exact hp b a hb ha (by omega) z.symm
      have hra:=R5.2 a _ _ ea (zDB (by omega))
      have hrb:=R5.2 b _ _ eb (zDB (by omega))
      have la:=zG2 G i (a:Int)
      have lb:=zG2 G i (b:Int)
      have lt:=G.len
      have fa:=fr _ (zi ea)
      have fb:=fr _ (zi eb)
      refine⟨ya,_,rfl,SqT.of (s5 _ _ hya),rfl,_,_,rfl,_,_,rfl,_,_,rfl,rfl,?_⟩
      refine⟨_,rfl,_,rfl,D,_,_,.ref rs[a],rfl,rfl,SqL.of h5,zCC (by rw[zZ,ea];rfl),.inl ⟨rfl,_,SqL.of hra⟩,_,rfl,rs[a],_,.int b,rfl,rfl,hra,by rw[zE];exact zu (by omega),?_⟩
      have h6:(upd H5 rs[a] (.lst ((zEG (ts.take i) a).map V.int++[.int b]))) D=some (.lst (rs.map V.ref)):=by rw[zf fa.2.symm];exact h5
      have hrb6:(upd H5 rs[a] (.lst ((zEG (ts.take i) a).map V.int++[.int b]))) rs[b]=some (.lst ((zEG (ts.take i) b).map V.int)):=by rw[zf nrr.symm];exact hrb
      refine⟨_,rfl,_,rfl,D,_,_,.ref rs[b],rfl,rfl,SqL.of h6,zCC (by rw[zZ,eb];rfl),.inl ⟨rfl,_,SqL.of hrb6⟩,_,rfl,rs[b],_,.int a,rfl,rfl,hrb6,by rw[zE];exact zu (by omega),?_⟩
      refine⟨_,_,_,rfl,zBZ (zBZ s5 fa.1) fb.1,by rw[zf fb.2.symm];exact h6,?_⟩
      refine⟨by rw[zE,zBR,hl],fun j r row e1 e2=>?_⟩
      have hj:j<n.toNat:=by rw[<-hl];exact (zM.mp e1).1
      rw[zDB hj] at e2
      cases e2
      have e0:=R5.2 j r _ e1 (zDB hj)
      rw[zKu hti]
      by_cases c1:j=b
      . subst c1
        rw[eb] at e1
        cases e1
        rw[zK,if_neg (fun z=>nab z),if_pos rfl,zj];rfl
      . have n1:r≠rs[b]:=fun z=>by
         have hp:=zAV.mp (zBb.mp nd)
         obtain⟨hj',e⟩:=zM.mp e1
         by_cases cc:j<b
         . exact hp j b hj' hb cc (by rw[e,z])
         . exact hp b j hb hj' (by omega) (by rw[e,z])
        rw[zf n1]
        by_cases c2:j=a
        . subst c2
          rw[ea] at e1
          cases e1
          rw[zK,if_pos rfl,if_neg (fun z=>nab z.symm),zj];rfl
        . have n2:r≠rs[a]:=fun z=>by
           have hp:=zAV.mp (zBb.mp nd)
           obtain⟨hj',e⟩:=zM.mp e1
           by_cases cc:j<a
           . exact hp j a hj' ha cc (by rw[e,z])
           . exact hp a j ha hj' (by omega) (by rw[e,z])
          rw[zf n2,if_neg (fun z=>c2 (by omega)),if_neg (fun z=>c1 (by omega))]
          simpa using e0
end
end K39
namespace K39
open PySem L2 WM
theorem zD8 (fs:List (List Int))(f:List Int):(fs++[f]).flatten=fs.flatten++f:=by simp
structure PtI (ts:List T3)(le pt:List Int)(at':Nat):Prop where
 nd:pt.Nodup
 sub:∀x∈pt,x∈le
 ne:pt≠[]
 at_le:at'<=pt.length
 done:∀(i:Nat)(a:Int),i<at'->pt[i]? = some a->∀b l,Adj ts a b l->b∈le->b∈pt
theorem PtI.step {n:Int}{ts:List T3}{le pt:List Int}{at':Nat}{x:Int}(G:GW n ts)(h:PtI ts le pt at')(hx:pt[at']? = some x):PtI ts le (pt++(zEG ts x).filter fun y=>decide (y∈le) && !decide (y∈pt)) (at'+1):=by
 have ha:=(zM.mp hx).1
 have fm:∀y,y∈(zEG ts x).filter (fun y=>decide (y∈le) && !decide (y∈pt))↔y∈zEG ts x/\y∈le/\y∉pt:=fun y=>by
  rw[List.mem_filter,zAC,decide_eq_true_iff,Bool.not_eq_true',decide_eq_false_iff_not]
 refine⟨?_,fun y hy=>?_,fun z=>h.ne (List.append_eq_nil_iff.mp z).1,by rw[zB];omega,fun i a hi e b l A hb=>?_⟩
 . rw[zAt]
   exact⟨h.nd,(zLM G x).filter _,fun y hy z hz e=>((fm z).mp hz).2.2 (e ▸ hy)⟩
 . rcases zJ.mp hy with hy | hy
   . exact h.sub y hy
   . exact ((fm y).mp hy).2.1
 . by_cases c:i<at'
   . rw[zAk (by omega)] at e
     exact zJ.mpr (.inl (h.done i a c e b l A hb))
   . have hi':i=at':=by omega
     subst hi'
     rw[zAk ha,hx] at e
     cases e
     by_cases cb:b∈pt
     . exact zJ.mpr (.inl cb)
     . exact zJ.mpr (.inr ((fm b).mpr ⟨zMj.mpr ⟨l,A⟩,hb,cb⟩))
structure PsI (ts:List T3)(xs le:List Int)(fs:List (List Int)):Prop where
 pm:(fs.flatten++le).Perm xs
 ok:zCd ts xs fs
theorem PsI.step {ts:List T3}{xs le pt pt':List Int}{fs:List (List Int)}(h:PsI ts xs le fs)(nd:xs.Nodup)(p:PtI ts le pt pt.length)(pm:pt'.Perm pt):PsI ts xs (le.filter fun x=>!decide (x∈pt)) (fs++[pt']):=by
 have ndl:=h.pm.nodup_iff.mpr nd
 obtain⟨n1,n2,n3⟩:=zAt.mp ndl
 have mem:∀x,x∈xs↔x∈fs.flatten\/x∈le:=fun x=>by rw[<-h.pm.mem_iff,zJ]
 refine⟨?_,⟨fun f hf=>?_,fun f hf a ha b l A hb=>?_⟩⟩
 . rw[zD8,zAc]
   refine List.Perm.trans ?_ h.pm
   refine List.Perm.append_left _ ?_
   refine (pm.append_right _).trans ?_
   refine (List.perm_ext_iff_of_nodup ?_ n2).mpr fun x=>?_
   . rw[zAt]
     refine⟨p.nd,n2.filter _,fun x hx y hy e=>?_⟩
     rw[List.mem_filter,Bool.not_eq_true',decide_eq_false_iff_not] at hy
     exact hy.2 (e ▸ hx)
   . rw[zJ,List.mem_filter,Bool.not_eq_true',decide_eq_false_iff_not]
     constructor
     . rintro (z | z)
       . exact p.sub x z
       . exact z.1
     . intro z
       by_cases c:x∈pt
       . exact .inl c
       . exact .inr ⟨z,c⟩
 . rcases zJ.mp hf with hf | hf
   . exact h.ok.ne f hf
   . rw[zk.mp hf]
     intro z
     exact p.ne (List.perm_nil.mp (z ▸ pm.symm))
 . rcases zJ.mp hf with hf | hf
   . exact h.ok.cl f hf a ha b l A hb
   . rw[zk.mp hf] at ha ⊢
     have ha':=pm.mem_iff.mp ha
     rw[pm.mem_iff]
     rcases (mem b).mp hb with z | z
     . obtain⟨g,hg,hbg⟩:=List.mem_flatten.mp z
       have hag:=h.ok.cl g hg b hbg a l A.symm ((mem a).mpr (.inr (p.sub a ha')))
       exact (n3 a (List.mem_flatten.mpr ⟨g,hg,hag⟩) a (p.sub a ha') rfl).elim
     . obtain⟨i,hi,e⟩:=zAW ha'
       exact p.done i a hi (by rw[zF hi,e]) b l A z
section
variable {P:Program}{w:World}{K:PySem.W.Frag}{mg:Str->Option Value}{base:Heap}
section
variable {X:Cx}{pl:Option ComprehensionPlan}{N':List Str}{sc:Scope}{fp:Option Addr}{s3:Shared}{H3:Hp}
end
theorem zGL:zAN ["_law_beside_each", "_law_places", "_law_found", "_law_left", "_law_part", "_law_at"] ["_law_beside_each", "_law_places"] (defScope sPar):=⟨rfl,rfl,rfl,by decide +kernel,rfl,by decide +kernel,by decide +kernel⟩
theorem ok_par {f:Addr}{fd':FuncData}(F:Fun K "_law_parts" "_law_parts" sPar f fd') (mSorted:mg "sorted" = none) (mLen:mg "len" = none):zAs P w K mg base CX0 1 f fd' ["_law_beside_each", "_law_places"] spPar:=by
 refine F.ok zGL (fun vs H Q E h=>?_) (fun cdv A outer s H vs Q E hr h=>?_)
 . obtain⟨bl,la,n,ts,xs,rfl,_⟩:=h
   rfl
 . obtain⟨bl,la,n,ts,xs,rfl,⟨rs,hbl,RB⟩,G,hla,nd,rng,h64,k⟩:=h
   have hu0:=hr.units0
   have hrs:rs.length=n.toNat:=by rw[RB.1,zE,zBR]
   refine⟨_,zV (zAL (i:=2) zGL.nd rfl (Or.inl rfl) (zBx zL))
    (zV (zAL (i:=3) zGL.nd rfl (Or.inr rfl) (zn zB2 (by rfl) mSorted (by decide +kernel) (zC (pv 1) zL)))
    (zV (zEI PassesOwn.never (zAF (zHo hu0) (pv 3) (zBx zL) (zAg _))
     (zV (zAL (i:=4) zGL.nd rfl (Or.inr rfl) (zA5 zC2 (pv 3) zBP (zBO zX)))
     (zV (zAL (i:=5) zGL.nd rfl (Or.inl rfl) zX)
     (zV (zEI PassesOwn.never (zAF zJh (pv 5) (zn zy (by rfl) mLen PySem.boot_len (zC (pv 4) zL)) (zAg _))
      (zV (zAL (i:=4) zGL.nd rfl (Or.inr rfl) (zAz zGW (pv 4) (zCO (own:=["_law_one"]) (cn:=["_law_left", "_law_part"]) (ci:=[3,4]) rfl (csc rfl rfl) ⟨rfl,rfl,rfl,rfl,rfl,rfl,trivial⟩ rfl (zDu (zAM zAw (pv 0) (zAM zAw (pv 4) (pv 5) (fun _ _=>rfl)) (fun _ _=>rfl))) (fun _ _ _ _=>zAX (i:=0) (zDT rfl) rfl (Or.inl rfl))
       (fun _ _ _ _=>zEW (PW.pt (zCV (zAF zLk (pv 0) (pv 1) (by with_unfolding_all rfl)) (zCF (zAF zDc (pv 0) (pv 2) (by with_unfolding_all rfl)))))) (fun _ _ _ _=>pv 0))))
      (ze (zAL (i:=5) zGL.nd rfl (Or.inl rfl) (zAz zCK (pv 5) zX)))))
     (zV (zCW (zFn PySem.F.plainAttrs_list PySem.F.slot_list_append PySem.F.type_list_append zCY (pv 2) (zC (zn zB2 (by rfl) mSorted (by decide +kernel) (zC (pv 4) zL)) zL)))
     (ze (zAL (i:=3) zGL.nd rfl (Or.inr rfl) (zCO (own:=["_law_one"]) (cn:=["_law_part"]) (ci:=[4]) rfl (csc rfl rfl) ⟨rfl,rfl,rfl,trivial⟩ rfl (zDu (pv 3)) (fun _ _ _ _=>zAX (i:=0) (zDT rfl) rfl (Or.inl rfl))
      (fun _ _ _ _=>zEW (zAF zDc (pv 0) (pv 1) (by with_unfolding_all rfl))) (fun _ _ _ _=>pv 0)))))))))
    (ze (zAH (pv 2))))),?_⟩
   refine⟨zb _,fun fo hfo=>?_⟩
   have s0:=zG (o:=.lst []) hfo
   refine⟨_,rfl,la,xs,rfl,SqL.of (s0 _ _ hla),h64,fun l0 ms hl0 pm0 so0=>?_⟩
   have s1:=s0.trans (zG (o:=.lst (ms.map V.int)) hl0)
   have nl0:l0≠fo:=fun z=>by rw[z,zK] at hl0;cases hl0
   have hfo1:(upd (upd H fo (.lst [])) l0 (.lst (ms.map V.int))) fo=some (.lst (([]:List Addr).map V.ref)):=by rw[zf nl0.symm,zK];rfl
   have hl1:(upd (upd H fo (.lst [])) l0 (.lst (ms.map V.int))) l0=some (.lst (ms.map V.int)):=zK
   generalize upd (upd H fo (.lst [])) l0 (.lst (ms.map V.int))=H1 at s1 hfo1 hl1 ⊢
   refine⟨fun m σ H2=>∃(v4 v5:Option V)(ll:Addr)(le:List Int)(as:List Addr)(fs:List (List Int)),σ=[some (.ref bl),some (.ref la),some (.ref fo),some (.ref ll),v4,v5]/\m=le.length/\zAo H H2/\H2 ll=some (.lst (le.map V.int))/\H2 fo=some (.lst (as.map V.ref))/\fo∉as/\zCc H2 as fs/\as.length<=64/\fs.length+le.length<=xs.length/\PsI ts xs le fs,
    ⟨ms.length,none,none,l0,ms,[],[],rfl,rfl,s1,hl1,hfo1,by simp,⟨rfl,fun i r row e=>by simp at e⟩,by simp,by rw[zA3,Nat.zero_add,pm0.length_eq];exact zH _,⟨pm0,⟨(fun f hf=>by cases hf),(fun f hf=>by cases hf)⟩⟩⟩,fun m σ H2 z=>?_⟩
   obtain⟨v4,v5,ll,le,as,fs,rfl,rfl,s2,hll,hfo2,nfo,RF,has,hcnt,PS⟩:=z
   have ndl:le.Nodup:=(zAt.mp (PS.pm.nodup_iff.mpr nd)).2.1
   have lex:∀x∈le,x∈xs:=fun x hx=>PS.pm.mem_iff.mp (zJ.mpr (.inr hx))
   have lel:le.length<=xs.length:=by omega
   refine⟨_,rfl,zb _,fun b hb=>?_⟩
   have sb:=zG (o:=.lst []) hb
   refine⟨ll,b,le.map V.int,rfl,rfl,SqL.of (sb _ _ hll),SqL.of zK,_,rfl,?_⟩
   have s3:=s2.trans sb
   have hll3:=sb _ _ hll
   have hfo3:=sb _ _ hfo2
   have RF3:=RF.same sb
   generalize upd H2 b (.lst [])=H3 at s3 hll3 hfo3 RF3 ⊢
   clear hb sb hll hfo2 RF s2 b H2
   cases le with
   | nil=>
    refine zCZ ?_
    refine⟨_,rfl,k fo fs H3 hfo s3 ⟨as,hfo3,RF3⟩ ?_ PS.ok⟩
    have:=PS.pm
    rw[zr] at this
    exact this
   | cons x0 le'=>
   refine zCj ⟨fun σ' H'=>∃(v4 v5:Option V)(ll:Addr)(le1:List Int)(as:List Addr)(fs:List (List Int)),σ'=[some (.ref bl),some (.ref la),some (.ref fo),some (.ref ll),v4,v5]/\le1.length<(x0::le').length/\zAo H H'/\H' ll=some (.lst (le1.map V.int))/\H' fo=some (.lst (as.map V.ref))/\fo∉as/\zCc H' as fs/\as.length<=64/\fs.length+le1.length<=xs.length/\PsI ts xs le1 fs,?_,?_⟩
   . rintro σ' H' ⟨v4,v5,ll,le1,as,fs,rfl,hlt,r⟩
     exact⟨le1.length,hlt,v4,v5,ll,le1,as,fs,rfl,rfl,r⟩
   . refine⟨_,rfl,_,rfl,ll,_,rfl,SqL.of hll3,fun p0 hp0=>?_⟩
     rw[cut1]
     have sp:=zG (o:=.lst (((x0::le').map V.int).take 1)) hp0
     have s4:=s3.trans sp
     have hp4:(upd H3 p0 (.lst (((x0::le').map V.int).take 1))) p0=some (.lst ([x0].map V.int)):=zK
     have hll4:=sp _ _ hll3
     have hfo4:=sp _ _ hfo3
     have RF4:=RF3.same sp
     generalize upd H3 p0 (.lst (((x0::le').map V.int).take 1))=H4 at s4 hp4 hll4 hfo4 RF4 ⊢
     clear sp hll3 hfo3 RF3 s3 hp0
     obtain⟨le,ele⟩:∃le,le=x0::le':=⟨_,rfl⟩
     rw[<-ele] at hll4 ndl lex lel PS hcnt ⊢
     have P0:PtI ts le [x0] 0:=⟨by simp,fun x hx=>by rw[zk.mp hx,ele];exact zT,by simp,zb _,fun i a hi=>absurd hi (zBu _)⟩
     refine⟨fun m σ H5=>∃(pp:Addr)(pt:List Int)(a':Nat),σ=[some (.ref bl),some (.ref la),some (.ref fo),some (.ref ll),some (.ref pp),some (.int a')]/\m=le.length-a'/\zAo H4 H5/\H5 pp=some (.lst (pt.map V.int))/\PtI ts le pt a',⟨_,p0,[x0],0,rfl,rfl,zAo.refl _,hp4,P0⟩,fun m σ H5 z=>?_⟩
     obtain⟨pp,pt,a',rfl,rfl,s5,hpp,PI⟩:=z
     have ptl:pt.length<=le.length:=zHp PI.nd PI.sub
     refine⟨_,rfl,_,rfl,pp,_,rfl,.inl (SqL.of hpp),_,_,rfl,rfl,_,rfl,?_⟩
     rw[zE]
     by_cases c:a'<pt.length
     . refine ifT (zQ (by omega)) ⟨fun σ' H'=>∃(pp:Addr)(pt:List Int),σ'=[some (.ref bl),some (.ref la),some (.ref fo),some (.ref ll),some (.ref pp),some (.int ((a'+1:Nat):Int))]/\zAo H4 H'/\H' pp=some (.lst (pt.map V.int))/\PtI ts le pt (a'+1),?_,?_⟩
       . rintro σ' H' ⟨pp,pt',rfl,s',hp',P'⟩
         exact⟨_,by omega,pp,pt',a'+1,rfl,rfl,s',hp',P'⟩
       . have ex:pt[a']? = some pt[a']:=zF c
         have hxm:=PI.sub _ (zAS c)
         generalize pt[a']=x at ex hxm
         have rx:=rng x (lex x hxm)
         obtain⟨xn,rfl⟩:=zBG rx.1
         have hxr:xn<rs.length:=by omega
         have hrow:=RB.2 xn rs[xn] _ (zF hxr) (zDB (by omega))
         have s05:=s4.trans s5
         have hrow5:=s05 _ _ hrow
         have hrl:(zEG ts xn).length<=100:=by
          have:=zG2 G ts.length (xn:Int)
          rw[za (zH _)] at this
          have:=G.len
          omega
         refine⟨_,rfl,_,rfl,_,rfl,_,rfl,pp,_,_,.int xn,rfl,rfl,SqL.of hpp,zCC (by rw[zZ,ex];rfl),bl,_,_,.ref rs[xn],rfl,rfl,SqL.of (s05 _ _ hbl),zCC (by rw[zZ,zF hxr];rfl),rs[xn],rfl,⟨_,SqL.of hrow5⟩,[.ref ll,.ref pp],rfl,fun D hD=>?_⟩
         have hll5:=s5 _ _ hll4
         refine zDl (a:=rs[xn]) (xs:=(zEG ts xn).map V.int) (fun i ys H6=>ys=(((zEG ts xn).take i).filter fun y=>decide (y∈le) && !decide (y∈pt)).map V.int/\H6=upd H5 D (.lst ys)) ⟨rfl,rfl⟩ (fun i ys H6 z=>?_) (fun i ys H6 z=>?_) (fun i v ys H6 hv z=>?_) (fun ys H6 z=>?_)
         . obtain⟨_,rfl⟩:=z
           exact SqL.of (by rw[zf (zo hrow5 hD)];exact hrow5)
         . obtain⟨rfl,_⟩:=z
           rw[zE]
           refine zAx (List.length_filter_le _ _) ?_
           rw[zd]
           exact zu (by omega)
         . obtain⟨rfl,rfl⟩:=z
           obtain⟨y,hy,rfl⟩:∃y,(zEG ts xn)[i]? = some y/\V.int y=v:=by
            rw[zZ] at hv
            cases e:(zEG ts xn)[i]? with
            | none=>rw[e] at hv;cases hv
            | some y=>rw[e] at hv;exact⟨y,rfl,zm hv⟩
           have st:((zEG ts xn).take (i+1)).filter (fun y=>decide (y∈le) && !decide (y∈pt))=((zEG ts xn).take i).filter (fun y=>decide (y∈le) && !decide (y∈pt))++[y].filter (fun y=>decide (y∈le) && !decide (y∈pt)):=by rw[zAb,hy,List.filter_append];rfl
           refine⟨⟨rfl,rfl⟩,?_⟩
           refine⟨_,rfl,_,rfl,ll,_,rfl,.inl (SqL.of (by rw[zf (zo hll5 hD)];exact hll5)),rfl,zA8 _,_,rfl,?_⟩
           show (if inV (.int y) (le.map V.int)=true then _ else _)
           rw[zBS]
           by_cases c1:y∈le
           . rw[zQ c1]
             refine zCj ?_
             refine⟨_,rfl,_,rfl,pp,_,rfl,.inl (SqL.of (by rw[zf (zo hpp hD)];exact hpp)),rfl,zA8 _,_,rfl,?_⟩
             show (if (!inV (.int y) (pt.map V.int))=true then _ else _)
             rw[zBS]
             by_cases c2:y∈pt
             . rw[zQ c2]
               refine zCZ ⟨?_,rfl⟩
               rw[st,List.filter_cons_of_neg (by rw[zQ c2,Bool.not_true,Bool.and_false];decide),List.filter_nil,zr]
             . rw[zS c2]
               refine zCj ⟨_,rfl,zK,?_,zCt⟩
               rw[st,List.filter_cons_of_pos (by rw[zQ c1,zS c2];rfl),List.filter_nil,zj];rfl
           . rw[zS c1]
             refine zCZ (zCZ ⟨?_,rfl⟩)
             rw[st,List.filter_cons_of_neg (by rw[zS c1,zBo];decide),List.filter_nil,zr]
         . obtain⟨rfl,rfl⟩:=z
           rw[zE,za (zH _)]
           have sD:=zG (o:=.lst (((zEG ts xn).filter fun y=>decide (y∈le) && !decide (y∈pt)).map V.int)) hD
           have PI':=PI.step G ex
           have l1:(pt++(zEG ts xn).filter fun y=>decide (y∈le) && !decide (y∈pt)).length<=le.length:=zHp PI'.nd PI'.sub
           rw[zB] at l1
           refine⟨pp,D,_,_,rfl,rfl,sD _ _ hpp,zK,by rw[zE,zE];exact zAl (zu (by omega)),fun pq hpq=>?_⟩
           refine⟨_,rfl,_,_,rfl,rfl,?_⟩
           refine⟨pq,_,?_,(s5.trans sD).trans (zG hpq),by rw[zK,<-zj],PI'⟩
           rfl
     . refine ifF (zS (by omega)) ?_
       have ea:a'=pt.length:=by have:=PI.at_le;omega
       subst ea
       have s05:=s4.trans s5
       have hfo5:=s5 _ _ hfo4
       have RF5:=RF4.same s5
       have hll5:=s5 _ _ hll4
       refine⟨_,rfl,.inl ⟨rfl,_,SqL.of hfo5⟩,_,rfl,pp,pt,rfl,SqL.of hpp,by omega,fun sp ms' hsp pm' so'=>?_⟩
       have s6:=zG (o:=.lst (ms'.map V.int)) hsp
       have nsp:sp≠fo:=fun z=>by
        have:H5 sp=none:=hsp
        rw[z,hfo5] at this;cases this
       refine⟨fo,_,.ref sp,rfl,rfl,s6 _ _ hfo5,by rw[zE];exact zu (by omega),?_⟩
       have RF7:zCc (upd (upd H5 sp (.lst (ms'.map V.int))) fo (.lst (as.map V.ref++[.ref sp]))) (as++[sp]) (fs++[ms']):=by
        refine zCc.off (zCc.snoc (RF5.same s6) zK) fun z=>?_
        rcases zJ.mp z with z | z
        . exact nfo z
        . exact nsp (zk.mp z).symm
       have s7:zAo H (upd (upd H5 sp (.lst (ms'.map V.int))) fo (.lst (as.map V.ref++[.ref sp]))):=zBZ (s05.trans s6) hfo
       have hfo7:(upd (upd H5 sp (.lst (ms'.map V.int))) fo (.lst (as.map V.ref++[.ref sp]))) fo=some (.lst ((as++[sp]).map V.ref)):=by rw[zK,zj];rfl
       have hk:∀q zs,q≠fo->H5 q=some (.lst zs)->(upd (upd H5 sp (.lst (ms'.map V.int))) fo (.lst (as.map V.ref++[.ref sp]))) q=some (.lst zs):=fun q zs nq e=>by rw[zf nq];exact s6 _ _ e
       have nllf:ll≠fo:=fun z=>by
        rw[z,hfo5] at hll5
        rw[ele] at hll5
        cases as with
        | nil=>cases hll5
        | cons u v=>cases hll5
       have nppf:pp≠fo:=fun z=>by
        rw[z,hfo5] at hpp
        cases pt with
        | nil=>exact PI.ne rfl
        | cons x l=>cases as with
         | nil=>cases hpp
         | cons u v=>cases hpp
       have hll7:=hk ll _ nllf hll5
       have hpp7:=hk pp _ nppf hpp
       generalize upd (upd H5 sp (.lst (ms'.map V.int))) fo (.lst (as.map V.ref++[.ref sp]))=H7 at RF7 s7 hfo7 hll7 hpp7 ⊢
       refine⟨_,rfl,ll,rfl,⟨_,SqL.of hll7⟩,[.ref pp],rfl,fun D hD=>?_⟩
       refine zDl (a:=ll) (xs:=le.map V.int) (fun i ys H8=>ys=((le.take i).filter fun y=>!decide (y∈pt)).map V.int/\H8=upd H7 D (.lst ys)) ⟨rfl,rfl⟩ (fun i ys H8 z=>?_) (fun i ys H8 z=>?_) (fun i v ys H8 hv z=>?_) (fun ys H8 z=>?_)
       . obtain⟨_,rfl⟩:=z
         exact SqL.of (by rw[zf (zo hll7 hD)];exact hll7)
       . obtain⟨rfl,_⟩:=z
         rw[zE]
         refine zAx (List.length_filter_le _ _) ?_
         rw[zd]
         exact zu (by omega)
       . obtain⟨rfl,rfl⟩:=z
         obtain⟨y,hy,rfl⟩:∃y,le[i]? = some y/\V.int y=v:=by
          rw[zZ] at hv
          cases e:le[i]? with
          | none=>rw[e] at hv;cases hv
          | some y=>rw[e] at hv;exact⟨y,rfl,zm hv⟩
         have st:(le.take (i+1)).filter (fun y=>!decide (y∈pt))=(le.take i).filter (fun y=>!decide (y∈pt))++[y].filter (fun y=>!decide (y∈pt)):=by rw[zAb,hy,List.filter_append];rfl
         refine⟨⟨rfl,rfl⟩,?_⟩
         refine⟨_,rfl,_,rfl,pp,_,rfl,.inl (SqL.of (by rw[zf (zo hpp7 hD)];exact hpp7)),rfl,zA8 _,_,rfl,?_⟩
         show (if (!inV (.int y) (pt.map V.int))=true then _ else _)
         rw[zBS]
         by_cases c2:y∈pt
         . rw[zQ c2]
           refine zCZ ⟨?_,rfl⟩
           rw[st,List.filter_cons_of_neg (by rw[zQ c2];decide),List.filter_nil,zr]
         . rw[zS c2]
           refine zCj ⟨_,rfl,zK,?_,zCt⟩
           rw[st,List.filter_cons_of_pos (by rw[zS c2];rfl),List.filter_nil,zj];rfl
       . obtain⟨rfl,rfl⟩:=z
         rw[zE,za (zH _)]
         have sD:=zG (o:=.lst ((le.filter fun y=>!decide (y∈pt)).map V.int)) hD
         have PS':=PS.step nd PI pm'
         have flen:(le.filter fun y=>!decide (y∈pt)).length<le.length:=by
          refine Nat.lt_of_le_of_ne (List.length_filter_le _ _) fun z=>?_
          have:=List.length_filter_eq_length_iff.mp z
          obtain⟨x,hx⟩:=List.exists_mem_of_ne_nil pt PI.ne
          have:=this x (PI.sub x hx)
          rw[zQ hx] at this
          cases this
         refine⟨_,_,D,_,as++[sp],fs++[ms'],rfl,flen,s7.trans sD,zK,sD _ _ hfo7,fun z=>?_,RF7.same sD,?_,?_,PS'⟩
         . rcases zJ.mp z with z | z
           . exact nfo z
           . exact nsp (zk.mp z).symm
         . have:=RF7.1
           rw[zB,zB] at this
           rw[zB,List.length_singleton]
           have:=RF5.1
           omega
         . rw[zB,List.length_singleton]
           omega
end
end K39
namespace K39
open PySem L2 WM
theorem zEy:∀(l:List Int)(k:Nat),(l.map V.int).eraseIdx k=(l.eraseIdx k).map V.int
 | [],_=>rfl
 | _::_,0=>rfl
 | x::r,k+1=>by
  show V.int x::(r.map V.int).eraseIdx k=V.int x::(r.eraseIdx k).map V.int
  rw[zEy r k]
theorem zDz:∀{l:List Int}{k:Nat}(h:k<l.length),(l[k]::l.eraseIdx k).Perm l
 | [],_,h=>absurd h (zBu _)
 | _::_,0,_=>zCD _
 | x::r,k+1,h=>by
  have hk:k<r.length:=by simpa using h
  show (r[k]::x::r.eraseIdx k).Perm (x::r)
  exact (List.Perm.swap x r[k] _).trans ((zDz hk).cons x)
structure PlR (ts:List T3)(xs:List Int)(p:Pln):Prop where
 pm:(zAK p).Perm xs
 gd:zFw p
 rs:zJL p
 ht:hgt p<=xs.length
 tie:TieOk ts p
 k1:zDh p
inductive zKd (ts:List T3):List (List Int)->List Pln->Prop
 | nil:zKd ts [] []
 | cons {f:List Int}{k:Pln}{fs:List (List Int)}{ks:List Pln}(h:PlR ts f k)(t:zKd ts fs ks):zKd ts (f::fs) (k::ks)
theorem zKd.snoc {ts:List T3}{f:List Int}{k:Pln}{fs:List (List Int)}{ks:List Pln}(h:zKd ts fs ks)(x:PlR ts f k):zKd ts (fs++[f]) (ks++[k]):=by
 induction h with
 | nil=>exact .cons x .nil
 | cons a _ ih=>exact .cons a ih
theorem zKd.all {ts:List T3}{fs:List (List Int)}{ks:List Pln}(h:zKd ts fs ks):(zAD ks).Perm fs.flatten/\zCS ks/\zGO ks/\zCs ks<=fs.flatten.length/\ks1 ks/\ks.length=fs.length/\∀k∈ks,∃f∈fs,PlR ts f k:=by
 induction h with
 | nil=>exact⟨.nil,trivial,trivial,zH _,trivial,rfl,fun k hk=>by cases hk⟩
 | cons x _ ih=>
  obtain⟨a,b,c,d,e,g,i⟩:=ih
  refine⟨?_,⟨x.gd,b⟩,⟨x.rs,c⟩,?_,⟨x.k1,e⟩,by rw[zY,zY,g],fun k hk=>?_⟩
  . rw[zAD,zBN];exact x.pm.append a
  . rw[zCs,zBN,zB]
    have:=x.ht
    omega
  . rcases zR.mp hk with rfl | hk
    . exact⟨_,zT,x⟩
    . obtain⟨f,h1,h2⟩:=i k hk
      exact⟨f,zN _ h1,h2⟩
theorem zEb {fs:List (List Int)}(h:∀f∈fs,f≠[]):fs.length<=fs.flatten.length:=by
 induction fs with
 | nil=>exact zH _
 | cons f fs ih=>
  have:=ih fun g hg=>h g (zN _ hg)
  have:0<f.length:=zAi.mpr (h f zT)
  rw[zY,zBN,zB]
  omega
theorem PlR.build {ts:List T3}{xs ow so le:List Int}{fs:List (List Int)}{ks:List Pln}(pm:(ow++le).Perm xs)(nd:xs.Nodup)(ps:so.Perm ow)(st:so.Pairwise (· <= ·))(ne:ow≠[])(pf:fs.flatten.Perm le)(ok:zCd ts le fs)(R:zKd ts fs ks)(h64:xs.length<64):PlR ts xs (.mk so ks):=by
 obtain⟨a,b,c,d,e,g,i⟩:=R.all
 have pl:(zAD ks).Perm le:=a.trans pf
 have pmA:(so++zAD ks).Perm xs:=(ps.append pl).trans pm
 have ndA:(zAK (.mk so ks)).Nodup:=by rw[zAK];exact pmA.nodup_iff.mpr nd
 have ndA':=ndA
 rw[zAK] at ndA'
 have ll:ow.length+le.length=xs.length:=by rw[<-zB];exact pm.length_eq
 have ol:0<ow.length:=zAi.mpr ne
 have fl:=zEb ok.ne
 have fl':=pf.length_eq
 refine⟨by rw[zAK];exact pmA,⟨fun z=>ne (List.perm_nil.mp (z ▸ ps.symm)),b⟩,⟨?_,c⟩,by rw[hgt];omega,?_,⟨by omega,e⟩⟩
 . exact (st.and (zAt.mp ndA').1).imp fun h=>by
    have:=h.1
    have:=h.2
    omega
 . intro x y l A hx hy
   rw[zAK] at hx hy
   have kid:∀z,z∈so++zAD ks->z∉so->∃k∈ks,z∈zAK k:=fun z hz nz=>zH4 ((zJ.mp hz).resolve_left nz)
   have up:∀u v,u∈so->v∈so++zAD ks->∃r,chO v (.mk so ks)=some r/\u∈r:=fun u v hu hv=>by
    by_cases cv:v∈so
    . exact⟨so,zM1 cv,hu⟩
    . obtain⟨k,hk,hvk⟩:=kid v hv cv
      obtain⟨r,hr⟩:=zFX hvk
      exact⟨so++r,by rw[zKQ ndA hk hvk,hr];rfl,zJ.mpr (.inl hu)⟩
   by_cases cx:x∈so
   . exact .inl (up x y cx hy)
   . by_cases cy:y∈so
     . exact .inr (up y x cy hx)
     . obtain⟨k,hk,hxk⟩:=kid x hx cx
       obtain⟨f,hf,Rf⟩:=i k hk
       have hyl:y∈le:=pl.mem_iff.mp ((zJ.mp hy).resolve_left cy)
       have hyk:y∈zAK k:=Rf.pm.mem_iff.mpr (ok.cl f hf x (Rf.pm.mem_iff.mp hxk) y l A hyl)
       have dn:∀u v,v∈zAK k->(∃r,chO v k=some r/\u∈r)->∃r,chO v (.mk so ks)=some r/\u∈r:=fun u v hv ⟨r,hr,hu⟩=>⟨so++r,by rw[zKQ ndA hk hv,hr];rfl,zJ.mpr (.inr hu)⟩
       exact (Rf.tie x y l A hxk hyk).imp (dn x y hyk) (dn y x hxk)
theorem zCd.join {ts:List T3}{xs f g:List Int}{fs:List (List Int)}(h:zCd ts xs (f::g::fs)):zCd ts xs ((f++g)::fs):=by
 refine⟨fun a ha=>?_,fun a ha x hx y l A hy=>?_⟩
 . rcases zR.mp ha with rfl | ha
   . exact fun z=>h.ne f zT (List.append_eq_nil_iff.mp z).1
   . exact h.ne a (zN _ (zN _ ha))
 . rcases zR.mp ha with rfl | ha
   . rcases zJ.mp hx with hx | hx
     . exact zJ.mpr (.inl (h.cl f zT x hx y l A hy))
     . exact zJ.mpr (.inr (h.cl g (zN _ zT) x hx y l A hy))
   . exact h.cl a (zN _ (zN _ ha)) x hx y l A hy
theorem zCd.rev {ts:List T3}{xs:List Int}{fs:List (List Int)}(h:zCd ts xs fs):zCd ts xs fs.reverse:=⟨fun f hf=>h.ne f (List.mem_reverse.mp hf),fun f hf=>h.cl f (List.mem_reverse.mp hf)⟩
theorem zHI (fs:List (List Int)):fs.reverse.flatten.Perm fs.flatten:=(List.reverse_perm fs).flatten
theorem zGE {H:Hp}{t a:Addr}{N:Nat}{ns:List Int}(T:zAE H t N)(h:H a=some (.lst (ns.map V.int))):a≠t:=fun z=>by
 obtain⟨p,ms,sp,re,e,_⟩:=T
 rw[z,e] at h
 cases ns with
 | nil=>cases h
 | cons x l=>cases h
theorem zIz {H:Hp}{t a:Addr}{N:Nat}{rs:List Addr}(T:zAE H t N)(h:H a=some (.lst (rs.map V.ref))):a≠t:=fun z=>by
 obtain⟨p,ms,sp,re,e,_⟩:=T
 rw[z,e] at h
 cases rs with
 | nil=>cases h
 | cons x l=>cases l with
  | nil=>cases h
  | cons y l=>cases h
theorem zBp {H:Hp}{t b:Addr}{N:Nat}{ys:List V}(T:zAE H t N)(h:H b=some (.tup ys)):b≠t:=by
 obtain⟨p,ns,sp,re,e1,_⟩:=T
 exact zDe h e1 (by intro z;cases z)
theorem zCc.sm {H H':Hp}{t:Addr}{N:Nat}{rs:List Addr}{R:List (List Int)}(h:zCc H rs R)(T:zAE H t N)(k:Sm t H H'):zCc H' rs R:=⟨h.1,fun i r row a b=>k _ _ (zGE T (h.2 i r row a b)) (h.2 i r row a b)⟩
theorem zDQ.sm {H H':Hp}{sl t:Addr}{N:Nat}{R:List (List Int)}(h:zDQ H sl R)(T:zAE H t N)(k:Sm t H H'):zDQ H' sl R:=by
 obtain⟨rs,a,b⟩:=h
 exact⟨rs,k _ _ (zIz T a) a,b.sm T k⟩
theorem zJU {H H':Hp}{t:Addr}{N:Nat}(T:zAE H t N)(k:Sm t H H'){p:Pln}{v:V}(S:zAj H v (plD p)):zAj H' v (plD p):=zCn (fun b ys e=>k _ _ (zBp T e) e) p S
theorem zHg {H H':Hp}{t:Addr}{N:Nat}(T:zAE H t N)(k:Sm t H H'){ks:List Pln}{zs:List V}(S:zq H zs (zBa ks)):zq H' zs (zBa ks):=zBD (fun b ys e=>k _ _ (zBp T e) e) ks S
theorem zHZ {H:Hp}:∀{zs:List V}{ds:List PyData}{z:V}{d:PyData},zq H zs ds->zAj H z d->zq H (zs++[z]) (ds++[d]):=by
 intro zs
 induction zs with
 | nil=>intro ds z d h s;cases h;exact .cons s .nil
 | cons y ys ih=>
  intro ds z d h s
  cases h with
  | cons a b=>exact .cons a (ih b s)
noncomputable def spRpl (m:Nat):Sp:=fun vs H Q _=>∃(t tp bl la:Addr)(n:Int)(ts:List T3)(N:Nat)(xs:List Int),vs=[.ref t,.ref bl,.ref la]/\zBk H t tp N/\N+4*xs.length<900000/\zDQ H bl (zG1 ts n)/\GW n ts/\H la=some (.lst (xs.map V.int))/\xs.Nodup/\(∀x∈xs,0<=x/\x<n)/\1<=xs.length/\xs.length<=m/\xs.length<64 /\
 ∀(v:V)(p:Pln)(H':Hp),Sm t H H'->zBk H' t tp (N+4*xs.length)->zAj H' v (plD p)->PlR ts xs p->Q v H'
structure RpI (H0 H:Hp)(t tp pl:Addr)(N:Nat)(fs:List (List Int)):Prop where
 sm:Sm t H0 H
 tape:zBk H t tp N
 fr:H0 pl=none
 nt:pl≠t
 np:pl≠tp
 at':∃as:List Addr,H pl=some (.lst (as.map V.ref))/\pl∉as/\zCc H as fs
noncomputable def tRp:TS:=fun D σ H=>∃(H0:Hp)(ts:List T3)(xs:List Int)(t tp bl la lf ow:Addr)(N:Nat)(v5:Option V)(pl:Addr)(fs:List (List Int)),σ=[some (.ref t),some (.ref bl),some (.ref la),some (.ref lf),some (.ref ow),v5,some (.ref pl)]/\RpI H0 H t tp pl N fs/\N<950000/\xs.length<64/\fs.flatten.Perm xs/\zCd ts xs fs /\
 ∀(pl:Addr)(fs:List (List Int))(H':Hp),RpI H0 H' t tp pl (N+1) fs->fs.flatten.Perm xs->zCd ts xs fs->D.nx [some (.ref t),some (.ref bl),some (.ref la),some (.ref lf),some (.ref ow),v5,some (.ref pl)] H'
end K39
namespace K39
open PySem L2 WM
theorem zKt {H:Hp}{as:List Addr}{fs:List (List Int)}(h:zCc H as fs):zCc H as.reverse fs.reverse:=by
 refine⟨by rw[zBU,zBU,h.1],fun i r row e1 e2=>?_⟩
 have hi:i<as.length:=by have:=(zM.mp e1).1;rwa [zBU] at this
 rw[List.getElem?_reverse hi] at e1
 rw[List.getElem?_reverse (by rw[<-h.1];exact hi),<-h.1] at e2
 exact h.2 _ r row e1 e2
section
variable {P:Program}{w:World}{K:PySem.W.Frag}{mg:Str->Option Value}{base:Heap}
theorem zGz:zAN ["_law_tape_here", "_law_beside_each", "_law_places", "_law_left", "_law_own", "_law_turn", "_law_parts_here"] ["_law_tape_here", "_law_beside_each", "_law_places"] (defScope sRpl):=⟨rfl,rfl,rfl,by decide +kernel,rfl,by decide +kernel,by decide +kernel⟩
theorem zLm {f fD fP:Addr}{fd' fdD fdP:FuncData}(F:Fun K "_law_right_plan" "_law_right_plan" sRpl f fd') (bF:zAI K fd' ["_law_tape_here", "_law_beside_each", "_law_places"] []) (mF:mg "_law_right_plan" = some (.ref f)) (FD:Fun K "_law_draw" "_law_draw" zEC fD fdD) (bD:zAI K fdD ["_law_tape_here", "_law_many"] []) (mD:mg "_law_draw" = some (.ref fD))
 (FP:Fun K "_law_parts" "_law_parts" sPar fP fdP) (bP:zAI K fdP ["_law_beside_each", "_law_places"] []) (mP:mg "_law_parts" = some (.ref fP)) (mLen:mg "len" = none) (mRange:mg "range" = none) (mTuple:mg "tuple" = none) (mList:mg "list" = none) (mSorted:mg "sorted" = none) (mMin:mg "min" = none):∀m:Nat,zAs P w K mg base CX0 (m+2) f fd' ["_law_tape_here", "_law_beside_each", "_law_places"] (spRpl m)
 | 0=>F.ok zGz (fun vs H Q E h=>by obtain⟨t,tp,bl,la,n,ts,N,xs,rfl,_⟩:=h;rfl) (fun cdv A outer s H vs Q E hr h=>by
  obtain⟨t,tp,bl,la,n,ts,N,xs,rfl,_,_,_,_,_,_,_,h1,h0,_⟩:=h
  omega)
 | m+1=>by
  have GR:=zLm F bF mF FD bD mD FP bP mP mLen mRange mTuple mList mSorted mMin m
  have GD:zAs P w K mg base CX0 (m+2) fD fdD ["_law_tape_here", "_law_many"] zEQ:=(zDd FD mLen).mono (by omega)
  have GP:zAs P w K mg base CX0 (m+2) fP fdP ["_law_beside_each", "_law_places"] spPar:=(ok_par FP mSorted mLen).mono (by omega)
  refine F.ok zGz (fun vs H Q E h=>?_) (fun cdv A outer s H vs Q E hr h=>?_)
  . obtain⟨t,tp,bl,la,n,ts,N,xs,rfl,_⟩:=h
    rfl
  . obtain⟨t,tp,bl,la,n,ts,N,xs,rfl,TP,hN,SB,G,hla,nd,rng,h1,hm,h64,k⟩:=h
    refine⟨_,zV (zAL (i:=3) zGz.nd rfl (Or.inl rfl) (zAv zB3 (by rfl) mList (by decide +kernel) (zC (pv 2) zL)))
     (zV (zAL (i:=4) zGz.nd rfl (Or.inl rfl) (zBx zL))
     (zV (zCI PassesOwn.never rfl (zBw rfl mRange (zC (zAz zCK zX (zl GD hr rfl mD FD.kp bD .nil zAU (zC (pv 0) (zC (zn (zGm rfl) (by rfl) mMin (by decide +kernel) (zC zX (zC (zn zy (by rfl) mLen PySem.boot_len (zC (pv 2) zL)) zL))) zL)))) zL)) (zAX (i:=5) zGz.nd rfl (Or.inl rfl))
      (ze (zCW (zFn PySem.F.plainAttrs_list PySem.F.slot_list_append PySem.F.type_list_append zCY (pv 4)
       (zC (zFn PySem.F.plainAttrs_list PySem.F.slot_list_pop PySem.F.type_list_pop zHq (pv 3)
        (zC (zl GD hr rfl mD FD.kp bD .nil zAU (zC (pv 0) (zC (zn zy (by rfl) mLen PySem.boot_len (zC (pv 3) zL)) zL))) zL)) zL)))))
     (zV (zAL (i:=6) zGz.nd rfl (Or.inl rfl) (zl GP hr rfl mP FP.kp bP .nil zAU (zC (pv 1) (zC (pv 3) zL))))
     (zV (zIU (u':=tRp) (zBc (PW.pt (zCV (zAF zEf (zn zy (by rfl) mLen PySem.boot_len (zC (pv 6) zL)) zX (zAg _)) (zCF (zAF zDS (zl GD hr rfl mD FD.kp bD .nil zAU (zC (pv 0) (zCh zL))) zX (zAg _)))))
      (ze (zAL (i:=6) zGz.nd rfl (Or.inl rfl) (zAz zGW (zBx (zC (zAz zGW (zAM zAw (pv 6) zX (fun _ _=>rfl)) (zAM zAw (pv 6) zX (fun _ _=>rfl))) zL)) (zA5 zC2 (pv 6) (zBO zX) zBP)))) zAZ) ?i1)
     (zV (zIU (u':=tRp) (zBc (zAF zDS (zl GD hr rfl mD FD.kp bD .nil zAU (zC (pv 0) (zCh zL))) zX (zAg _))
      (ze (zCW (pe_bm0 PySem.F.plainAttrs_list PySem.F.slot_list_reverse PySem.F.type_list_reverse zIY (pv 6)))) zAZ) ?i2)
     (ze (zAH (zAm (zC (zAv zAp (by rfl) mTuple (by decide +kernel) (zC (zn zB2 (by rfl) mSorted (by decide +kernel) (zC (pv 4) zL)) zL))
      (zC (zAv zAp (by rfl) mTuple (by decide +kernel) (zC (zCO (own:=["_law_part"]) (cn:=["_law_tape_here", "_law_beside_each"]) (ci:=[0,1]) rfl (csc rfl rfl) ⟨rfl,rfl,rfl,rfl,rfl,rfl,trivial⟩ rfl (zDu (pv 6)) (fun _ _ _ _=>zAX (i:=0) (zDT rfl) rfl (Or.inl rfl)) (fun _ _ _ _=>zCm)
       (fun _ _ _ _=>zl GR hr rfl mF F.kp bF .nil zAU (zC (pv 1) (zC (pv 2) (zC (pv 0) zL))))) zL)) zL)))))))))),?_⟩
    case i1=>
     rintro D σ H1 ⟨H0,ts,xs,t,tp,bl,la,lf,ow,N,v5,pl,fs,rfl,I,hN,hx,pf,ok,kk⟩
     obtain⟨as,hpl,npl,RF⟩:=I.at'
     have fl:=zEb ok.ne
     have fl':=pf.length_eq
     refine⟨_,rfl,pl,_,rfl,.inl (SqL.of hpl),_,_,rfl,rfl,_,rfl,?_⟩
     rw[zE]
     by_cases c:1<as.length
     . refine ifT (zQ (by omega)) ?_
       refine⟨_,rfl,t,tp,N,4,rfl,I.tape,by omega,by decide,by decide,fun r H2 r0 r4 T2 e2=>?_⟩
       have sm2:Sm t H1 H2:=fun b o nb e=>by rw[e2 b nb];exact e
       have RF2:=RF.sm ⟨tp,I.tape⟩ sm2
       have hpl2:=sm2 _ _ I.nt hpl
       have I2:RpI H0 H2 t tp pl (N+1) fs:=⟨I.sm.trans sm2,T2,I.fr,I.nt,I.np,as,hpl2,npl,RF2⟩
       refine⟨rfl,_,rfl,zFV (fun _=>?_) (fun _=>?_)⟩
       . cases as with
         | nil=>exact absurd c (by simp)
         | cons a0 as=>cases as with
          | nil=>exact absurd c (by simp)
          | cons a1 as=>cases fs with
           | nil=>exact absurd RF.1 (by simp)
           | cons f0 fs=>cases fs with
            | nil=>exact absurd RF.1 (by simp)
            | cons f1 fs=>
            have h0:=RF2.2 0 a0 f0 rfl rfl
            have h1':=RF2.2 1 a1 f1 rfl rfl
            have hxl:f0.length+(f1.length+fs.flatten.length)=xs.length:=by
             rw[zBN,zBN,zB,zB] at fl'
             exact fl'
            refine⟨_,rfl,pl,_,_,.ref a0,rfl,rfl,SqL.of hpl2,(show atI _ ((0:Nat):Int)=_ from zCC rfl),_,rfl,pl,_,_,.ref a1,rfl,rfl,SqL.of hpl2,(show atI _ ((1:Nat):Int)=_ from zCC rfl),a0,a1,_,_,rfl,rfl,h0,h1',by rw[zE,zE];exact zAl (zu (by omega)),fun a2 ha2=>?_⟩
            refine⟨by show 1<=sizeLine;decide,fun a3 ha3=>?_⟩
            have s3:=(zG (o:=.lst (f0.map V.int++f1.map V.int)) ha2).trans (zG (o:=.lst [.ref a2]) ha3)
            refine⟨_,rfl,_,rfl,pl,_,rfl,SqL.of (s3 _ _ hpl2),fun a4 ha4=>?_⟩
            rw[show zEM ((a0::a1::as).map V.ref) (some 2) none=((a0::a1::as).map V.ref).drop 2 from zCr _ 2]
            have s4:=s3.trans (zG (o:=.lst (((a0::a1::as).map V.ref).drop 2)) ha4)
            have l1:=RF.1
            rw[zY,zY,zY,zY] at l1
            rw[zY,zY] at fl
            refine⟨a3,a4,_,_,rfl,rfl,zG ha4 _ _ zK,zK,by show [V.ref a2].length+(as.map V.ref).length<=_;rw[zE,List.length_singleton];exact zAl (zu (by omega)),fun a5 ha5=>?_⟩
            have s5:=s4.trans (zG (o:=.lst ([.ref a2]++as.map V.ref)) ha5)
            have n2:H2 a2=none:=ha2
            have n5:H2 a5=none:=zAo.none s4 ha5
            have h2':(upd (upd (upd (upd H2 a2 (.lst (f0.map V.int++f1.map V.int))) a3 (.lst [.ref a2])) a4 (.lst (((a0::a1::as).map V.ref).drop 2))) a5 (.lst ([.ref a2]++as.map V.ref))) a2=some (.lst ((f0++f1).map V.int)):=by
             rw[zj]
             exact zG ha5 _ _ (zG ha4 _ _ (zG ha3 _ _ zK))
            have n52:a5≠a2:=fun z=>by
             have h2'':(upd (upd (upd H2 a2 (.lst (f0.map V.int++f1.map V.int))) a3 (.lst [.ref a2])) a4 (.lst (((a0::a1::as).map V.ref).drop 2))) a2=some (.lst (f0.map V.int++f1.map V.int)):=zG ha4 _ _ (zG ha3 _ _ zK)
             rw[z,h2''] at ha5;cases ha5
            have hr5:=RF2.same s5
            refine kk a5 ((f0++f1)::fs) _ ⟨I2.sm.trans (Sm.of s5),T2.keepF (fun o e=>s5 _ _ e) (fun o e=>s5 _ _ e) (zH _),zFR I2.sm (zAE.ne ⟨tp,T2⟩ n5) n5,zAE.ne ⟨tp,T2⟩ n5,(zBk.ne2 T2 n5).2,a2::as,zK,fun z=>?_,⟨?_,fun i r row e1 e2=>?_⟩⟩ ?_ ok.join
            . rcases zR.mp z with z | z
              . exact n52 z
              . obtain⟨i,hi,e⟩:=zAW z
                have hif:i<fs.length:=by omega
                have:=RF2.2 (i+2) a5 fs[i] (by rw[List.getElem?_cons_succ,List.getElem?_cons_succ,zF hi,e]) (by rw[List.getElem?_cons_succ,List.getElem?_cons_succ,zF hif])
                rw[n5] at this;cases this
            . rw[zY,zY];omega
            . cases i with
              | zero=>cases e1;cases e2;exact h2'
              | succ i=>exact hr5.2 (i+2) r row (by simpa using e1) (by simpa using e2)
            . rw[zBN,zAc]
              rw[zBN,zBN] at pf
              exact pf
       . exact kk pl fs H2 I2 pf ok
     . refine ifF (zS (by omega)) (zCZ ?_)
       exact kk pl fs H1 ⟨I.sm,I.tape.keepF (fun o e=>e) (fun o e=>e) (by omega),I.fr,I.nt,I.np,I.at'⟩ pf ok
    case i2=>
     rintro D σ H1 ⟨H0,ts,xs,t,tp,bl,la,lf,ow,N,v5,pl,fs,rfl,I,hN,hx,pf,ok,kk⟩
     obtain⟨as,hpl,npl,RF⟩:=I.at'
     refine⟨_,rfl,t,tp,N,2,rfl,I.tape,by omega,by decide,by decide,fun r H2 r0 r4 T2 e2=>?_⟩
     have sm2:Sm t H1 H2:=fun b o nb e=>by rw[e2 b nb];exact e
     have RF2:=RF.sm ⟨tp,I.tape⟩ sm2
     have hpl2:=sm2 _ _ I.nt hpl
     refine⟨rfl,_,rfl,zFV (fun _=>?_) (fun _=>?_)⟩
     . refine⟨_,rfl,.inl ⟨rfl,_,SqL.of hpl2⟩,pl,_,rfl,rfl,hpl2,?_⟩
       rw[<-List.map_reverse]
       exact kk pl fs.reverse _ ⟨(I.sm.trans sm2).chg I.fr,T2.keepF (fun o e=>by rw[zf I.nt.symm];exact e) (fun o e=>by rw[zf I.np.symm];exact e) (zH _),I.fr,I.nt,I.np,as.reverse,zK,fun z=>npl (List.mem_reverse.mp z),(zKt RF2).off fun z=>npl (List.mem_reverse.mp z)⟩ ((zHI fs).trans pf) ok.rev
     . exact kk pl fs H2 ⟨I.sm.trans sm2,T2,I.fr,I.nt,I.np,as,hpl2,npl,RF2⟩ pf ok
    obtain⟨ns0,sp0,re0,ht0,hp0,_⟩:=id TP
    have TA:zAE H t N:=⟨tp,TP⟩
    refine⟨_,rfl,la,_,rfl,.inl (SqL.of hla),fun lf hlf=>?_⟩
    have nlt:lf≠t:=(zo ht0 hlf).symm
    have nlp:lf≠tp:=(zo hp0 hlf).symm
    refine⟨zb _,fun D hD=>?_⟩
    have nDl:D≠lf:=fun z=>by rw[z,zK] at hD;cases hD
    have hD0:H D=none:=by rw[zf nDl] at hD;exact hD
    have nDt:D≠t:=(zo ht0 hD0).symm
    have nDp:D≠tp:=(zo hp0 hD0).symm
    have s1:zAo H (upd (upd H lf (.lst (xs.map V.int))) D (.lst [])):=(zG hlf).trans (zG hD)
    have hlf1:(upd (upd H lf (.lst (xs.map V.int))) D (.lst [])) lf=some (.lst (xs.map V.int)):=by rw[zf nDl.symm,zK]
    have hD1:(upd (upd H lf (.lst (xs.map V.int))) D (.lst [])) D=some (.lst (([]:List Int).map V.int)):=zK
    have T1:zBk (upd (upd H lf (.lst (xs.map V.int))) D (.lst [])) t tp N:=TP.keepF (fun o e=>s1 _ _ e) (fun o e=>s1 _ _ e) (zH _)
    generalize upd (upd H lf (.lst (xs.map V.int))) D (.lst [])=H1 at s1 hlf1 hD1 T1 ⊢
    refine⟨_,rfl,_,rfl,la,_,rfl,.inl (SqL.of (s1 _ _ hla)),3,_,rfl,?_⟩
    rw[zE]
    obtain⟨mn,emn⟩:∃mn:Int,(if (xs.length:Int)<3 then (xs.length:Int) else 3)=mn:=⟨_,rfl⟩
    rw[emn]
    have hmn:1<=mn/\mn<=3/\mn<=xs.length:=by
     rw[<-emn]
     split <;> omega
    refine⟨t,tp,N,mn,rfl,T1,by omega,by omega,by omega,fun r H2 r0 r1 T2 e2=>?_⟩
    have sm2:Sm t H H2:=fun b o nb e=>by rw[e2 b nb];exact s1 _ _ e
    have hlf2:H2 lf=some (.lst (xs.map V.int)):=by rw[e2 lf nlt];exact hlf1
    have hD2:H2 D=some (.lst (([]:List Int).map V.int)):=by rw[e2 D nDt];exact hD1
    clear hlf1 hD1 T1 s1
    refine⟨_,_,rfl,rfl,1+r,rfl,by omega,by omega,zCL (lo:=0) (n:=(1+r).toNat) (fun q σ H3=>∃(v5:Option V)(ow left:List Int),σ=[some (.ref t),some (.ref bl),some (.ref la),some (.ref lf),some (.ref D),v5,none]/\ow.length=q/\(ow++left).Perm xs/\H3 lf=some (.lst (left.map V.int))/\H3 D=some (.lst (ow.map V.int))/\zBk H3 t tp (N+1+q)/\Sm t H H3)
     ⟨none,[],xs,rfl,rfl,zCD _,hlf2,hD2,T2,sm2⟩ ?turn ?after⟩
    case turn=>
     rintro q σ H3 hq ⟨v5,ow,left,rfl,hl,hp,hlf3,hD3,TP3,s3⟩
     have hll:ow.length+left.length=xs.length:=by
      have:=hp.length_eq
      rw[zB] at this
      exact this
     refine⟨_,rfl,.inl ⟨rfl,_,SqL.of hD3⟩,_,rfl,.inl ⟨rfl,_,SqL.of hlf3⟩,?_⟩
     refine⟨_,rfl,_,rfl,lf,_,rfl,.inl (SqL.of hlf3),t,tp,N+1+q,_,rfl,TP3,by omega,by rw[zE];omega,by rw[zE];omega,fun rr H4 h0 h1 TP4 e4=>?_⟩
     rw[zE] at h1
     have hlt:rr.toNat<left.length:=by omega
     refine⟨lf,left.map V.int,rr,rr.toNat,.int left[rr.toNat],rfl,rfl,by rw[e4 lf nlt];exact hlf3,by omega,by omega,PySem.StrLaws.seqIndex_nonneg h0 (by rw[zE];omega),by rw[zZ,zF hlt];rfl,?_⟩
     rw[zEy left rr.toNat]
     have s4:Sm t H H4:=fun b o nb e=>by rw[e4 b nb];exact s3 b o nb e
     refine⟨D,_,_,rfl,rfl,by rw[zf nDl,e4 D nDt];exact hD3,by rw[zE];exact zu (by omega),?_⟩
     refine⟨_,ow++[left[rr.toNat]],left.eraseIdx rr.toNat,rfl,by rw[zB,hl];rfl,?_,by rw[zf nDl.symm,zK],by rw[zj];exact zK,TP4.keepF (fun o e=>by rw[zf nDt.symm,zf nlt.symm];exact e) (fun o e=>by rw[zf nDp.symm,zf nlp.symm];exact e) (by omega),(s4.chg hlf).chg hD0⟩
     refine List.Perm.trans ?_ hp
     rw[zAc]
     exact (zDz hlt).append_left ow
    case after=>
     rintro σ H3 ⟨v5,ow,left,rfl,hl,hp,hlf3,hD3,TP3,s3⟩
     have hll:ow.length+left.length=xs.length:=by
      have:=hp.length_eq
      rw[zB] at this
      exact this
     have ndp:=hp.nodup_iff.mpr nd
     obtain⟨ndo,ndl,_⟩:=zAt.mp ndp
     have ol:1<=ow.length:=by omega
     have TA3:zAE H3 t _:=⟨tp,TP3⟩
     have SB3:=SB.sm TA s3
     refine⟨_,rfl,_,rfl,bl,lf,n,ts,left,rfl,SB3,G,hlf3,ndl,fun x hx=>rng x (hp.mem_iff.mp (zJ.mpr (.inr hx))),by omega,fun pl fs H4 hpl s4 ⟨as,hpl4,RF⟩ pf ok=>?_⟩
     have nplt:pl≠t:=zAE.ne TA3 hpl
     have nplas:pl∉as:=fun z=>by
      obtain⟨i,hi,e⟩:=zAW z
      have hif:i<fs.length:=by rw[<-RF.1];exact hi
      have h:=RF.2 i pl fs[i] (by rw[zF hi,e]) (zF hif)
      rw[hpl4] at h
      have hne:=ok.ne _ (zAS hif)
      cases as with
      | nil=>cases z
      | cons u v=>generalize fs[i]=g at h hne;cases g with
       | nil=>exact hne rfl
       | cons x l=>cases h
     have I4:RpI H3 H4 t tp pl (N+1+(1+r).toNat) fs:=⟨Sm.of s4,TP3.keepF (fun o e=>s4 _ _ e) (fun o e=>s4 _ _ e) (zH _),hpl,nplt,(zBk.ne2 TP3 hpl).2,as,hpl4,nplas,RF⟩
     refine⟨H3,ts,left,t,tp,bl,la,lf,D,_,v5,pl,fs,rfl,I4,by omega,by omega,pf,ok,fun pl fs H5 I5 pf ok=>?_⟩
     refine⟨H3,ts,left,t,tp,bl,la,lf,D,_,v5,pl,fs,rfl,I5,by omega,by omega,pf,ok,fun pl fs H6 I6 pf ok=>?_⟩
     clear I4 I5 hpl4 nplas RF s4 hpl nplt
     obtain⟨as,hpl6,npl,RF⟩:=I6.at'
     have hD6:=I6.sm _ _ nDt hD3
     have SB6:=SB3.sm TA3 I6.sm
     refine⟨_,rfl,D,ow,rfl,SqL.of hD6,by omega,fun so ms hso pms sos=>?_⟩
     have s7:=zG (o:=.lst (ms.map V.int)) hso
     refine⟨so,_,rfl,.inl ⟨SqL.of zK,fun b hb=>?_⟩⟩
     have s8:=s7.trans (zG (o:=.tup (ms.map V.int)) hb)
     have hb8:(upd (upd H6 so (.lst (ms.map V.int))) b (.tup (ms.map V.int))) b=some (.tup (ms.map V.int)):=zK
     generalize upd (upd H6 so (.lst (ms.map V.int))) b (.tup (ms.map V.int))=H8 at s8 hb8 ⊢
     have T8:zBk H8 t tp (N+1+(1+r).toNat+1+1):=I6.tape.keepF (fun o e=>s8 _ _ e) (fun o e=>s8 _ _ e) (zH _)
     have SB8:=SB6.same s8
     have RF8:=RF.same s8
     have hpl8:=s8 _ _ hpl6
     have fl:=zEb ok.ne
     have fl':=pf.length_eq
     have sm08:Sm t H H8:=(s3.trans I6.sm).trans (Sm.of s8)
     refine⟨_,rfl,pl,rfl,⟨_,SqL.of hpl8⟩,[.ref t,.ref bl],rfl,fun D2 hD2=>?_⟩
     have nD2t:D2≠t:=zAE.ne ⟨tp,T8⟩ hD2
     have nD2p:D2≠tp:=(zBk.ne2 T8 hD2).2
     have sD:=zG (o:=.lst []) hD2
     refine zDl (a:=pl) (xs:=as.map V.ref) (fun i ys H9=>∃ks:List Pln,zKd ts (fs.take i) ks/\zq H9 ys (zBa ks)/\Sm t H8 H9/\zBk H9 t tp (N+1+(1+r).toNat+1+1+4*(fs.take i).flatten.length)/\H9 D2=some (.lst ys)/\i<=fs.length)
      ⟨[],by rw[zBA];exact .nil,.nil,Sm.of sD,T8.keepF (fun o e=>sD _ _ e) (fun o e=>sD _ _ e) (by omega),zK,zb _⟩ (fun i ys H9 z=>?_) (fun i ys H9 z=>?_) (fun i x ys H9 hx z=>?_) (fun ys H9 z=>?_)
     . obtain⟨_,_,_,sm9,_⟩:=z
       exact SqL.of (sm9 _ _ I6.nt hpl8)
     . obtain⟨ks,R,S9,_,_,_,hi⟩:=z
       have:=(R.all).2.2.2.2.2.1
       rw[zAf S9,zBz,this,zd]
       exact zu (by omega)
     . obtain⟨ks,R,S9,sm9,T9,hD9,hi⟩:=z
       obtain⟨a,ha,rfl⟩:∃a,as[i]? = some a/\V.ref a=x:=by
        rw[zZ] at hx
        cases e:as[i]? with
        | none=>rw[e] at hx;cases hx
        | some a=>rw[e] at hx;exact⟨a,rfl,zm hx⟩
       have hif:i<fs.length:=by rw[<-RF.1];exact (zM.mp ha).1
       have ef:fs[i]? = some fs[i]:=zF hif
       have hfm:fs[i]∈fs:=zAS hif
       have hrow:=RF8.2 i a _ ha ef
       generalize fs[i]=g at ef hfm hrow
       have etk:fs.take (i+1)=fs.take i++[g]:=by rw[zAb,ef];rfl
       have efl:(fs.take (i+1)).flatten.length=(fs.take i).flatten.length+g.length:=by rw[etk,zD8,zB]
       have ele:(fs.take (i+1)).flatten.length<=fs.flatten.length:=by
        have e:=zAd (i+1) fs
        conv=>rhs;rw[<-e]
        rw[List.flatten_append,zB]
        omega
       have gsub:g.Sublist fs.flatten:=List.sublist_flatten_of_mem hfm
       have gnd:g.Nodup:=(pf.nodup_iff.mpr ndl).sublist gsub
       have TA8:zAE H8 t _:=⟨tp,T8⟩
       have TA9:zAE H9 t _:=⟨tp,T9⟩
       refine⟨⟨rfl,rfl⟩,?_⟩
       refine zKb ?_
       refine⟨_,rfl,_,rfl,_,rfl,t,tp,bl,a,n,ts,_,g,rfl,T9,by omega,SB8.sm TA8 sm9,G,sm9 _ _ (zGE TA8 hrow) hrow,gnd,fun x hx=>rng x (hp.mem_iff.mp (zJ.mpr (.inr (pf.mem_iff.mp (gsub.subset hx))))),zAi.mpr (ok.ne g hfm),by omega,by omega,fun v p H10 sm10 T10 S10 R10=>?_⟩
       have hD10:=sm10 _ _ nD2t hD9
       have kT:∀b zs,H10 b=some (.tup zs)->upd H10 D2 (.lst (ys++[v])) b=some (.tup zs):=fun b zs e=>by rw[zf (zDe e hD10 (by intro z;cases z))];exact e
       refine⟨hD10,ks++[p],by rw[etk];exact R.snoc R10,?_,(sm9.trans sm10).chg hD2,T10.keepF (fun o e=>by rw[zf nD2t.symm];exact e) (fun o e=>by rw[zf nD2p.symm];exact e) (by omega),zK,hif⟩
       rw[zDC]
       exact zHZ (zBD kT ks (zHg TA9 sm10 S9)) (zCn kT p S10)
     . obtain⟨ks,R,S9,sm9,T9,hD9,hi⟩:=z
       rw[zE,RF.1,za (zH _)] at R T9
       refine⟨D2,_,rfl,.inl ⟨SqL.of hD9,fun c hc=>⟨by show 2<=sizeLine;decide,fun e he=>?_⟩⟩⟩
       have s10:=(zG (o:=.tup ys) hc).trans (zG (o:=.tup [.ref b,.ref c]) he)
       have hb10:=s10 _ _ (sm9 _ _ (zBp ⟨tp,T8⟩ hb8) hb8)
       refine k (.ref e) (.mk ms ks) _ ((sm08.trans sm9).trans (Sm.of s10)) (T9.keepF (fun o e=>s10 _ _ e) (fun o e=>s10 _ _ e) (by omega)) ?_ (PlR.build hp nd pms sos (fun z=>by rw[z] at ol;exact absurd ol (by simp)) pf ok R h64)
       rw[plD]
       exact .tup zK (.cons (.tup hb10 (zCA _)) (.cons (.tup (zG he _ _ zK) (zBD (fun b zs e=>s10 _ _ e) ks S9)) .nil))
end
end K39
namespace K39
open PySem L2 WM
noncomputable def Nn (x:Int):Prop:=0<=x/\x<=30
structure PlT (h m W:Nat)(p:Pln):Prop where
 ht:hgt p<=h
 wd:wid p<=W
 ln:(zAK p).length<=m
 gd:zFw p
 nn:∀x∈zAK p,Nn x
mutual
theorem zKA:∀(p:Pln),zFw p->(zAK p).length<=1000->zDh p/\1<=(zAK p).length
 | .mk ps ks,g,hl=>by
  rw[zFw] at g
  rw[zAK,zB] at hl
  have h1:=zDk ks g.2 (by omega)
  have h2:0<ps.length:=zAi.mpr g.1
  exact⟨⟨by omega,h1.1⟩,by rw[zAK,zB];omega⟩
theorem zDk:∀(ks:List Pln),zCS ks->(zAD ks).length<=1000->ks1 ks/\ks.length<=(zAD ks).length
 | [],_,_=>⟨trivial,zH _⟩
 | k::ks,g,hl=>by
  rw[zCS] at g
  rw[zAD,zB] at hl
  have a:=zKA k g.1 (by omega)
  have b:=zDk ks g.2 (by omega)
  refine⟨⟨a.1,b.1⟩,?_⟩
  rw[zAD,zB,zY]
  omega
end
theorem PlT.kid {h m W:Nat}{ps:List Int}{ks:List Pln}{k:Pln}(g:PlT h m W (.mk ps ks))(hk:k∈ks):PlT (h-1) (zAK k).length W k:=by
 obtain⟨a,w,b,c,d⟩:=g
 rw[wid] at w
 have:=zHT hk
 rw[hgt] at a
 rw[zFw] at c
 rw[zAK] at d
 have:=zCk hk
 exact⟨by omega,by omega,zH _,zEv c.2 hk,fun x hx=>d x (zJ.mpr (.inr (zC7 hx hk)))⟩
noncomputable def zLZ (kvs:List (Key×V)):Prop:=∀(x:Int)(v:V),zC1 kvs (Sum.inl x)=some v->∃y:Int,v = .int y/\Nn y
noncomputable def spCal (h:Nat):Sp:=fun vs H Q _=>∃(v:V)(d:Addr)(p:Pln)(kvs:List (Key×V))(m W:Nat),vs=[v,.ref d]/\zAj H v (plD p)/\PlT h m W p/\m<=1000/\W<64/\H d=some (.dK kvs)/\zLZ kvs/\∀(v':V)(p':Pln)(H':Hp),zAo H H'->zAj H' v' (plD p')->PlT h m W p'->(zAK p').length=(zAK p).length->hgt p'=hgt p->wid p'=wid p->Q v' H'
noncomputable def nmI (kvs:List (Key×V))(x:Int):Int:=match zC1 kvs (Sum.inl x) with
 | some (.int y)=>y
 | _=>x
theorem zLq {kvs:List (Key×V)}(ok:zLZ kvs)(x:Int):(zC1 kvs (Sum.inl x)).getD (.int x) = .int (nmI kvs x)/\(Nn x->Nn (nmI kvs x)):=by
 unfold nmI
 cases e:zC1 kvs (Sum.inl x) with
 | none=>exact⟨rfl,id⟩
 | some v=>
  obtain⟨y,rfl,hy⟩:=ok x v e
  exact⟨rfl,fun _=>hy⟩
section
variable {P:Program}{w:World}{K:PySem.W.Frag}{mg:Str->Option Value}{base:Heap}
theorem zMM:zAN ["_law_plan_here", "_law_names", "_law_places"] ["_law_plan_here", "_law_names"] (defScope sCal):=⟨rfl,rfl,rfl,by decide +kernel,rfl,by decide +kernel,by decide +kernel⟩
theorem zLp {f:Addr}{fd':FuncData}(F:Fun K "_law_called" "_law_called" sCal f fd') (bF:zAI K fd' ["_law_plan_here", "_law_names"] []) (mF:mg "_law_called" = some (.ref f)) (mTuple:mg "tuple" = none) (mSorted:mg "sorted" = none):∀h:Nat,zAs P w K mg base CX0 (h+1) f fd' ["_law_plan_here", "_law_names"] (spCal h)
 | 0=>F.ok zMM (fun vs H Q E h=>by obtain⟨v,d,p,kvs,m,W,rfl,_⟩:=h;rfl) (fun cdv A outer s H vs Q E hr h=>by
  obtain⟨v,d,⟨ps,ks⟩,kvs,m,W,rfl,_,g,_⟩:=h
  have:=g.ht
  rw[hgt] at this
  omega)
 | h+1=>by
  have GC:=zLp F bF mF mTuple mSorted h
  refine F.ok zMM (fun vs H Q E h=>?_) (fun cdv A outer s H vs Q E hr h=>?_)
  . obtain⟨v,d,p,kvs,m,W,rfl,_⟩:=h
    rfl
  . obtain⟨v,d,⟨ps,ks⟩,kvs,m,W,rfl,S,g,hm,hW,hd,ok,k⟩:=h
    have gw:=g.wd
    rw[wid] at gw
    have hu:=zIj hr
    obtain⟨a,b,c,zs,rfl,ha,hb,hc,al⟩:=zEY S
    have hzl:=zAf al
    rw[zBz] at hzl
    have gl:=g.ln
    rw[zAK,zB] at gl
    have gg:=g.gd
    rw[zFw] at gg
    have gk:=zDk ks gg.2 (by omega)
    refine⟨_,zV (zAL (i:=2) zMM.nd rfl (Or.inl rfl) (zAv zAp (by rfl) mTuple (by decide +kernel) (zC (zn zB2 (by rfl) mSorted (by decide +kernel) (zC (zCO (own:=["_law_one"]) (cn:=["_law_names"]) (ci:=[1]) rfl (csc rfl rfl) ⟨rfl,rfl,rfl,trivial⟩ rfl (zCg (zAM zAP (pv 0) zX (fun _ _=>rfl))) (fun _ _ _ _=>zAX (i:=0) (zDT rfl) rfl (Or.inl rfl)) (fun _ _ _ _=>zCm)
     (fun _ _ _ _=>zK4 hu (pv 1) (pv 0) (pv 0) ⟨rfl,rfl,rfl,rfl⟩)) zL)) zL)))
     (ze (zAH (zAm (zC (pv 2) (zC (zAv zAp (by rfl) mTuple (by decide +kernel) (zC (zCO (own:=["_law_one"]) (cn:=["_law_names"]) (ci:=[1]) rfl (csc rfl rfl) ⟨rfl,rfl,rfl,trivial⟩ rfl (zCg (zAM zAP (pv 0) zX (fun _ _=>rfl))) (fun _ _ _ _=>zAX (i:=0) (zDT rfl) rfl (Or.inl rfl)) (fun _ _ _ _=>zCm)
      (fun _ _ _ _=>zl GC hr rfl mF F.kp bF .nil zAU (zC (pv 0) (zC (pv 1) zL)))) zL)) zL))))),?_⟩
    refine⟨_,rfl,a,_,_,.ref b,rfl,rfl,SqT.of ha,rfl,b,rfl,⟨_,SqT.of hb⟩,[.ref d],rfl,fun D hD=>?_⟩
    refine zCl (a:=b) (xs:=ps.map V.int) (fun i ys H4=>ys=((ps.take i).map (nmI kvs)).map V.int/\H4=upd H D (.lst ys)) ⟨rfl,rfl⟩ (fun i ys H4 z=>?_) (fun i ys H4 z=>?_) (fun i v ys H4 hv z=>?_) (fun ys H4 z=>?_)
    . obtain⟨_,rfl⟩:=z
      exact SqT.of (by rw[zf (zo hb hD)];exact hb)
    . obtain⟨rfl,_⟩:=z
      rw[zE,zE,zd]
      exact zu (by omega)
    . obtain⟨rfl,rfl⟩:=z
      obtain⟨y,hy,rfl⟩:∃y,ps[i]? = some y/\V.int y=v:=by
       rw[zZ] at hv
       cases e:ps[i]? with
       | none=>rw[e] at hv;cases hv
       | some y=>rw[e] at hv;exact⟨y,rfl,zm hv⟩
      have hd4:(upd H D (.lst (((ps.take i).map (nmI kvs)).map V.int))) d=some (.dK kvs):=by rw[zf (zo hd hD)];exact hd
      refine⟨⟨rfl,rfl⟩,?_⟩
      refine zKb ?_
      refine⟨_,rfl,d,rfl,.inl ⟨kvs,.inl hd4⟩,_,rfl,_,rfl,_,zII.k (k:=Sum.inl y) hd4,?_⟩
      rw[(zLq ok y).1]
      refine⟨zK,?_,zCt⟩
      rw[zAb,hy,zj,zj];rfl
    . obtain⟨rfl,rfl⟩:=z
      rw[zE,za (zH _)]
      have s1:=zG (o:=.lst ((ps.map (nmI kvs)).map V.int)) hD
      refine⟨D,ps.map (nmI kvs),rfl,SqL.of zK,by rw[zE];omega,fun so ms hso pms sos=>?_⟩
      refine⟨so,_,rfl,.inl ⟨SqL.of zK,fun q hq=>?_⟩⟩
      have s2:=(s1.trans (zG (o:=.lst (ms.map V.int)) hso)).trans (zG (o:=.tup (ms.map V.int)) hq)
      have hq2:(upd (upd (upd H D (.lst ((ps.map (nmI kvs)).map V.int))) so (.lst (ms.map V.int))) q (.tup (ms.map V.int))) q=some (.tup (ms.map V.int)):=zK
      generalize upd (upd (upd H D (.lst ((ps.map (nmI kvs)).map V.int))) so (.lst (ms.map V.int))) q (.tup (ms.map V.int))=H2 at s2 hq2 ⊢
      have ml:ms.length=ps.length:=by rw[pms.length_eq,zE]
      have mnn:∀x∈ms,Nn x:=fun x hx=>by
       obtain⟨y,hy,rfl⟩:=zAY.mp (pms.mem_iff.mp hx)
       exact (zLq ok y).2 (g.nn y (by rw[zAK];exact zJ.mpr (.inl hy)))
      refine⟨_,rfl,_,rfl,a,_,_,.ref c,rfl,rfl,SqT.of (s2 _ _ ha),rfl,c,rfl,⟨_,SqT.of (s2 _ _ hc)⟩,[.ref d],rfl,fun D2 hD2=>?_⟩
      refine zCl (a:=c) (xs:=zs) (fun i ys H4=>∃js:List Pln,js.length=i/\zq H4 ys (zBa js)/\zAo H2 H4/\H4 D2=some (.lst ys)/\i<=ks.length/\zCS js/\(∀x∈zAD js,Nn x)/\(zAD js).length=(zAD (ks.take i)).length/\zCs js=zCs (ks.take i)/\zDX js=zDX (ks.take i))
       ⟨[],rfl,.nil,zG hD2,zK,zb _,trivial,(fun x hx=>by rw[zAD] at hx;cases hx),by rw[zBA],by rw[zBA],by rw[zBA]⟩ (fun i ys H4 z=>?_) (fun i ys H4 z=>?_) (fun i v ys H4 hv z=>?_) (fun ys H4 z=>?_)
      . obtain⟨_,_,_,s4,_⟩:=z
        exact SqT.of (s4 _ _ (s2 _ _ hc))
      . obtain⟨js,hj,S4,_,_,hi,_⟩:=z
        rw[zAf S4,zBz,hj]
        exact zu (by omega)
      . obtain⟨js,hj,S4,s4,h4,hi,gj,nj,lj,tj,wj⟩:=z
        obtain⟨kd,hk,Sk⟩:=zES al hv
        have hkm:=zi hk
        have s24:=s2.trans s4
        have gkid:=g.kid hkm
        have etk:ks.take (i+1)=ks.take i++[kd]:=by rw[zAb,hk];rfl
        refine⟨⟨rfl,rfl⟩,?_⟩
        refine zKb ?_
        refine⟨_,rfl,_,rfl,v,d,kd,kvs,(zAK kd).length,W,rfl,zg s24 Sk,gkid,by have:=zCM hkm;omega,hW,s24 _ _ hd,ok,fun v' p' H5 s5 S5 g5 l5 t5 w5=>?_⟩
        have h5:=s5 _ _ h4
        have kT:∀b zs,H5 b=some (.tup zs)->upd H5 D2 (.lst (ys++[v'])) b=some (.tup zs):=fun b zs e=>by rw[zf (zDe e h5 (by intro z;cases z))];exact e
        refine⟨h5,js++[p'],by rw[zB,hj];rfl,?_,zBZ (s4.trans s5) hD2,zK,(zM.mp hk).1,?_,fun x hx=>?_,?_,?_,?_⟩
        . rw[zDC]
          exact zHZ (zBD kT js (zBD (fun b zs e=>s5 _ _ e) js S4)) (zCn kT p' S5)
        . exact zC6 gj ⟨g5.gd,trivial⟩
        . rw[zBy,zJ] at hx
          rcases hx with hx | hx
          . exact nj x hx
          . rw[zAD,zAD,zr] at hx
            exact g5.nn x hx
        . rw[etk,zBy,zBy,zB,zB,lj]
          show _+(zAK p'++zAD []).length=_+(zAK kd++zAD []).length
          rw[zB,zB,l5]
        . rw[etk,zCv,zCv,tj]
          show max _ (max (hgt p') (zCs []))=max _ (max (hgt kd) (zCs []))
          rw[t5]
        . rw[etk,zC9,zC9,wj]
          show max _ (max (wid p') (zDX []))=max _ (max (wid kd) (zDX []))
          rw[w5]
      . obtain⟨js,hj,S4,s4,h4,hi,gj,nj,lj,tj,wj⟩:=z
        rw[hzl,za (zH _)] at lj tj wj
        refine⟨D2,_,rfl,.inl ⟨SqL.of h4,fun c2 hc2=>⟨by show 2<=sizeLine;decide,fun e he=>?_⟩⟩⟩
        have s5:=(zG (o:=.tup ys) hc2).trans (zG (o:=.tup [.ref q,.ref c2]) he)
        have el:(zAK (.mk ms js)).length=(zAK (.mk ps ks)).length:=by rw[zAK,zAK,zB,zB,ml,lj]
        have eh:hgt (.mk ms js)=hgt (.mk ps ks):=by rw[hgt,hgt,tj]
        have ew:wid (.mk ms js)=wid (.mk ps ks):=by rw[wid,wid,wj,ml,hj,hzl]
        refine k (.ref e) (.mk ms js) _ ((s2.trans s4).trans s5) ?_ ⟨by rw[eh];exact g.ht,by rw[ew];exact g.wd,by rw[el];exact g.ln,⟨fun z=>gg.1 (zBF.mp (by rw[<-ml,z];rfl)),gj⟩,fun x hx=>?_⟩ el eh ew
        . rw[plD]
          exact .tup zK (.cons (.tup (s5 _ _ (s4 _ _ hq2)) (zCA _)) (.cons (.tup (zG he _ _ zK) (zBD (fun b zs e=>s5 _ _ e) js S4)) .nil))
        . rw[zAK,zJ] at hx
          exact hx.elim (mnn x) (nj x)
end
end K39
namespace K39
open PySem L2 WM
section
variable {X:Cx}
noncomputable def rCatV:R2:=fun x y H Q=>∃(a b:Addr)(xs ys:List V),x = .ref a/\y = .ref b/\H a=some (.tup xs)/\H b=some (.tup ys)/\xs.length+ys.length<=sizeLine/\∀(p:Addr)(H':Hp),zAo H H'->H' p=some (.tup (xs++ys))->Q (.ref p) H'
theorem zFp:OpR X (binaryOp .Add) rCatV:=fun pins s σ H x y v u Q I rx ry h=>by
 obtain⟨a,b,xs,ys,rfl,rfl,ha,hb,hz,q⟩:=h
 refine zG9 pins s σ H _ _ v u Q I rx ry ⟨a,b,xs,ys,rfl,rfl,SqT.of ha,SqT.of hb,hz,fun e=>?_,fun _ e=>?_,fun _ _ p hp=>q p _ (zG hp) zK⟩
 . subst e;exact q b H (zAo.refl _) hb
 . subst e;exact q a H (zAo.refl _) (by rw[zr];exact ha)
noncomputable def rSlV:V->Option Int->Option Int->Hp->VK->Prop:=fun x lo hi H Q=>∃(a:Addr)(xs:List V),x = .ref a/\H a=some (.tup xs)/\∀(p:Addr)(H':Hp),zAo H H'->H' p=some (.tup (zEM xs lo hi))->Q (.ref p) H'
theorem zDt:SlR X rSlV:=fun pins s σ H x v vl vu lo hi sl Q I rx hs pl pu h=>by
 obtain⟨a,xs,rfl,ha,q⟩:=h
 refine zI7 pins s σ H _ v vl vu lo hi sl Q I rx hs pl pu ⟨a,xs,rfl,SqT.of ha,fun e=>?_,fun _ p hp=>q p _ (zG hp) zK⟩
 refine q a H (zAo.refl _) ?_
 have:zEM xs lo hi=xs:=by
  unfold zEM
  rw[e.1,e.2,zBI,Nat.sub_zero,za (zH _)]
 rw[this]
 exact ha
end
noncomputable def spPtu (h:Nat):Sp:=fun vs H Q _=>∃(t tp:Addr)(v:V)(p:Pln)(n:Int)(N m W:Nat),vs=[.ref t,v,.int n]/\zBk H t tp N/\N+5*(h+1)<900000/\1<=n/\n<=24/\zAj H v (plD p)/\PlT h m W p/\m<=400/\W<60 /\
 ∀(v':V)(p':Pln)(H':Hp),Sm t H H'->zBk H' t tp (N+5*(h+1))->zAj H' v' (plD p')->PlT (hgt p+1) (2*(zAK p).length) (wid p+1) p'->Q v' H'
theorem dic2 {a b:Int}(ha:Nn a)(hb:Nn b):zLZ (zCy [] [((Sum.inl a:Key),V.int b),((Sum.inl b:Key),V.int a)]):=fun x v h=>by
 have e:zCy [] [((Sum.inl a:Key),V.int b),((Sum.inl b:Key),V.int a)]=zD5 (zD5 [] (Sum.inl a) (V.int b)) (Sum.inl b) (V.int a):=rfl
 rw[e,zEF,zEF] at h
 split at h
 . cases h;exact⟨a,rfl,ha⟩
 . split at h
   . cases h;exact⟨b,rfl,hb⟩
   . cases h
theorem dic1 {a b:Int}(hb:Nn b):zLZ (zCy [] [((Sum.inl a:Key),V.int b)]):=fun x v h=>by
 have e:zCy [] [((Sum.inl a:Key),V.int b)]=zD5 [] (Sum.inl a) (V.int b):=rfl
 rw[e,zEF] at h
 split at h
 . cases h;exact⟨b,rfl,hb⟩
 . cases h
theorem zDb {H:Hp}:∀{zs:List V}{ks:List Pln}(i:Nat),zq H zs (zBa ks)->zq H (zs.take i) (zBa (ks.take i))/\zq H (zs.drop i) (zBa (ks.drop i))
 | zs,ks,0,S=>by rw[zBA,zBA,zBI,zBI];exact⟨.nil,S⟩
 | [],[],i+1,_=>⟨.nil,.nil⟩
 | [],k::ks,_+1,S=>by cases S
 | z::zs,[],_+1,S=>by cases S
 | z::zs,k::ks,i+1,S=>by
  rw[zBa] at S
  cases S with
  | cons a b=>
   obtain⟨h1,h2⟩:=zDb i b
   exact⟨.cons a h1,h2⟩
theorem zJD {H:Hp}:∀{zs:List V}{ds:List PyData}{ys:List V}{es:List PyData},zq H zs ds->zq H ys es->zq H (zs++ys) (ds++es):=by
 intro zs
 induction zs with
 | nil=>intro ds ys es h s;cases h;exact s
 | cons y ys' ih=>
  intro ds ys es h s
  cases h with
  | cons a b=>exact .cons a (ih b s)
theorem zCq:∀{ks:List Pln}(i:Nat),zCS ks->zCS (ks.take i)/\zCS (ks.drop i)
 | ks,0,g=>by rw[zBA,zBI];exact⟨trivial,g⟩
 | [],i+1,_=>⟨trivial,trivial⟩
 | k::ks,i+1,g=>by
  rw[zCS] at g
  obtain⟨a,b⟩:=zCq i g.2
  exact⟨⟨g.1,a⟩,b⟩
theorem zC8 (ks:List Pln)(i:Nat):zAD ks=zAD (ks.take i)++zAD (ks.drop i):=by rw[<-zBy,zAd]
theorem zFt (ks:List Pln)(i:Nat):zCs ks=max (zCs (ks.take i)) (zCs (ks.drop i)):=by rw[<-zCv,zAd]
theorem zFa (ks:List Pln)(i:Nat):zDX ks=max (zDX (ks.take i)) (zDX (ks.drop i)):=by rw[<-zC9,zAd]
theorem zG7 {H:Hp}{e b c:Addr}{ps:List Int}{ks:List Pln}{zs:List V}(he:H e=some (.tup [.ref b,.ref c]))(hb:H b=some (.tup (ps.map V.int)))(hc:H c=some (.tup zs))(al:zq H zs (zBa ks)):zAj H (.ref e) (plD (.mk ps ks)):=by
 rw[plD]
 exact .tup he (.cons (.tup hb (zCA _)) (.cons (.tup hc al) .nil))
structure TuI (h:Nat)(H:Hp)(t tp a b c:Addr)(n:Int)(N m W:Nat)(ps:List Int)(ks:List Pln)(zs:List V):Prop where
 tape:zBk H t tp N
 hN:N+1+5*(h+1)<900000
 ha:H a=some (.tup [.ref b,.ref c])
 hb:H b=some (.tup (ps.map V.int))
 hc:H c=some (.tup zs)
 al:zq H zs (zBa ks)
 g:PlT (h+1) m W (.mk ps ks)
 hm:m<=400
 hW:W<60
 n1:1<=n
 n24:n<=24
theorem TuI.nums {h:Nat}{H:Hp}{t tp a b c:Addr}{n:Int}{N m W:Nat}{ps:List Int}{ks:List Pln}{zs:List V}(I:TuI h H t tp a b c n N m W ps ks zs):zs.length=ks.length/\ps.length+(zAD ks).length<=m/\ks.length<=(zAD ks).length/\0<ps.length/\zCs ks<=h/\ps≠[]/\zCS ks/\(∀x∈ps,Nn x)/\∀x∈zAD ks,Nn x:=by
 have hzl:=zAf I.al
 rw[zBz] at hzl
 have gl:=I.g.ln
 have gg:=I.g.gd
 have gn:=I.g.nn
 have gh:=I.g.ht
 rw[zAK,zB] at gl
 rw[zAK] at gn
 rw[hgt] at gh
 rw[zFw] at gg
 have hm:=I.hm
 have gk:=zDk ks gg.2 (by omega)
 exact⟨hzl,gl,gk.2,zAi.mpr gg.1,by omega,gg.1,gg.2,fun x hx=>gn x (zJ.mpr (.inl hx)),fun x hx=>gn x (zJ.mpr (.inr hx))⟩
noncomputable def tTur (h:Nat):TS:=fun D σ H=>∃(t tp a b c:Addr)(n:Int)(N m W:Nat)(ps:List Int)(ks:List Pln)(zs:List V)(way:Int)(v4 v5 v6:Option V),σ=[some (.ref t),some (.ref a),some (.int n),some (.int way),v4,v5,v6]/\TuI h H t tp a b c n N m W ps ks zs /\
 (∀(v':V)(p':Pln)(H':Hp),Sm t H H'->zBk H' t tp (N+1+5*(h+1))->zAj H' v' (plD p')->PlT (zCs ks+1+1) (2*(ps.length+(zAD ks).length)) (max (max ps.length ks.length) (zDX ks)+1) p'->D.rt v' H')/\D.nx σ H
section
variable {P:Program}{w:World}{K:PySem.W.Frag}{mg:Str->Option Value}{base:Heap}
theorem zIQ:zAN ["_law_tape_here", "_law_plan_here", "_law_n_here", "_law_way", "_law_one", "_law_other", "_law_at"] ["_law_tape_here", "_law_plan_here", "_law_n_here"] (defScope sPtu):=⟨rfl,rfl,rfl,by decide +kernel,rfl,by decide +kernel,by decide +kernel⟩
theorem zLn {f fD fC:Addr}{fd' fdD fdC:FuncData}(F:Fun K "_law_plan_turned" "_law_plan_turned" sPtu f fd') (bF:zAI K fd' ["_law_tape_here", "_law_plan_here", "_law_n_here"] []) (mF:mg "_law_plan_turned" = some (.ref f)) (FD:Fun K "_law_draw" "_law_draw" zEC fD fdD) (bD:zAI K fdD ["_law_tape_here", "_law_many"] []) (mD:mg "_law_draw" = some (.ref fD))
 (FC:Fun K "_law_called" "_law_called" sCal fC fdC) (bC:zAI K fdC ["_law_plan_here", "_law_names"] []) (mC:mg "_law_called" = some (.ref fC)) (mLen:mg "len" = none) (mTuple:mg "tuple" = none) (mSorted:mg "sorted" = none):∀h:Nat,zAs P w K mg base CX0 (h+2) f fd' ["_law_tape_here", "_law_plan_here", "_law_n_here"] (spPtu h)
 | 0=>F.ok zIQ (fun vs H Q E h=>by obtain⟨t,tp,v,p,n,N,m,W,rfl,_⟩:=h;rfl) (fun cdv A outer s H vs Q E hr h=>by
  obtain⟨t,tp,v,⟨ps,ks⟩,n,N,m,W,rfl,_,_,_,_,_,g,_⟩:=h
  have:=g.ht
  rw[hgt] at this
  omega)
 | h+1=>by
  have GT:=zLn F bF mF FD bD mD FC bC mC mLen mTuple mSorted h
  have GD:zAs P w K mg base CX0 (h+2) fD fdD ["_law_tape_here", "_law_many"] zEQ:=(zDd FD mLen).mono (by omega)
  have GC:zAs P w K mg base CX0 (h+2) fC fdC ["_law_plan_here", "_law_names"] (spCal (h+1)):=zLp FC bC mC mTuple mSorted (h+1)
  refine F.ok zIQ (fun vs H Q E h=>?_) (fun cdv A outer s H vs Q E hr h=>?_)
  . obtain⟨t,tp,v,p,n,N,m,W,rfl,_⟩:=h
    rfl
  . obtain⟨t,tp,v,⟨ps,ks⟩,n,N,m,W,rfl,TP,hN,n1,n24,S,g,hm,hW,k⟩:=h
    obtain⟨a,b,c,zs,rfl,ha,hb,hc,al⟩:=zEY S
    have hzl:=zAf al
    rw[zBz] at hzl
    have gl:=g.ln
    have gg:=g.gd
    have gn:=g.nn
    have gh:=g.ht
    rw[zAK,zB] at gl
    rw[zAK] at gn
    rw[hgt] at gh
    rw[zFw] at gg
    have gk:=zDk ks gg.2 (by omega)
    have pl1:0<ps.length:=zAi.mpr gg.1
    rw[hgt,zAK,zB,wid] at k
    refine⟨_,zV (zAL (i:=3) zIQ.nd rfl (Or.inl rfl) (zl GD hr rfl mD FD.kp bD .nil zAU (zC (pv 0) (zCh zL))))
     (zV (zAL (i:=4) zIQ.nd rfl (Or.inl rfl) (zl GD hr rfl mD FD.kp bD .nil zAU (zC (pv 0) (zC (pv 2) zL))))
     (zV (zAL (i:=5) zIQ.nd rfl (Or.inl rfl) (zl GD hr rfl mD FD.kp bD .nil zAU (zC (pv 0) (zC (pv 2) zL))))
     (zV (zBc (zAF zJh (pv 3) zX (zAg _)) (ze (zAH (zl GC hr rfl mC FC.kp bC .nil zAU (zC (pv 1) (zC (zJc (zFk (pv 4) (pv 5) (zFk (pv 5) (pv 4) zJS)) rfl rfl (by decide) (by decide)) zL))))) zAZ)
     (zV (zBc (zAF zDS (pv 3) zX (zAg _)) (ze (zAH (zl GC hr rfl mC FC.kp bC .nil zAU (zC (pv 1) (zC (zJc (zFk (pv 4) (zAM zAw (zBx (zC (pv 2) (zC (zAz zCK (pv 2) zX) (zC (pv 5) zL)))) (zl GD hr rfl mD FD.kp bD .nil zAU (zC (pv 0) (zCh zL))) (fun _ _=>rfl)) zJS) rfl rfl (by decide) (by decide)) zL))))) zAZ)
     (zV (zIU (u':=tTur h) (zBc (PW.pt (zCV (zAF zDS (pv 3) zX (zAg _)) (zCF (zAF zEf (zn zy (by rfl) mLen PySem.boot_len (zC (zAM zAP (pv 1) zX (fun _ _=>rfl)) zL)) zX (zAg _)))))
      (zV (zAL (i:=6) zIQ.nd rfl (Or.inl rfl) (zl GD hr rfl mD FD.kp bD .nil zAU (zC (pv 0) (zC (zn zy (by rfl) mLen PySem.boot_len (zC (zAM zAP (pv 1) zX (fun _ _=>rfl)) zL)) zL))))
      (ze (zAH (zAm (zC (zAM zAP (pv 1) zX (fun _ _=>rfl)) (zC (zAz zFp (zAz zFp (zA5 zDt (zAM zAP (pv 1) zX (fun _ _=>rfl)) zBP (zBO (pv 6))) (zAm (zC (zl GT hr rfl mF F.kp bF .nil zAU (zC (pv 0) (zC (zAM zAP (zAM zAP (pv 1) zX (fun _ _=>rfl)) (pv 6) (fun _ _=>rfl)) (zC (pv 2) zL)))) zL))) (zA5 zDt (zAM zAP (pv 1) zX (fun _ _=>rfl)) (zBO (zAz zCK (pv 6) zX)) zBP)) zL)))))) zAZ) ?w4)
     (zV (zIU (u':=tTur h) (zBc (PW.pt (zCV (zAF zDS (pv 3) zX (zAg _)) (zCF (zAF zEf (zn zy (by rfl) mLen PySem.boot_len (zC (zAM zAP (pv 1) zX (fun _ _=>rfl)) zL)) zX (zAg _)))))
      (ze (zAH (zAm (zC (zAM zAP (pv 1) zX (fun _ _=>rfl)) (zC (zA5 zDt (zAM zAP (pv 1) zX (fun _ _=>rfl)) (zBO zX) zBP) zL))))) zAZ) ?w5)
     (zV (zIU (u':=tTur h) (zBc (PW.pt (zCV (zAF zDS (pv 3) zX (zAg _)) (zCF (zAF zEf (zn zy (by rfl) mLen PySem.boot_len (zC (zAM zAP (pv 1) zX (fun _ _=>rfl)) zL)) zX (zAg _)))))
      (ze (zAH (zAm (zC (zA5 zDt (zAM zAP (pv 1) zX (fun _ _=>rfl)) (zBO zX) zBP) (zC (zAz zFp (zAm (zC (zAm (zC (zA5 zDt (zAM zAP (pv 1) zX (fun _ _=>rfl)) zBP (zBO zX)) (zC (zAm zL) zL))) zL)) (zAM zAP (pv 1) zX (fun _ _=>rfl))) zL))))) zAZ) ?w6)
     (zV (zIU (u':=tTur h) (zBc (PW.pt (zCV (zAF zDS (pv 3) zX (zAg _)) (zCF (zAF zEf (zn zy (by rfl) mLen PySem.boot_len (zC (zAM zAP (pv 1) zX (fun _ _=>rfl)) zL)) zX (zAg _)))))
      (ze (zAH (zAm (zC (zAM zAP (pv 1) zX (fun _ _=>rfl)) (zC (zAz zFp (zAM zAP (pv 1) zX (fun _ _=>rfl)) (zA5 zDt (zAM zAP (pv 1) zX (fun _ _=>rfl)) zBP (zBO zX))) zL))))) zAZ) ?w7)
     (ze (zAH (zAm (zC (zAM zAP (pv 1) zX (fun _ _=>rfl)) (zC (zAm (zC (zAm (zC (zAM zAP (pv 1) zX (fun _ _=>rfl)) (zC (zAM zAP (pv 1) zX (fun _ _=>rfl)) zL))) zL)) zL))))))))))))),?_⟩
    case w4=>
     rintro D σ H1 ⟨t,tp,a,b,c,n,N,m,W,ps,ks,zs,way,v4,v5,v6,rfl,I,ret,nx⟩
     obtain⟨hzl,gl,gk,pl1,gh,gne,gg,gp,gf⟩:=I.nums
     have hm:=I.hm
     have hN:=I.hN
     refine⟨_,rfl,rfl,_,rfl,zFV (fun _=>?_) (fun _=>zCZ nx)⟩
     refine⟨_,rfl,a,_,_,.ref c,rfl,rfl,SqT.of I.ha,rfl,c,_,rfl,.inr (SqT.of I.hc),_,_,rfl,rfl,_,rfl,zFV (fun cl=>?_) (fun _=>nx)⟩
     have cl:=of_decide_eq_true cl
     refine⟨_,rfl,_,rfl,a,_,_,.ref c,rfl,rfl,SqT.of I.ha,rfl,c,_,rfl,.inr (SqT.of I.hc),t,tp,N,_,rfl,I.tape,by omega,by omega,by omega,fun r H2 r0 r1 T2 e2=>?_⟩
     have s2:Sm t H1 H2:=fun z o nb e=>by rw[e2 z nb];exact e
     have TA:zAE H1 t N:=⟨tp,I.tape⟩
     have TA2:zAE H2 t _:=⟨tp,T2⟩
     have ha2:=s2 _ _ (zBp TA I.ha) I.ha
     have hb2:=s2 _ _ (zBp TA I.hb) I.hb
     have hc2:=s2 _ _ (zBp TA I.hc) I.hc
     have al2:=zHg TA s2 I.al
     obtain⟨j,rfl⟩:∃j:Nat,r=j:=⟨r.toNat,by omega⟩
     have hj:j<zs.length:=by omega
     have ez:zs[j]? = some zs[j]:=zF hj
     obtain⟨kd,hk,Sk⟩:=zES al2 ez
     have hkm:=zi hk
     have gkid:=I.g.kid hkm
     have kl:=zCM hkm
     refine⟨_,rfl,a,_,_,.ref b,rfl,rfl,SqT.of ha2,rfl,_,rfl,a,_,_,.ref c,rfl,rfl,SqT.of ha2,rfl,_,rfl,_,rfl,c,_,rfl,hc2,fun p1 H3 s3 h3=>?_⟩
     rw[zCb] at h3
     have TA3:zAE H3 t _:=TA2.keep s3
     refine⟨_,rfl,_,rfl,a,_,_,.ref c,rfl,rfl,SqT.of (s3 _ _ ha2),rfl,_,rfl,c,_,_,zs[j],rfl,rfl,SqT.of (s3 _ _ hc2),zCC ez,_,rfl,t,tp,zs[j],kd,n,N+1,(zAK kd).length,W,rfl,T2.keepF (fun o e=>s3 _ _ e) (fun o e=>s3 _ _ e) (zH _),by omega,I.n1,I.n24,zCn (fun z ys e=>s3 _ _ e) kd Sk,gkid,by omega,I.hW,fun v' p' H4 s4 T4 S4 g4=>?_⟩
     refine⟨by show 1<=sizeLine;decide,fun p2 hp2=>?_⟩
     have s5:=zG (o:=.tup [v']) hp2
     have sm35:Sm t H3 (upd H4 p2 (.tup [v'])):=s4.trans (Sm.of s5)
     have h5:=sm35 _ _ (zBp TA3 h3) h3
     refine⟨p1,p2,_,_,rfl,rfl,h5,zK,by rw[zd];exact zAl (zu (by show min _ _+1<=_;omega)),fun p3 H6 s6 h6=>?_⟩
     have smH26:Sm t H2 H6:=((Sm.of s3).trans sm35).trans (Sm.of s6)
     have ha6:=smH26 _ _ (zBp TA2 ha2) ha2
     have hb6:=smH26 _ _ (zBp TA2 hb2) hb2
     have hc6:=smH26 _ _ (zBp TA2 hc2) hc2
     have al6:=zHg TA2 smH26 al2
     refine⟨_,rfl,a,_,_,.ref c,rfl,rfl,SqT.of ha6,rfl,_,rfl,_,_,rfl,rfl,((j+1:Nat):Int),rfl,c,_,rfl,hc6,fun p4 H7 s7 h7=>?_⟩
     rw[zCr] at h7
     refine⟨p3,p4,_,_,rfl,rfl,s7 _ _ h6,h7,by rw[zB,zd,zAR];exact zAl (zu (by show min _ _+1+_<=_;omega)),fun p5 H8 s8 h8=>⟨by show 2<=sizeLine;decide,fun p6 hp6=>?_⟩⟩
     have s9:=(s7.trans s8).trans (zG (o:=.tup [.ref b,.ref p5]) hp6)
     have T9:zBk (upd H8 p6 (.tup [.ref b,.ref p5])) t tp (N+1+5*(h+1)):=T4.keepF (fun o e=>s9 _ _ (s6 _ _ (s5 _ _ e))) (fun o e=>s9 _ _ (s6 _ _ (s5 _ _ e))) (zH _)
     have sA:zAo H4 (upd H8 p6 (.tup [.ref b,.ref p5])):=(s5.trans s6).trans s9
     have cut:=zDb j al6
     have cut1:=zDb (j+1) al6
     have ed:ks.drop j=kd::ks.drop (j+1):=by
      obtain⟨hjk,e⟩:=zM.mp hk
      rw[List.drop_eq_getElem_cons hjk,e]
     have ef:=zC8 ks j
     have eh:=zFt ks j
     rw[ed,zAD] at ef
     rw[ed,zCs] at eh
     have gt:=zCq j gg
     have gd:=zCq (j+1) gg
     have el:=congrArg List.length ef
     rw[zB,zB] at el
     have g4l:=g4.ln
     have g4h:=g4.ht
     have g4w:=g4.wd
     have ew:=zFa ks j
     rw[ed,zDX] at ew
     have etl:(ks.take j).length=j:=by rw[zd];omega
     have edl:(ks.drop (j+1)).length=ks.length-(j+1):=zAR
     refine ret (.ref p6) (.mk ps (ks.take j++(p'::ks.drop (j+1)))) _ ((s2.trans smH26).trans (Sm.of s9)) T9 (zG7 zK (s9 _ _ hb6) (zG hp6 _ _ h8) ?_) ⟨?_,?_,?_,?_,?_⟩
     . rw[zDC,zBa]
       rw[zAc]
       exact zJD (zBD (fun z ys e=>s9 _ _ e) _ cut.1) (.cons (zCn (fun z ys e=>sA _ _ e) p' S4) (zBD (fun z ys e=>s9 _ _ e) _ cut1.2))
     . rw[hgt,zCv,zCs];omega
     . rw[wid,zC9,zDX,zB,zY,etl,edl];omega
     . rw[zAK,zBy,zAD,zB,zB,zB];omega
     . exact⟨gne,zC6 gt.1 ⟨g4.gd,gd.2⟩⟩
     . intro x hx
       rw[zAK,zBy,zAD] at hx
       rcases zJ.mp hx with hx | hx
       . exact gp x hx
       rcases zJ.mp hx with hx | hx
       . exact gf x (by rw[ef];exact zJ.mpr (.inl hx))
       rcases zJ.mp hx with hx | hx
       . exact g4.nn x hx
       . exact gf x (by rw[ef];exact zJ.mpr (.inr (zJ.mpr (.inr hx))))
    case w5=>
     rintro D σ H1 ⟨t,tp,a,b,c,n,N,m,W,ps,ks,zs,way,v4,v5,v6,rfl,I,ret,nx⟩
     obtain⟨hzl,gl,gk,pl1,gh,gne,gg,gp,gf⟩:=I.nums
     refine⟨_,rfl,rfl,_,rfl,zFV (fun _=>?_) (fun _=>zCZ nx)⟩
     refine⟨_,rfl,a,_,_,.ref c,rfl,rfl,SqT.of I.ha,rfl,c,_,rfl,.inr (SqT.of I.hc),_,_,rfl,rfl,_,rfl,zFV (fun cl=>?_) (fun _=>nx)⟩
     refine⟨_,rfl,a,_,_,.ref b,rfl,rfl,SqT.of I.ha,rfl,_,rfl,a,_,_,.ref c,rfl,rfl,SqT.of I.ha,rfl,_,rfl,c,_,rfl,I.hc,fun p1 H2 s2 h2=>⟨by show 2<=sizeLine;decide,fun p2 hp2=>?_⟩⟩
     rw[show zEM zs (some 1) none=zs.drop 1 from zCr zs 1] at h2
     have s3:=s2.trans (zG (o:=.tup [.ref b,.ref p1]) hp2)
     have ef:=congrArg List.length (zC8 ks 1)
     have eh:=zFt ks 1
     have ew:=zFa ks 1
     have edl:(ks.drop 1).length=ks.length-1:=zAR
     rw[zB] at ef
     refine ret (.ref p2) (.mk ps (ks.drop 1)) _ (Sm.of s3) (I.tape.keepF (fun o e=>s3 _ _ e) (fun o e=>s3 _ _ e) (by omega)) (zG7 zK (s3 _ _ I.hb) (zG hp2 _ _ h2) (zBD (fun z ys e=>s3 _ _ e) _ (zDb 1 I.al).2)) ⟨by rw[hgt];omega,by rw[wid,edl];omega,by rw[zAK,zB];omega,⟨gne,(zCq 1 gg).2⟩,fun x hx=>?_⟩
     rw[zAK,zJ] at hx
     rcases hx with hx | hx
     . exact gp x hx
     . exact gf x (by rw[zC8 ks 1];exact zJ.mpr (.inr hx))
    case w6=>
     rintro D σ H1 ⟨t,tp,a,b,c,n,N,m,W,ps,ks,zs,way,v4,v5,v6,rfl,I,ret,nx⟩
     obtain⟨hzl,gl,gk,pl1,gh,gne,gg,gp,gf⟩:=I.nums
     have hm:=I.hm
     refine⟨_,rfl,rfl,_,rfl,zFV (fun _=>?_) (fun _=>zCZ nx)⟩
     refine⟨_,rfl,a,_,_,.ref b,rfl,rfl,SqT.of I.ha,rfl,b,_,rfl,.inr (SqT.of I.hb),_,_,rfl,rfl,_,rfl,zFV (fun cl=>?_) (fun _=>nx)⟩
     have cl:=of_decide_eq_true cl
     rw[zE] at cl
     refine⟨_,rfl,a,_,_,.ref b,rfl,rfl,SqT.of I.ha,rfl,_,rfl,b,_,rfl,I.hb,fun p1 H2 s2 h2=>?_⟩
     rw[show zEM (ps.map V.int) (some 1) none=(ps.map V.int).drop 1 from zCr _ 1,<-List.map_drop] at h2
     refine⟨_,rfl,a,_,_,.ref b,rfl,rfl,SqT.of (s2 _ _ I.ha),rfl,_,rfl,b,_,rfl,s2 _ _ I.hb,fun p3 H3 s3 h3=>?_⟩
     rw[show zEM (ps.map V.int) none (some 1)=(ps.map V.int).take 1 from zCb _ 1,<-List.map_take] at h3
     refine⟨by show 0<=sizeLine;decide,fun p4 hp4=>⟨by show 2<=sizeLine;decide,fun p5 hp5=>⟨by show 1<=sizeLine;decide,fun p6 hp6=>?_⟩⟩⟩
     have s4:=zG (o:=.tup []) hp4
     have s5:=s4.trans (zG (o:=.tup [.ref p3,.ref p4]) hp5)
     have s6:=s5.trans (zG (o:=.tup [.ref p5]) hp6)
     have s16:=(s2.trans s3).trans s6
     refine⟨_,rfl,a,_,_,.ref c,rfl,rfl,SqT.of (s16 _ _ I.ha),rfl,p6,c,_,_,rfl,rfl,zK,s16 _ _ I.hc,zAl (zu (by show 1+_<=_;omega)),fun p7 H7 s7 h7=>⟨by show 2<=sizeLine;decide,fun p8 hp8=>?_⟩⟩
     have s8:=s7.trans (zG (o:=.tup [.ref p1,.ref p7]) hp8)
     have s18:=s16.trans s8
     have s38:=s6.trans s8
     have et:ps.take 1++ps.drop 1=ps:=zAd 1 ps
     have etl:(ps.take 1).length=1:=by rw[zd];omega
     have edl:(ps.drop 1).length=ps.length-1:=zAR
     refine ret (.ref p8) (.mk (ps.drop 1) (.mk (ps.take 1) []::ks)) _ (Sm.of s18) (I.tape.keepF (fun o e=>s18 _ _ e) (fun o e=>s18 _ _ e) (by omega)) (zG7 zK (s38 _ _ (s3 _ _ h2)) (zG hp8 _ _ h7) ?_) ⟨?_,?_,?_,?_,?_⟩
     . rw[zBa]
       refine .cons (zG7 (ks:=[]) (zs:=[]) (s8 _ _ (zG hp6 _ _ zK)) (s38 _ _ h3) (s8 _ _ (zG hp6 _ _ (zG hp5 _ _ zK))) .nil) (zBD (fun z ys e=>s18 _ _ e) ks I.al)
     . rw[hgt,zCs,hgt,zCs];omega
     . rw[wid,zDX,wid,zDX,zY,zA3,etl,edl];omega
     . rw[zAK,zAD,zAK,zAD,zr,zB,zB];omega
     . refine⟨fun z=>?_,⟨fun z=>?_,trivial⟩,gg⟩
       . rw[z] at edl;simp at edl;omega
       . rw[z] at etl;simp at etl
     . intro x hx
       rw[zAK,zAD,zAK,zAD,zr] at hx
       rcases zJ.mp hx with hx | hx
       . exact gp x (List.mem_of_mem_drop hx)
       rcases zJ.mp hx with hx | hx
       . exact gp x (List.mem_of_mem_take hx)
       . exact gf x hx
    case w7=>
     rintro D σ H1 ⟨t,tp,a,b,c,n,N,m,W,ps,ks,zs,way,v4,v5,v6,rfl,I,ret,nx⟩
     obtain⟨hzl,gl,gk,pl1,gh,gne,gg,gp,gf⟩:=I.nums
     have hm:=I.hm
     refine⟨_,rfl,rfl,_,rfl,zFV (fun _=>?_) (fun _=>zCZ nx)⟩
     refine⟨_,rfl,a,_,_,.ref c,rfl,rfl,SqT.of I.ha,rfl,c,_,rfl,.inr (SqT.of I.hc),_,_,rfl,rfl,_,rfl,zFV (fun cl=>?_) (fun _=>nx)⟩
     refine⟨_,rfl,a,_,_,.ref b,rfl,rfl,SqT.of I.ha,rfl,_,rfl,a,_,_,.ref c,rfl,rfl,SqT.of I.ha,rfl,_,rfl,a,_,_,.ref c,rfl,rfl,SqT.of I.ha,rfl,_,rfl,c,_,rfl,I.hc,fun p1 H2 s2 h2=>?_⟩
     rw[show zEM zs none (some 1)=zs.take 1 from zCb zs 1] at h2
     refine⟨c,p1,_,_,rfl,rfl,s2 _ _ I.hc,h2,by rw[zd];exact zAl (zu (by omega)),fun p2 H3 s3 h3=>⟨by show 2<=sizeLine;decide,fun p3 hp3=>?_⟩⟩
     have s4:=(s2.trans s3).trans (zG (o:=.tup [.ref b,.ref p2]) hp3)
     have ef:=congrArg List.length (zC8 ks 1)
     have eh:=zFt ks 1
     have ew:=zFa ks 1
     have etl:(ks.take 1).length<=1:=by rw[zd];omega
     rw[zB] at ef
     refine ret (.ref p3) (.mk ps (ks++ks.take 1)) _ (Sm.of s4) (I.tape.keepF (fun o e=>s4 _ _ e) (fun o e=>s4 _ _ e) (by omega)) (zG7 zK (s4 _ _ I.hb) (zG hp3 _ _ h3) ?_) ⟨by rw[hgt,zCv];omega,by rw[wid,zC9,zB];omega,by rw[zAK,zBy,zB,zB];omega,⟨gne,zC6 gg (zCq 1 gg).1⟩,fun x hx=>?_⟩
     . rw[zDC]
       exact zJD (zBD (fun z ys e=>s4 _ _ e) _ I.al) (zBD (fun z ys e=>s4 _ _ e) _ (zDb 1 I.al).1)
     . rw[zAK,zBy] at hx
       rcases zJ.mp hx with hx | hx
       . exact gp x hx
       rcases zJ.mp hx with hx | hx
       . exact gf x hx
       . exact gf x (by rw[zC8 ks 1];exact zJ.mpr (.inl hx))
    refine⟨_,rfl,t,tp,N,8,rfl,TP,by omega,by decide,by decide,fun way H1 w0 w8 T1 e1=>?_⟩
    refine⟨_,rfl,_,rfl,t,tp,N+1,n,rfl,T1,by omega,by omega,by omega,fun one H2 o0 o1 T2 e2=>?_⟩
    refine⟨_,rfl,_,rfl,t,tp,N+1+1,n,rfl,T2,by omega,by omega,by omega,fun oth H3 q0 q1 T3 e3=>?_⟩
    have s3:Sm t H H3:=fun z o nb e=>by rw[e3 z nb,e2 z nb,e1 z nb];exact e
    have TA:zAE H t N:=⟨tp,TP⟩
    have TA3:zAE H3 t _:=⟨tp,T3⟩
    have S3:=zJU TA s3 S
    have ha3:=s3 _ _ (zBp TA ha) ha
    have hb3:=s3 _ _ (zBp TA hb) hb
    have hc3:=s3 _ _ (zBp TA hc) hc
    have al3:=zHg TA s3 al
    clear e1 e2 e3 T1 T2
    have sz:∀q:Nat,q<=1000->q<=sizeLine:=fun q hq=>zAl (zu (by omega))
    have fin:∀{v':V}{p':Pln}{H':Hp},zAo H3 H'->zAj H' v' (plD p')->PlT (zCs ks+1+1) (2*(ps.length+(zAD ks).length)) (max (max ps.length ks.length) (zDX ks)+1) p'->Q v' H':=fun s' S' g'=>k _ _ _ (s3.trans (Sm.of s')) (T3.keepF (fun o e=>s' _ _ e) (fun o e=>s' _ _ e) (by omega)) S' g'
    refine⟨_,rfl,_,_,rfl,rfl,_,rfl,zFV (fun _=>?_) (fun _=>?_)⟩
    . refine⟨_,rfl,fun d hd=>?_⟩
      have sd:=zG (o:=.dK []) hd
      refine⟨_,rfl,_,rfl,_,rfl,_,rfl,zK,[(Sum.inl one,.int oth),(Sum.inl oth,.int one)],rfl,by show 2<=15;decide,?_⟩
      rw[zCt]
      have sd2:=zG (o:=.dK (zCy [] [((Sum.inl one:Key),V.int oth),((Sum.inl oth:Key),V.int one)])) hd
      refine⟨.ref a,d,.mk ps ks,_,m,W,rfl,zCn (fun z ys e=>sd2 _ _ e) _ S3,g,by omega,by omega,zK,dic2 ⟨o0,by omega⟩ ⟨q0,by omega⟩,fun v' p' H' s' S' g' l' t' w'=>?_⟩
      refine fin (sd2.trans s') S' ⟨by rw[t',hgt];omega,by rw[w',wid];omega,by rw[l',zAK,zB];omega,g'.gd,g'.nn⟩
    refine⟨_,rfl,rfl,_,rfl,zFV (fun _=>?_) (fun _=>?_)⟩
    . refine⟨_,rfl,fun d hd=>?_⟩
      have sd:=zG (o:=.dK []) hd
      have ndt:d≠t:=zAE.ne TA3 hd
      refine⟨_,rfl,_,rfl,_,rfl,_,_,rfl,rfl,_,rfl,by show 3<=sizeLine;decide,fun l hl=>?_⟩
      have sl:=sd.trans (zG (o:=.lst [.int n,.int (n+1),.int oth]) hl)
      have T4:zBk (upd (upd H3 d (.dK [])) l (.lst [.int n,.int (n+1),.int oth])) t tp _:=T3.keepF (fun o e=>sl _ _ e) (fun o e=>sl _ _ e) (zH _)
      have nlt:l≠t:=zAE.ne ⟨tp,T3.keepF (fun o e=>sd _ _ e) (fun o e=>sd _ _ e) (zH _)⟩ hl
      have hd4:(upd (upd H3 d (.dK [])) l (.lst [.int n,.int (n+1),.int oth])) d=some (.dK []):=zG hl _ _ zK
      refine⟨_,rfl,t,tp,_,3,rfl,T4,by omega,by decide,by decide,fun r H5 r0 r3 T5 e5=>?_⟩
      obtain⟨x,hx,ex⟩:=zHF (L:=[n,n+1,oth]) r0 r3
      have x0:Nn x:=by
       rcases zR.mp hx with rfl | hx
       . exact⟨by omega,by omega⟩
       rcases zR.mp hx with rfl | hx
       . exact⟨by omega,by omega⟩
       rw[zk.mp hx];exact⟨q0,by omega⟩
      refine⟨l,_,_,_,rfl,rfl,SqL.of (by rw[e5 _ nlt];exact zK),ex,?_⟩
      have hd5:H5 d=some (.dK []):=by rw[e5 _ ndt];exact hd4
      refine⟨hd5,[(Sum.inl one,.int x)],rfl,by show 1<=15;decide,?_⟩
      have sm5:Sm t H3 (upd H5 d (.dK (zCy [] [((Sum.inl one:Key),V.int x)]))):=Sm.chg (fun z o nb e=>by rw[e5 z nb];exact sl _ _ e) hd
      have T6:zBk (upd H5 d (.dK (zCy [] [((Sum.inl one:Key),V.int x)]))) t tp _:=T5.keepF (fun o e=>by rw[zf ndt.symm];exact e) (fun o e=>by rw[zf (zBk.ne2 T3 hd).2.symm];exact e) (zH _)
      refine⟨.ref a,d,.mk ps ks,_,m,W,rfl,zJU TA3 sm5 S3,g,by omega,by omega,zK,dic1 x0,fun v' p' H' s' S' g' l' t' w'=>?_⟩
      exact k v' p' H' ((s3.trans sm5).trans (Sm.of s')) (T6.keepF (fun o e=>s' _ _ e) (fun o e=>s' _ _ e) (by omega)) S' ⟨by rw[t',hgt];omega,by rw[w',wid];omega,by rw[l',zAK,zB];omega,g'.gd,g'.nn⟩
    have TI:TuI h H3 t tp a b c n (N+1+1+1) m W ps ks zs:=⟨T3,by omega,ha3,hb3,hc3,al3,g,hm,hW,n1,n24⟩
    have ret:∀(v':V)(p':Pln)(H':Hp),Sm t H3 H'->zBk H' t tp (N+1+1+1+1+5*(h+1))->zAj H' v' (plD p')->PlT (zCs ks+1+1) (2*(ps.length+(zAD ks).length)) (max (max ps.length ks.length) (zDX ks)+1) p'->Q v' H':=fun v' p' H' s' T' S' g'=>k v' p' H' (s3.trans s') (T'.keepF (fun o e=>e) (fun o e=>e) (by omega)) S' g'
    refine⟨t,tp,a,b,c,n,_,m,W,ps,ks,zs,way,_,_,_,rfl,TI,ret,?_⟩
    refine⟨t,tp,a,b,c,n,_,m,W,ps,ks,zs,way,_,_,_,rfl,TI,ret,?_⟩
    refine⟨t,tp,a,b,c,n,_,m,W,ps,ks,zs,way,_,_,_,rfl,TI,ret,?_⟩
    refine⟨t,tp,a,b,c,n,_,m,W,ps,ks,zs,way,_,_,_,rfl,TI,ret,?_⟩
    refine⟨_,rfl,a,_,_,.ref b,rfl,rfl,SqT.of ha3,rfl,_,rfl,a,_,_,.ref b,rfl,rfl,SqT.of ha3,rfl,_,rfl,a,_,_,.ref c,rfl,rfl,SqT.of ha3,rfl,by show 2<=sizeLine;decide,fun p1 hp1=>⟨by show 1<=sizeLine;decide,fun p2 hp2=>⟨by show 2<=sizeLine;decide,fun p3 hp3=>?_⟩⟩⟩
    have s1':=zG (o:=.tup [.ref b,.ref c]) hp1
    have s2':=s1'.trans (zG (o:=.tup [.ref p1]) hp2)
    have s3':=s2'.trans (zG (o:=.tup [.ref b,.ref p2]) hp3)
    refine fin (p':=.mk ps [.mk ps ks]) s3' (zG7 zK (s3' _ _ hb3) (zG hp3 _ _ zK) ?_) ⟨?_,?_,?_,?_,?_⟩
    . rw[zBa,zBa]
      exact .cons (zG7 (zG hp3 _ _ (zG hp2 _ _ zK)) (s3' _ _ hb3) (s3' _ _ hc3) (zBD (fun z ys e=>s3' _ _ e) ks al3)) .nil
    . rw[hgt,zCs,zCs,hgt];omega
    . rw[wid,zDX,zDX,wid,zY,zA3];omega
    . rw[zAK,zAD,zAD,zAK,zr,zB,zB];omega
    . exact⟨gg.1,gg,trivial⟩
    . intro x hx
      rw[zAK,zAD,zAD,zAK,zr,zJ] at hx
      rcases hx with hx | hx
      . exact gn x (zJ.mpr (.inl hx))
      . exact gn x hx
end
end K39
namespace K39
open PySem L2 WM
noncomputable def fD:Option (Str×PyData)->PyData
 | none=>.tuple []
 | some (x,e)=>.tuple [.str x,e]
noncomputable def zKm:Sp:=fun vs H Q _=>∃(wa:Addr)(v:V)(d:PyData)(n:Int)(ts:List T3)(k l:Nat),vs=[.ref wa,v]/\zC0 H wa n ts/\zAj H v d/\IB k l d/\l<64/\d.weight<=20000/\∀(f:Option (Str×PyData))(q:Addr)(H':Hp),zBr n ts d f->zAo H H'->zAj H' (.ref q) (fD f)->Q (.ref q) H'
section
variable {P:Program}{w:World}{K:PySem.W.Frag}{mg:Str->Option Value}{base:Heap}
theorem zG0:zAN ["_law_web_here", "_law_thing", "_law_order_here", "_law_at", "_law_place", "_law_a", "_law_b", "_law_long"] ["_law_web_here", "_law_thing"] (defScope sLpf):=⟨rfl,rfl,rfl,by decide +kernel,rfl,by decide +kernel,by decide +kernel⟩
theorem ok_lpf {f fP fF fC:Addr}{fd' fdP fdF fdC:FuncData}(F:Fun K "_law_plan_fault" "_law_plan_fault" sLpf f fd') (FP:Fun K "_law_is_plan" "_law_is_plan" sLp fP fdP) (bP:zAI K fdP ["_law_thing", "_law_deep"] []) (mP:mg "_law_is_plan" = some (.ref fP)) (GP:zAs P w K mg base CX0 28 fP fdP ["_law_thing", "_law_deep"] (spLp 24))
 (FF:Fun K "_law_flat" "_law_flat" sLf fF fdF) (bF:zAI K fdF ["_law_plan_here"] []) (mF:mg "_law_flat" = some (.ref fF)) (GF:zAs P w K mg base CX0 28 fF fdF ["_law_plan_here"] (spLf 24))
 (FC:Fun K "_law_chain" "_law_chain" sLc fC fdC) (bC:zAI K fdC ["_law_plan_here", "_law_place"] []) (mC:mg "_law_chain" = some (.ref fC)) (GC:zAs P w K mg base CX0 28 fC fdC ["_law_plan_here", "_law_place"] (spLc 24)) (mRange:mg "range" = none) (mLen:mg "len" = none):zAs P w K mg base CX0 29 f fd' ["_law_web_here", "_law_thing"] zKm:=by
 refine F.ok zG0 (fun vs H Q E h=>?_) (fun cdv A outer s H vs Q E hr h=>?_)
 . obtain⟨wa,v,d,n,ts,k,l,rfl,_⟩:=h
   rfl
 . obtain⟨wa,v,d,n,ts,k0,l0,rfl,W,S,ib,hl,hw,k⟩:=h
   obtain⟨ta,tys,hwa,hta,TA,G⟩:=id W
   have hn1:=G.n1
   have hn24:=G.n24
   refine⟨_,zV (zBc (zB0 (zBL (zl GP hr rfl mP FP.kp bP .nil zAU (zC (pv 1) (zC zX zL))))) (ze (zAH (zAm (zC zC3 (zC zDM zL))))) zAZ)
    (zV (zAL (i:=2) zG0.nd rfl (Or.inl rfl) (zl GF hr rfl mF FF.kp bF .nil zAU (zC (pv 1) zL)))
    (zV (zCI PassesOwn.never rfl (zBw rfl mRange (zC (zn zy (by rfl) mLen PySem.boot_len (zC (pv 2) zL)) zL)) (zAX (i:=3) zG0.nd rfl (Or.inl rfl))
     (ze (zBc (PW.pt (zDF (zAF zK6 (zAM zAw (pv 2) (pv 3) (fun _ _=>rfl)) (zAM zAP (pv 0) zX (fun _ _=>rfl)) (zAg _)) (zDK (zAF zEe (zAM zAw (pv 2) (pv 3) (fun _ _=>rfl)) (zA5 zC2 (pv 2) zBP (zBO (pv 3))) (by with_unfolding_all rfl)))))
      (ze (zAH (zAm (zC zC3 (zC (zAM zAw (pv 2) (pv 3) (fun _ _=>rfl)) zL))))) zAZ)))
    (zV (zCI PassesOwn.never rfl (zBw rfl mRange (zC (zAM zAP (pv 0) zX (fun _ _=>rfl)) zL)) (zAX (i:=4) zG0.nd rfl (Or.inl rfl))
     (ze (zBc (zAF zBj (pv 4) (pv 2) (by with_unfolding_all rfl)) (ze (zAH (zAm (zC zC3 (zC (pv 4) zL))))) zAZ)))
    (zV (zCI PassesOwn.never rfl (zCg (zAM zAP (pv 0) zX (fun _ _=>rfl))) (zJX rfl (zCR (zAX (i:=5) zG0.nd rfl (Or.inl rfl)) (zCR (zAX (i:=6) zG0.nd rfl (Or.inl rfl)) (zCR (zAX (i:=7) zG0.nd rfl (Or.inl rfl)) zG8))))
     (ze (zBc (PW.pt (zCV (zAF zBj (pv 5) (zl GC hr rfl mC FC.kp bC .nil zAU (zC (pv 1) (zC (pv 6) zL))) (by with_unfolding_all rfl)) (zCF (zAF zBj (pv 6) (zl GC hr rfl mC FC.kp bC .nil zAU (zC (pv 1) (zC (pv 5) zL))) (by with_unfolding_all rfl)))))
      (ze (zAH (zAm (zC zC3 (zC (zAm (zC (pv 5) (zC (pv 6) zL))) zL))))) zAZ)))
    (ze (zAH (zAm zL))))))),?_⟩
   refine⟨_,rfl,v,d,k0,l0,rfl,S,ib,hl,by decide,fun H1 s1=>?_⟩
   refine⟨_,rfl,?_⟩
   cases cp:zBW 24 d with
   | false=>
    refine zCj ⟨by show 2<=sizeLine;decide,fun q hq=>?_⟩
    exact k _ q _ (.shape cp) (s1.trans (zG hq)) (.tup zK (.cons (.str _) (.cons .non .nil)))
   | true=>
    refine zCZ ?_
    obtain⟨p,rfl,hh,gd,gn⟩:=zFl 24 d cp
    have hlen:=zz (zHJ p) hw
    refine⟨_,rfl,v,p,rfl,zg s1 S,hh,hlen,fun l H2 s2 _ h2=>?_⟩
    have s02:=s1.trans s2
    have S2:=zg s02 S
    refine⟨_,rfl,l,_,rfl,.inl (SqL.of h2),?_⟩
    rw[zE]
    refine⟨((zAK p).length:Int),rfl,by omega,by omega,zCL (lo:=0) (n:=(((zAK p).length:Int)).toNat) (fun i σ H3=>∃v3 v4 v5 v6 v7:Option V,σ=[some (.ref wa),some v,some (.ref l),v3,v4,v5,v6,v7]/\zAo H2 H3/\∀(j:Nat)(y:Int),j<i->(zAK p)[j]? = some y->¬ Bad n (zAK p) j y)
     ⟨_,_,_,_,_,rfl,zAo.refl _,fun j y hj=>absurd hj (zBu _)⟩ (fun i σ H3 hi z=>?_) (fun σ H3 z=>?_)⟩
    . obtain⟨v3,v4,v5,v6,v7,rfl,s3,nb⟩:=z
      rw[Int.zero_add]
      have hi':i<(zAK p).length:=by omega
      have ex:(zAK p)[i]? = some (zAK p)[i]:=zF hi'
      have x0:=gn _ (zAS hi')
      generalize (zAK p)[i]=x at ex x0
      have h3:=s3 _ _ h2
      have s03:=s02.trans s3
      have hat:atI ((zAK p).map V.int) (i:Int)=some (.int x):=zCC (by rw[zZ,ex];rfl)
      have ret:∀H4,zAo H2 H4->Bad n (zAK p) i x->∀q,H4 q=none->Q (.ref q) (upd H4 q (.tup [.str "place",.int x])):=fun H4 s4 hb q hq=>k _ q _ (.place p i x rfl cp ex hb nb) ((s02.trans s4).trans (zG hq)) (.tup zK (.cons (.str _) (.cons (.int _) .nil)))
      refine⟨_,rfl,_,rfl,l,_,_,.int x,rfl,rfl,SqL.of h3,hat,_,rfl,wa,_,_,_,rfl,rfl,SqT.of (s03 _ _ hwa),rfl,_,_,rfl,rfl,_,rfl,zFV (fun c=>?_) (fun c=>?_)⟩
      . have c:=of_decide_eq_true c
        refine zCj ⟨_,rfl,_,rfl,l,_,_,.int x,rfl,rfl,SqL.of h3,hat,by show 2<=sizeLine;decide,fun q hq=>ret H3 s3 (.inr (by omega)) q hq⟩
      . have c:¬ n<=x:=fun z=>c (zQ z)
        refine⟨_,rfl,_,rfl,l,_,_,.int x,rfl,rfl,SqL.of h3,hat,_,rfl,_,rfl,_,rfl,l,_,rfl,SqL.of h3,fun q hq=>?_⟩
        rw[zCb,<-List.map_take]
        have s4:=zG (o:=.lst (((zAK p).take i).map V.int)) hq
        refine⟨q,_,rfl,.inl (SqL.of zK),rfl,zA8 _,_,rfl,?_⟩
        show (if inV (.int x) (((zAK p).take i).map V.int)=true then _ else _)
        rw[zBS]
        by_cases c2:x∈(zAK p).take i
        . rw[zQ c2]
          refine zCj ⟨_,rfl,_,rfl,l,_,_,.int x,rfl,rfl,SqL.of (s4 _ _ h3),hat,by show 2<=sizeLine;decide,fun q2 hq2=>ret _ (s3.trans s4) (.inl c2) q2 hq2⟩
        . rw[zS c2]
          refine zCZ ⟨_,_,_,_,_,rfl,s3.trans s4,fun j y hj hy=>?_⟩
          by_cases cj:j=i
          . subst cj
            rw[ex] at hy
            cases hy
            rintro (z | z)
            . exact c2 z
            . exact z (by omega)
          . exact nb j y (by omega) hy
    . obtain⟨v3,v4,v5,v6,v7,rfl,s3,nb⟩:=z
      have NB:zIr n (zAK p):=fun i x hx=>nb i x (by have:=(zM.mp hx).1;omega) hx
      obtain⟨nd,rng⟩:=zEh.mp NB
      have h64:(zAK p).length<64:=by
       have:=zLs (n:=n.toNat) nd fun x hx=>by have:=rng x hx;omega
       omega
      have k1:=(zKA p gd (by omega)).1
      have s03:=s02.trans s3
      have h3:=s3 _ _ h2
      refine⟨_,rfl,wa,_,_,_,rfl,rfl,SqT.of (s03 _ _ hwa),rfl,n,rfl,by omega,by omega,zCL (lo:=0) (n:=n.toNat) (fun i σ H4=>∃v4 v5 v6 v7:Option V,σ=[some (.ref wa),some v,some (.ref l),v3,v4,v5,v6,v7]/\zAo H3 H4/\∀y:Int,0<=y->y<i->y∈zAK p)
       ⟨_,_,_,_,rfl,zAo.refl _,fun y y0 y1=>by omega⟩ (fun i σ H4 hi z=>?_) (fun σ H4 z=>?_)⟩
      . obtain⟨v4,v5,v6,v7,rfl,s4,al⟩:=z
        rw[Int.zero_add]
        refine⟨_,rfl,_,rfl,l,_,rfl,.inl (SqL.of (s4 _ _ h3)),rfl,zA8 _,_,rfl,?_⟩
        show (if (!inV (.int i) ((zAK p).map V.int))=true then _ else _)
        rw[zBS]
        by_cases c:(i:Int)∈zAK p
        . rw[zQ c]
          refine zCZ ⟨_,_,_,_,rfl,s4,fun y y0 y1=>?_⟩
          by_cases cy:y=i
          . rw[cy];exact c
          . exact al y y0 (by omega)
        . rw[zS c]
          refine zCj ⟨_,rfl,by show 2<=sizeLine;decide,fun q hq=>?_⟩
          refine k _ q _ (.lacks p i rfl cp NB (by omega) (by omega) c fun y y0 y1 ny=>?_) ((s03.trans s4).trans (zG hq)) (.tup zK (.cons (.str _) (.cons (.int _) .nil)))
          refine zBn fun z=>ny (al y y0 (by omega))
      . obtain⟨v4,v5,v6,v7,rfl,s4,al⟩:=z
        have all:∀x,0<=x->x<n->x∈zAK p:=fun x x0 x1=>al x x0 (by omega)
        have s04:=s03.trans s4
        refine⟨_,rfl,wa,_,_,_,rfl,rfl,SqT.of (s04 _ _ hwa),rfl,ta,rfl,⟨_,SqT.of (s04 _ _ hta)⟩,zDW (K:=K) (a:=ta) (xs:=tys) (fun i σ H5=>∃v5 v6 v7:Option V,σ=[some (.ref wa),some v,some (.ref l),v3,v4,v5,v6,v7]/\zAo H4 H5/\∀(j:Nat)(a' b' l':Int),j<i->ts[j]? = some (a',b',l')->zIt p a' b')
         ⟨_,_,_,rfl,zAo.refl _,fun j a' b' l' hj=>absurd hj (zBu _)⟩ (fun i σ H5 _ ⟨_,_,_,_,s5,_⟩=>SqT.of (s5 _ _ (s04 _ _ hta))) ?turn ?after⟩
        case after=>
         rintro σ H5 ⟨v5,v6,v7,rfl,s5,tc⟩
         refine⟨by show 0<=sizeLine;decide,fun q hq=>?_⟩
         refine k none q _ (.none p rfl cp NB all fun a b l hm=>?_) ((s04.trans s5).trans (zG hq)) (.tup zK .nil)
         obtain⟨j,hj,e⟩:=zAW hm
         exact tc j a b l (by rw[TA.length,zE];exact hj) (by rw[zF hj,e])
        case turn=>
         rintro i y σ H5 hi ⟨v5,v6,v7,rfl,s5,tc⟩
         obtain⟨ya,ky,rfl,hky,hya,_⟩:=TA.get hi
         rw[zZ] at hky
         obtain⟨⟨a,b,c⟩,hti,rfl⟩:∃t:T3,ts[i]? = some t/\tl t=ky:=by
          cases e:ts[i]? with
          | none=>rw[e] at hky;cases hky
          | some t=>rw[e] at hky;exact⟨t,rfl,zm hky⟩
         have rg:=G.adj (.inl (zi hti):Adj ts a b c)
         obtain⟨rb,eb⟩:=zFX (all b rg.2.2.1 rg.2.2.2.1)
         obtain⟨ra,ea⟩:=zFX (all a rg.1 rg.2.1)
         have s05:=s04.trans s5
         have next:zIt p a b->∀(j:Nat)(a' b' l':Int),j<i+1->ts[j]? = some (a',b',l')->zIt p a' b':=fun t j a' b' l' hj ht=>by
          by_cases cj:j=i
          . subst cj
            rw[hti] at ht
            cases ht
            exact t
          . exact tc j a' b' l' (by omega) ht
         refine⟨ya,_,rfl,SqT.of (s05 _ _ hya),rfl,_,_,rfl,_,_,rfl,_,_,rfl,rfl,?_⟩
         refine⟨_,rfl,_,rfl,_,rfl,v,p,b,rb,rfl,zg s05 S,hh,h64,k1,eb,fun mb lb H6 pmb _ s6 h6=>?_⟩
         refine⟨lb,_,rfl,.inr (SqT.of h6),rfl,zA8 _,_,rfl,?_⟩
         show (if (!inV (.int a) (mb.map V.int))=true then _ else _)
         rw[zBS]
         by_cases c1:a∈mb
         . rw[zQ c1]
           exact zCZ (zCZ ⟨_,_,_,rfl,s5.trans s6,next (.inl ⟨rb,eb,pmb.mem_iff.mp c1⟩)⟩)
         . rw[zS c1]
           refine zCj ?_
           refine⟨_,rfl,_,rfl,_,rfl,v,p,a,ra,rfl,zg (s05.trans s6) S,hh,h64,k1,ea,fun ma la H7 pma _ s7 h7=>?_⟩
           refine⟨la,_,rfl,.inr (SqT.of h7),rfl,zA8 _,_,rfl,?_⟩
           show (if (!inV (.int b) (ma.map V.int))=true then _ else _)
           rw[zBS]
           by_cases c2:b∈ma
           . rw[zQ c2]
             exact zCZ ⟨_,_,_,rfl,(s5.trans s6).trans s7,next (.inr ⟨ra,ea,pma.mem_iff.mp c2⟩)⟩
           . rw[zS c2]
             refine zCj ⟨_,rfl,_,rfl,by show 2<=sizeLine;decide,fun q hq=>⟨by show 2<=sizeLine;decide,fun q2 hq2=>?_⟩⟩
             have s8:=(zG (o:=.tup [.int a,.int b]) hq).trans (zG (o:=.tup [.str "tie",.ref q]) hq2)
             refine k _ q2 _ (.tie p i a b c rfl cp NB all hti ?_ tc) (((s05.trans s6).trans s7).trans s8) (.tup zK (.cons (.str _) (.cons (.tup (zG hq2 _ _ zK) (.cons (.int _) (.cons (.int _) .nil))) .nil)))
             rintro (⟨r,e,z⟩ | ⟨r,e,z⟩)
             . rw[eb] at e;cases e;exact c1 (pmb.mem_iff.mpr z)
             . rw[ea] at e;cases e;exact c2 (pma.mem_iff.mpr z)
end
end K39
namespace K39
open PySem L2 WM
structure E39 (K:PySem.W.Frag)(mg:Str->Option Value)(cW cP:Addr)(cs1 cs2:List Addr):Prop where
 mW:mg "WayError" = some (.ref cW)
 qW:PySem.W.excIn K cW bmV "ValueError.__new__" = true
 mP:mg "NoPlan" = some (.ref cP)
 sb:L2.subIn K cP cW=true
 ex:zDq K cP
 m1:[mg "NoLabels",mg "NoLeast",mg "NoOrder",mg "NoPart",mg "NoPosts",mg "NoRing"]=cs1.map fun c=>some (.ref c)
 m2:[mg "NoRow",mg "NoText",mg "NoTie",mg "NoTree",mg "TooMany"]=cs2.map fun c=>some (.ref c)
 k1:PySem.W.kitAny K (.ref cP) (cs1.map Value.ref)=some false
 k2:PySem.W.kitAny K (.ref cP) (cs2.map Value.ref)=some false
 kP:PySem.W.kitOne K (.ref cP) (.ref cP)=some true
 kV:PySem.W.kitOne K (.ref cP) (.type "ValueError")=some true
 n1:PySem.W.findIn K (.ref cP) "word" = some none
 n2:PySem.W.findIn K (.ref cP) "at" = some none
noncomputable def zMJ:Sp:=fun vs H Q _=>∃(wa:Addr)(v:V)(d:PyData)(n:Int)(ts:List T3)(k l:Nat),vs=[.ref wa,v]/\zC0 H wa n ts/\zAj H v d/\IB k l d/\l<64/\d.weight<=20000/\(zBr n ts d none->∀H',zAo H H'->Q (.bl true) H') /\
 ∀(x:Str)(e:PyData)(q:Addr)(H':Hp),zBr n ts d (some (x,e))->zAo H H'->zAj H' (.ref q) (.tuple [.str x,e])->Q (.ref q) H'
section
variable {P:Program}{w:World}{K:PySem.W.Frag}{mg:Str->Option Value}{base:Heap}
theorem zGM:zAN ["_law_web_here", "_law_thing", "_law_found", "e", "_law_others"] ["_law_web_here", "_law_thing"] (defScope sFou):=⟨rfl,rfl,rfl,by decide +kernel,rfl,by decide +kernel,by decide +kernel⟩
theorem ok_fou {f fL fI cW cP c1 c2 c3 c4 c5 c6 c7 c8 c9 c10 c11:Addr}{fd' fdL:FuncData}{m:Nat}(F:Fun K "_law_plan_found" "_law_plan_found" sFou f fd') (Er:E39 K mg cW cP [c1,c2,c3,c4,c5,c6] [c7,c8,c9,c10,c11])(EI:zHS K cP fI)
 (FL:Fun K "lets_plan" "lets_plan" zJJ fL fdL) (bL:zAI K fdL ["web", "thing"] []) (mL:mg "lets_plan" = some (.ref fL)) (GL:zAs P w K mg base (CXI P w) m fL fdL ["web", "thing"] (zI5 cP)) (mIsi:mg "isinstance" = none) (mVal:mg "ValueError" = none):zAs P w K mg base CX0 (m+1) f fd' ["_law_web_here", "_law_thing"] zMJ:=by
 obtain⟨h1,h2,h3,h4,h5,h6⟩:mg "NoLabels" = some (.ref c1)/\mg "NoLeast" = some (.ref c2)/\mg "NoOrder" = some (.ref c3)/\mg "NoPart" = some (.ref c4)/\mg "NoPosts" = some (.ref c5)/\mg "NoRing" = some (.ref c6):=by
  have:=Er.m1
  simpa using this
 obtain⟨h7,h8,h9,h10,h11⟩:mg "NoRow" = some (.ref c7)/\mg "NoText" = some (.ref c8)/\mg "NoTie" = some (.ref c9)/\mg "NoTree" = some (.ref c10)/\mg "TooMany" = some (.ref c11):=by
  have:=Er.m2
  simpa using this
 have qC:excC K cP=true:=by unfold excC;rw[EI.cl];rfl
 refine F.ok zGM (fun vs H Q E h=>?_) (fun cdv A outer s H vs Q E hr h=>?_)
 . obtain⟨wa,v,d,n,ts,k,l,rfl,_⟩:=h
   rfl
 . obtain⟨wa,v,d,n,ts,k0,l0,rfl,W,S,ib,hl,hw,kY,kN⟩:=h
   refine⟨_,zV (zAL (i:=2) zGM.nd rfl (Or.inl rfl) zC3)
    (zV (zMQ (i:=3) zGM.nd rfl rfl rfl rfl rfl Er.mW Er.qW (zMP (i:=2) zGM.nd rfl (Or.inl rfl) GL hr rfl mL FL.kp bL (zC (pv 0) (zC (pv 1) zL)))
     (fun ea oe c hc=>zV (zAL (i:=4) zGM.nd rfl (Or.inl rfl) (zn (zDn (zFu hc)) (by rfl) mIsi (by decide +kernel) (zC (pv 3) (zC (zAm (zC (zCG (v:=.ref c1) rfl h1 rfl) (zC (zCG (v:=.ref c2) rfl h2 rfl) (zC (zCG (v:=.ref c3) rfl h3 rfl) (zC (zCG (v:=.ref c4) rfl h4 rfl) (zC (zCG (v:=.ref c5) rfl h5 rfl) (zC (zCG (v:=.ref c6) rfl h6 rfl) zL))))))) zL))))
      (zV (zAL (i:=4) zGM.nd rfl (Or.inl rfl) (pe_or (pv 4) (zDL (zn (zDn (zFu hc)) (by rfl) mIsi (by decide +kernel) (zC (pv 3) (zC (zAm (zC (zCG (v:=.ref c7) rfl h7 rfl) (zC (zCG (v:=.ref c8) rfl h8 rfl) (zC (zCG (v:=.ref c9) rfl h9 rfl) (zC (zCG (v:=.ref c10) rfl h10 rfl) (zC (zCG (v:=.ref c11) rfl h11 rfl) zL)))))) zL))))))
      (zV (zAL (i:=2) zGM.nd rfl (Or.inl rfl) (zAm (zC zC3 zL)))
      (ze (zBc (PW.pt (zCV (zBL (zn (zGn (zFu hc)) (by rfl) mIsi (by decide +kernel) (zC (pv 3) (zC (zCG (v:=.ref cP) rfl Er.mP rfl) zL)))) (zCV (zBL (zn (zF5 (zFu hc)) (by rfl) mIsi (by decide +kernel) (zC (pv 3) (zC (zCJ (T := "ValueError") (by rfl) mVal (by decide +kernel)) zL)))) (zCF (zB0 (zBL (pv 4)))))))
       (ze (zAL (i:=2) zGM.nd rfl (Or.inl rfl) (zAm (zC (zJb (pv 3)) (zC (zJb (pv 3)) zL))))) zAZ))))))
    (ze (zAH (pv 2)))),?_⟩
   refine⟨_,rfl,_,rfl,wa,v,d,n,ts,k0,l0,rfl,W,S,ib,hl,hw,fun fo H' s'=>⟨_,rfl,kY fo H' s'⟩,fun x e at' dx H' fo s' Sa hdx=>?_⟩
   refine⟨cP,rfl,qC,Er.sb,fun ea oe ws hc hd hf hea=>?_⟩
   refine⟨_,rfl,(by show 6<=sizeLine;decide),fun p hp=>?_⟩
   refine⟨p,[c1,c2,c3,c4,c5,c6],false,Er.ex,rfl,zK,Er.k1,?_⟩
   have s1:=zG (o:=.tup ([c1,c2,c3,c4,c5,c6].map V.ref)) hp
   refine⟨_,rfl,false,rfl,zCZ ?_⟩
   refine⟨_,rfl,(by show 5<=sizeLine;decide),fun p2 hp2=>?_⟩
   have s2:=s1.trans (zG (o:=.tup ([c7,c8,c9,c10,c11].map V.ref)) hp2)
   refine⟨p2,[c7,c8,c9,c10,c11],false,Er.ex,rfl,zK,Er.k2,?_⟩
   refine⟨by show 1<=sizeLine;decide,fun p3 hp3=>?_⟩
   have s3:=s2.trans (zG (o:=.tup [.str "class"]) hp3)
   refine⟨_,rfl,cP,true,Er.ex,rfl,Er.kP,true,rfl,zCj ?_⟩
   refine⟨_,rfl, "ValueError",true,Er.ex,rfl,Er.kV,true,rfl,zCj ?_⟩
   refine⟨_,rfl,false,rfl,zCj ?_⟩
   refine⟨_,rfl,ea,cP,dx,_,.str x,rfl,zJ7 hc hd hf,EI.cl,Er.ex,Er.n1,s3 _ _ hdx,rfl,_,rfl,ea,cP,dx,_,at',rfl,zJ7 hc hd hf,EI.cl,Er.ex,Er.n2,s3 _ _ hdx,rfl,by show 2<=sizeLine;decide,fun p4 hp4=>?_⟩
   have s4:=s3.trans (zG (o:=.tup [.str x,at']) hp4)
   exact⟨_,rfl,kN x e p4 _ fo (s'.trans s4) (.tup zK (.cons (.str _) (.cons (zg s4 Sa) .nil)))⟩
end
end K39
namespace K39
open PySem L2 WM
noncomputable def tieT (t:T3):PyData:=.tuple ((tl t).map PyData.int)
noncomputable def zKg (n:Int)(ts:List T3):PyData:=.tuple [.int n,.tuple (ts.map tieT)]
theorem zJA {H:Hp}:∀{xs:List V}{ts:List T3},zAy H xs (ts.map tl)->zq H xs (ts.map tieT)
 | [],[],_=>.nil
 | [],_::_,h=>h.elim
 | _::_,[],h=>h.elim
 | x::xs,t::ts,h=>by
  obtain⟨⟨a,rfl,ha,_⟩,hr⟩:=h
  exact .cons (.tup ha (zCA _)) (zJA hr)
theorem zI9 {H:Hp}{wa:Addr}{n:Int}{ts:List T3}(W:zC0 H wa n ts):zAj H (.ref wa) (zKg n ts):=by
 obtain⟨ta,tys,h1,h2,h3,_⟩:=W
 exact .tup h1 (.cons (.int _) (.cons (.tup h2 (zJA h3)) .nil))
theorem web_fn {n:Int}{ts:List T3}(g:GW n ts):Fn 12034 3 (zKg n ts):=by
 have h1:=g.n1
 have h2:=g.n24
 have hl:=g.len
 have ht:Fn 6016 2 (.tuple (ts.map tieT)):=by
  refine (zD7 (n:=93) (p:=1) (L:=64) (fun d hd=>?_) (by rw[zE];omega)).mono (by decide) (by decide)
  obtain⟨t,ht,rfl⟩:=zAY.mp hd
  obtain⟨r1,r2,r3,r4,r5⟩:=g.rng t ht
  refine (zD7 (n:=30) (p:=0) (L:=3) (fun d hd=>?_) (by rw[zE];exact zH 3)).mono (by decide) (by decide)
  obtain⟨i,hi,rfl⟩:=zAY.mp hd
  have hi':i=t.1\/i=t.2.1\/i=t.2.2:=by simpa [tl] using hi
  exact zDP (by omega)
 refine (zD7 (n:=6016) (p:=2) (L:=2) (ds:=[.int n,.tuple (ts.map tieT)]) (fun d hd=>?_) (zH 2)).mono (by decide) (by decide)
 rcases zR.mp hd with rfl | hd
 . exact (zDP (by omega)).mono (by decide) (by decide)
 . rcases zR.mp hd with rfl | hd
   . exact ht
   . cases hd
mutual
theorem zJV:∀(q:Pln),zFw q->(∀x∈zAK q,x.natAbs<=100)->(zAK q).length<=900->wid q<=40->IB 100 40 (plD q)/\zDh q/\1<=(zAK q).length/\Fn (34*(zAK q).length-1) (2*hgt q) (plD q)
 | .mk ps ks,g,hb,hl,hw=>by
  rw[wid] at hw
  rw[zFw] at g
  rw[zAK] at hb hl ⊢
  rw[zB] at hl ⊢
  have hp:0<ps.length:=zAi.mpr g.1
  obtain⟨h1,h2,h3,h4⟩:=zHh ks g.2 (fun x hx=>hb x (zJ.mpr (.inr hx))) (by omega) (by omega)
  rw[plD,zDh,hgt]
  have i1:IB 100 40 (.tuple (ps.map PyData.int)):=.tup _ (by rw[zE];omega) fun d hd=>by
   obtain⟨x,hx,rfl⟩:=zAY.mp hd
   exact .int _ (hb x (zJ.mpr (.inl hx)))
  have i2:IB 100 40 (.tuple (zBa ks)):=.tup _ (by rw[zBz];omega) fun d hd=>(h1 d hd).1
  have f1:Fn (ps.length*31) 1 (.tuple (ps.map PyData.int)):=zD7 (n:=30) (p:=0) (L:=ps.length) (fun d hd=>by
   obtain⟨x,hx,rfl⟩:=zAY.mp hd
   have:=hb x (zJ.mpr (.inl hx))
   exact zDP (by omega)) (by rw[zE];exact zH _)
  have f2:Fn (34*(zAD ks).length) (2*zCs ks+1) (.tuple (zBa ks)):=zEw (fun d hd=>(h1 d hd).2) h4
  refine⟨.tup _ (by show 2<=40;decide) fun d hd=>?_,⟨by omega,h2⟩,by omega,(zEw (p:=2*zCs ks+1) (w:=34*(ps.length+(zAD ks).length)-1) (fun d hd=>?_) ?_).mono (zH _) (by omega)⟩
  . simp only[zR,zA6,or_false] at hd
    rcases hd with rfl | rfl
    . exact i1
    . exact i2
  . simp only[zR,zA6,or_false] at hd
    rcases hd with rfl | rfl
    . exact⟨_,f1.mono (zH _) (by omega)⟩
    . exact⟨_,f2⟩
  . have w1:=f1.wt
    have w2:=f2.wt
    have e:PyData.weightAll [PyData.tuple (ps.map PyData.int),PyData.tuple (zBa ks)]=(PyData.tuple (ps.map PyData.int)).weight+1+((PyData.tuple (zBa ks)).weight+1):=by
     rw[show [PyData.tuple (ps.map PyData.int),PyData.tuple (zBa ks)]=[PyData.tuple (ps.map PyData.int)]++[PyData.tuple (zBa ks)] from rfl,zA4,zDJ,zDJ]
    rw[e]
    omega
theorem zHh:∀(ks:List Pln),zCS ks->(∀x∈zAD ks,x.natAbs<=100)->(zAD ks).length<=900->zDX ks<=40->(∀d∈zBa ks,IB 100 40 d/\∃n,Fn n (2*zCs ks) d)/\ks1 ks/\ks.length<=(zAD ks).length/\PyData.weightAll (zBa ks)<=34*(zAD ks).length
 | [],_,_,_,_=>by
  rw[zBa,ks1]
  exact⟨(fun d hd=>by cases hd),trivial,zb _,zb _⟩
 | k::ks,g,hb,hl,hw=>by
  rw[zDX] at hw
  rw[zCS] at g
  rw[zAD] at hb hl ⊢
  rw[zB] at hl ⊢
  obtain⟨a1,a2,a3,a4⟩:=zJV k g.1 (fun x hx=>hb x (zJ.mpr (.inl hx))) (by omega) (by omega)
  obtain⟨h1,h2,h3,h4⟩:=zHh ks g.2 (fun x hx=>hb x (zJ.mpr (.inr hx))) (by omega) (by omega)
  rw[zBa,ks1,zCs]
  refine⟨fun d hd=>?_,⟨a2,h2⟩,by rw[zY];omega,?_⟩
  . rcases zR.mp hd with rfl | hd
    . exact⟨a1,_,a4.mono (zH _) (by omega)⟩
    . obtain⟨b1,n,b2⟩:=h1 d hd
      exact⟨b1,n,b2.mono (zH _) (by omega)⟩
  . have e:PyData.weightAll (plD k::zBa ks)=(plD k).weight+1+PyData.weightAll (zBa ks):=by
     rw[show plD k::zBa ks=[plD k]++zBa ks from rfl,zA4,zDJ]
    have:=a4.wt
    rw[e]
    omega
end
mutual
theorem zJ4 {k l:Nat}:∀(p:Pln),IB k l (plD p)->∀x∈zAK p,x.natAbs<=k
 | .mk ps ks,h,x,hx=>by
  rw[plD] at h
  rw[zAK,zJ] at hx
  cases h with
  | tup _ _ h=>
   rcases hx with hx | hx
   . have h1:=h (.tuple (ps.map PyData.int)) zT
     cases h1 with
     | tup _ _ h1=>
      have h2:=h1 (.int x) (zAY.mpr ⟨x,hx,rfl⟩)
      cases h2 with
      | int _ h2=>exact h2
   . have h1:=h (.tuple (zBa ks)) (zN _ zT)
     cases h1 with
     | tup _ _ h1=>exact zHv ks h1 x hx
theorem zHv {k l:Nat}:∀(ks:List Pln),(∀d∈zBa ks,IB k l d)->∀x∈zAD ks,x.natAbs<=k
 | [],_,x,hx=>by rw[zAD] at hx;cases hx
 | q::ks,h,x,hx=>by
  rw[zBa] at h
  rw[zAD,zJ] at hx
  rcases hx with hx | hx
  . exact zJ4 q (h _ zT) x hx
  . exact zHv ks (fun d hd=>h d (zN _ hd)) x hx
end
theorem fn2 {a b:PyData}{n p:Nat}(ha:Fn n p a)(hb:Fn n p b):Fn (2*(n+1)) (p+1) (.tuple [a,b]):=zD7 (fun d hd=>by
 simp only[zR,zA6,or_false] at hd
 rcases hd with rfl | rfl
 . exact ha
 . exact hb) (zH 2)
theorem zLN {n:Int}{ts:List T3}{d:PyData}{x:Str}{e:PyData}{k l:Nat}(h:zBr n ts d (some (x,e)))(ib:IB k l d)(hk:k<=100000)(G:GW n ts):Fn 1048576 60 (.tuple [.str x,e]):=by
 have key:∀(y:Str)(e:PyData),y.length<=12->PyData.strOk y=true->Fn 100 1 e->Fn 1048576 60 (.tuple [.str y,e]):=fun y e h1 h2 h3=>(fn2 ((zL0 h1 h2).mono (zH _) (zb _)) h3).mono (by decide) (by decide)
 have hn:=G.n24
 cases h with
 | shape _=>exact key _ _ (by decide) (by decide +kernel) (zKD.mono (by decide) (by decide))
 | place p i y ed hp hx hb hj=>
  subst ed
  have:=zJ4 p ib y (zi hx)
  exact key _ _ (by decide) (by decide +kernel) ((zDP (by omega)).mono (by decide) (by decide))
 | lacks p y ed hp nb x0 x1 nx hm=>exact key _ _ (by decide) (by decide +kernel) ((zDP (by omega)).mono (by decide) (by decide))
 | tie p i a b l ed hp nb al ht nt hj=>
  obtain⟨r1,r2,r3,r4,r5⟩:=G.rng _ (zi ht)
  dsimp only at r1 r2 r3
  exact key _ _ (by decide) (by decide +kernel) ((fn2 (n:=30) (p:=0) (zDP (by omega)) (zDP (by omega))).mono (by decide) (by decide))
noncomputable def spRi:Sp:=fun vs H Q _=>∃(wa:Addr)(v:V)(d:PyData)(n:Int)(ts:List T3)(k l:Nat),vs=[.ref wa,v]/\zC0 H wa n ts/\zAj H v d/\IB k l d/\k<=100000/\l<64/\Fn 19000 50 d/\∀H',zAo H H'->Q (.bl true) H'
section
variable {P:Program}{w:World}{K:PySem.W.Frag}{mg:Str->Option Value}{base:Heap}
theorem scRi:zAN ["_law_web_here", "_law_thing", "_law_due", "_law_kept"] ["_law_web_here", "_law_thing"] (defScope zHb):=⟨rfl,rfl,rfl,by decide +kernel,rfl,by decide +kernel,by decide +kernel⟩
theorem ok_ri {f fX fF:Addr}{fd' fdX fdF:FuncData}{m:Nat}(F:Fun K "_law_right" "_law_right" zHb f fd') (FX:Fun K "_law_plan_fault" "_law_plan_fault" sLpf fX fdX) (bX:zAI K fdX ["_law_web_here", "_law_thing"] []) (mX:mg "_law_plan_fault" = some (.ref fX)) (GX:zAs P w K mg base CX0 m fX fdX ["_law_web_here", "_law_thing"] zKm)
 (FF:Fun K "_law_plan_found" "_law_plan_found" sFou fF fdF) (bF:zAI K fdF ["_law_web_here", "_law_thing"] []) (mF:mg "_law_plan_found" = some (.ref fF)) (GF:zAs P w K mg base CX0 m fF fdF ["_law_web_here", "_law_thing"] zMJ) (mRepr:mg "repr" = none):zAs P w K mg base CX0 (m+1) f fd' ["_law_web_here", "_law_thing"] spRi:=by
 refine F.ok scRi (fun vs H Q E h=>?_) (fun cdv A outer s H vs Q E hr h=>?_)
 . obtain⟨wa,v,d,n,ts,k,l,rfl,_⟩:=h
   rfl
 . obtain⟨wa,v,d,n,ts,k0,l0,rfl,W,S,ib,hk0,hl,fn,k⟩:=h
   have hu:=zIj hr
   obtain⟨_,_,_,_,_,G⟩:=id W
   have hw:d.weight<=20000:=zz fn.wt (by decide)
   have fp:Fn 1048576 60 (.tuple [zKg n ts,d]):=(fn2 (n:=20000) (p:=50) ((web_fn G).mono (by decide) (by decide)) (fn.mono (by decide) (by decide))).mono (by decide) (by decide)
   refine⟨_,zV (zAL (i:=2) scRi.nd rfl (Or.inl rfl) (zl GX hr rfl mX FX.kp bX .nil zAU (zC (pv 0) (zC (pv 1) zL))))
    (zV (zAL (i:=3) scRi.nd rfl (Or.inl rfl) (zn (zDm hr) (by rfl) mRepr (by decide +kernel) (zC (zAm (zC (pv 0) (zC (pv 1) zL))) zL)))
    (ze (zAH (zDN (zCX zDS (zn (zDm hr) (by rfl) mRepr (by decide +kernel) (zC (zl GF hr rfl mF FF.kp bF .nil zAU (zC (pv 0) (zC (pv 1) zL))) zL)) (zn (zDm hr) (by rfl) mRepr (by decide +kernel) (zC (zHl (zAF (zMY (Nat.lt_of_succ_lt hu)) (pv 2) (zAm zL) (zAg _)) zDw (pv 2)) zL)) (zAg _))
     (zDL (zCX zDS (zn (zDm hr) (by rfl) mRepr (by decide +kernel) (zC (zAm (zC (pv 0) (zC (pv 1) zL))) zL)) (pv 3) (zAg _))))))),?_⟩
   refine⟨_,rfl,_,rfl,wa,v,d,n,ts,k0,l0,rfl,W,S,ib,hl,hw,fun fo q H1 hfo s1 S1=>?_⟩
   refine⟨_,rfl,_,rfl,by show 2<=sizeLine;decide,fun p2 hp2=>?_⟩
   have s2:=s1.trans (zG (o:=.tup [.ref wa,v]) hp2)
   have P2:zAj (upd H1 p2 (.tup [.ref wa,v])) (.ref p2) (.tuple [zKg n ts,d]):=.tup zK (.cons (zg s2 (zI9 W)) (.cons (zg s2 S) .nil))
   refine⟨_,_,rfl,P2,fp,?_⟩
   have S2:=zg (zG (o:=.tup [.ref wa,v]) hp2) S1
   generalize upd H1 p2 (.tup [.ref wa,v])=H2 at s2 S2 P2 ⊢
   clear P2 hp2 S1 s1
   refine⟨_,rfl,_,rfl,wa,v,d,n,ts,k0,l0,rfl,W.keepT fun b ys e=>s2 _ _ e,zg s2 S,ib,hl,hw,fun f0 H3 s3=>?_,fun x e q3 H3 f1 s3 S3=>?_⟩
   . cases hfo.uniq f0
     refine⟨_,_,rfl,.bl _,(zHH _).mono (by decide) (by decide),?_⟩
     refine⟨_,rfl,by show 0<=sizeLine;decide,fun p4 hp4=>?_⟩
     have hq:H2 q=some (.tup []):=by
      cases S2 with
      | tup e al=>cases al;exact e
     refine⟨q,p4,[],rfl,rfl,SqT.of (zG hp4 _ _ (s3 _ _ hq)),SqT.of zK,?_⟩
     refine⟨_,rfl,zCj ?_⟩
     refine⟨_,_,rfl,.bl _,(zHH _).mono (by decide) (by decide),?_⟩
     have s4:=(s2.trans s3).trans (zG (o:=.tup []) hp4)
     refine⟨rfl,_,rfl,ifT (by simp) ?_⟩
     refine⟨_,rfl,_,rfl,by show 2<=sizeLine;decide,fun p5 hp5=>?_⟩
     have s5:=s4.trans (zG (o:=.tup [.ref wa,v]) hp5)
     refine⟨_,_,rfl,.tup zK (.cons (zg s5 (zI9 W)) (.cons (zg s5 S) .nil)),fp,_,rfl,rfl,?_⟩
     rw[zQ rfl]
     exact k _ s5
   . cases hfo.uniq f1
     have ff:=zLN f1 ib hk0 G
     refine⟨_,_,rfl,S3,ff,?_⟩
     refine⟨_,rfl,by show 0<=sizeLine;decide,fun p4 hp4=>?_⟩
     obtain⟨xs,hq,hx⟩:∃xs,H2 q=some (.tup xs)/\xs.isEmpty=false:=by
      cases S2 with
      | tup e al=>cases al;exact⟨_,e,rfl⟩
     have s34:=s3.trans (zG (o:=.tup []) hp4)
     have s4:=s2.trans s34
     refine⟨q,p4,xs,rfl,rfl,SqT.of (s34 _ _ hq),SqT.of zK,?_⟩
     refine⟨_,rfl,?_⟩
     rw[hx]
     refine zCZ ?_
     refine⟨_,rfl,_,_,rfl,zg s34 S2,ff,?_⟩
     refine⟨rfl,_,rfl,ifT (zQ rfl) ?_⟩
     refine⟨_,rfl,_,rfl,by show 2<=sizeLine;decide,fun p5 hp5=>?_⟩
     have s5:=s4.trans (zG (o:=.tup [.ref wa,v]) hp5)
     refine⟨_,_,rfl,.tup zK (.cons (zg s5 (zI9 W)) (.cons (zg s5 S) .nil)),fp,_,rfl,rfl,?_⟩
     rw[zQ rfl]
     exact k _ s5
end
end K39
namespace K39
open PySem L2 WM
structure Ordr (n:Int)(os:List Int):Prop where
 ln:os.length=n.toNat
 nd:os.Nodup
 rng:∀p∈os,0<=p/\p<n
noncomputable def zI4:Sp:=fun vs H Q _=>∃(t:Addr)(N:Nat)(n:Int),vs=[.ref t,.int n]/\zAE H t N/\N<900000/\1<=n/\n<=24 /\
 ∀(l:Addr)(os:List Int)(H':Hp),H' l=some (.tup (os.map V.int))->Ordr n os->zAE H' t (N+24)->Sm t H H'->Q (.ref l) H'
section
variable {P:Program}{w:World}{K:PySem.W.Frag}{mg:Str->Option Value}{base:Heap}
theorem zFg:zAN ["_law_tape_here", "_law_n_here", "_law_left", "_law_found", "_law_k"] ["_law_tape_here", "_law_n_here"] (defScope zHc):=⟨rfl,rfl,rfl,by decide +kernel,rfl,by decide +kernel,by decide +kernel⟩
theorem zK7 {f fD:Addr}{fd' fdD:FuncData}(F:Fun K "_law_order" "_law_order" zHc f fd') (FD:Fun K "_law_draw" "_law_draw" zEC fD fdD) (bD:zAI K fdD ["_law_tape_here", "_law_many"] []) (mD:mg "_law_draw" = some (.ref fD))
 (mLen:mg "len" = none) (mRange:mg "range" = none) (mTuple:mg "tuple" = none) (mList:mg "list" = none):zAs P w K mg base CX0 2 f fd' ["_law_tape_here", "_law_n_here"] zI4:=by
 have GD:zAs P w K mg base CX0 1 fD fdD ["_law_tape_here", "_law_many"] zEQ:=zDd FD mLen
 refine F.ok zFg (fun vs H Q E h=>?_) (fun cdv A outer s H vs Q E hr h=>?_)
 . obtain⟨t,N,n,rfl,_⟩:=h
   rfl
 . obtain⟨t,N,n,rfl,TT,hN,hn1,hn24,k⟩:=h
   obtain⟨tp,TP⟩:=TT
   refine⟨_,zV (zAL (i:=2) zFg.nd rfl (Or.inl rfl) (zEa rfl rfl mList rfl mRange (zC (pv 1) zL)))
    (zV (zAL (i:=3) zFg.nd rfl (Or.inl rfl) (zBx zL))
    (zV (zCI PassesOwn.never rfl (zBw rfl mRange (zC (pv 1) zL)) (zAX (i:=4) zFg.nd rfl (Or.inl rfl))
     (ze (zCW (zFn PySem.F.plainAttrs_list PySem.F.slot_list_append PySem.F.type_list_append zCY (pv 3)
      (zC (zFn PySem.F.plainAttrs_list PySem.F.slot_list_pop PySem.F.type_list_pop zHq (pv 2)
       (zC (zl GD hr rfl mD FD.kp bD .nil zAU (zC (pv 0) (zC (zn zy (by rfl) mLen PySem.boot_len (zC (pv 2) zL)) zL))) zL)) zL)))))
    (ze (zAH (zAv zAp (by rfl) mTuple (by decide +kernel) (zC (pv 3) zL)))))),?_⟩
   refine⟨_,rfl,n,rfl,by omega,by omega,fun lf hlf=>?_⟩
   obtain⟨ns0,sp0,re0,ht0,hp0,_⟩:=id TP
   have nlt:lf≠t:=(zo ht0 hlf).symm
   have nlp:lf≠tp:=(zo hp0 hlf).symm
   refine⟨zb _,fun D hD=>?_⟩
   have nDl:D≠lf:=fun z=>by rw[z,zK] at hD;cases hD
   have hD0:H D=none:=by rw[zf nDl] at hD;exact hD
   have nDt:D≠t:=(zo ht0 hD0).symm
   have nDp:D≠tp:=(zo hp0 hD0).symm
   refine⟨_,rfl,n,rfl,by omega,by omega,zCL (lo:=0) (n:=n.toNat) (fun q σ H2=>∃(v4:Option V)(row left:List Int),σ=[some (.ref t),some (.int n),some (.ref lf),some (.ref D),v4]/\row.length=q/\(row++left).Perm (lowTo n.toNat)/\H2 lf=some (.lst (left.map V.int))/\H2 D=some (.lst (row.map V.int))/\zBk H2 t tp (N+q)/\Sm t H H2)
    ⟨none,[],lowTo n.toNat,rfl,rfl,zCD _,by rw[zf nDl.symm,zK],zK,TP.keepF (fun o e=>by rw[zf nDt.symm,zf nlt.symm];exact e) (fun o e=>by rw[zf nDp.symm,zf nlp.symm];exact e) (by omega),(Sm.laid hlf).chg hD0⟩ ?turn ?after⟩
   case after=>
    rintro σ H2 ⟨v4,row,left,rfl,hl,hp,hlf2,hD2,TP2,s2⟩
    have hleft:left=[]:=by
     have:=hp.length_eq
     rw[zB,zBR,hl] at this
     exact zBF.mp (by omega)
    subst hleft
    rw[zr] at hp
    have nd:row.Nodup:=hp.nodup_iff.mpr ((zEs _).imp fun h=>by omega)
    refine⟨_,rfl,D,_,rfl,.inl ⟨SqL.of hD2,fun l hl'=>?_⟩⟩
    refine k l row _ zK ⟨hl,nd,fun p hp'=>?_⟩ (zAE.mono (zAE.laid ⟨tp,TP2⟩ hl') (by omega)) (s2.trans (Sm.laid hl'))
    have:=zCi.mp (hp.mem_iff.mp hp')
    omega
   case turn=>
    rintro q σ H2 hq ⟨v4,row,left,rfl,hl,hp,hlf2,hD2,TP2,s2⟩
    have hll:row.length+left.length=n.toNat:=by
     have:=hp.length_eq
     rw[zB,zBR] at this
     exact this
    refine⟨_,rfl,.inl ⟨rfl,_,SqL.of hD2⟩,_,rfl,.inl ⟨rfl,_,SqL.of hlf2⟩,?_⟩
    refine⟨_,rfl,_,rfl,lf,_,rfl,.inl (SqL.of hlf2),t,tp,N+q,_,rfl,TP2,by omega,by rw[zE];omega,by rw[zE];omega,fun rr H3 h0 h1 TP3 e3=>?_⟩
    rw[zE] at h1
    have hlt:rr.toNat<left.length:=by omega
    refine⟨lf,left.map V.int,rr,rr.toNat,.int left[rr.toNat],rfl,rfl,by rw[e3 lf nlt];exact hlf2,by omega,by omega,PySem.StrLaws.seqIndex_nonneg h0 (by rw[zE];omega),by rw[zZ,zF hlt];rfl,?_⟩
    rw[zEy left rr.toNat]
    have s3:Sm t H H3:=fun b o nb e=>by rw[e3 b nb];exact s2 b o nb e
    have hlf0:H lf=none:=hlf
    refine⟨D,_,_,rfl,rfl,by rw[zf nDl,e3 D nDt];exact hD2,by rw[zE];exact zu (by omega),?_⟩
    refine⟨_,row++[left[rr.toNat]],left.eraseIdx rr.toNat,rfl,by rw[zB,hl];rfl,?_,by rw[zf nDl.symm,zK],by rw[zj];exact zK,TP3.keepF (fun o e=>by rw[zf nDt.symm,zf nlt.symm];exact e) (fun o e=>by rw[zf nDp.symm,zf nlp.symm];exact e) (by omega),(s3.chg hlf0).chg hD0⟩
    refine List.Perm.trans ?_ hp
    rw[zAc]
    exact (zDz hlt).append_left row
end
theorem zAE.neT {H:Hp}{t b:Addr}{N:Nat}{ys:List V}(h:zAE H t N)(hb:H b=some (.tup ys)):b≠t:=by
 obtain⟨p,ns,spot,rest,a,_⟩:=h
 exact zDe hb a (by intro z;cases z)
theorem zJ5 {H:Hp}{t:Addr}{N:Nat}(T:zAE H t N):∀b ys,H b=some (.tup ys)->hid t H b=some (.tup ys):=fun b ys e=>zHx (T.neT e) e
mutual
theorem zFv:∀(p:Pln),zFw p->wid p<=(zAK p).length/\1<=(zAK p).length
 | .mk ps ks,g=>by
  rw[zFw] at g
  have h:=zGd ks g.2
  have:0<ps.length:=zAi.mpr g.1
  rw[wid,zAK,zB]
  omega
theorem zGd:∀(ks:List Pln),zCS ks->zDX ks<=(zAD ks).length/\ks.length<=(zAD ks).length
 | [],_=>⟨zb _,zb _⟩
 | k::ks,g=>by
  rw[zCS] at g
  have a:=zFv k g.1
  have b:=zGd ks g.2
  rw[zDX,zAD,zB,zY]
  omega
end
theorem zHj:∀ks:List Pln,zBa ks=ks.map plD
 | []=>rfl
 | k::ks=>by rw[zBa,zAG,zHj ks]
theorem zHi:∀(m:Nat)(p:Pln),hgt p<=m->zJL p->zFw p->(∀x∈zAK p,0<=x)->zBW m (plD p)=true
 | 0,.mk ps ks,h,_,_,_=>by rw[hgt] at h;omega
 | m+1,.mk ps ks,h,r,g,nn=>by
  rw[hgt] at h
  rw[zJL] at r
  rw[zFw] at g
  rw[zAK] at nn
  have h1:zCB (.tuple (ps.map PyData.int))=true:=by
   show (!(ps.map PyData.int).isEmpty && ((ps.map PyData.int).all nnD && zFh ((ps.map PyData.int).map zFF)))=true
   rw[zHu,(zEH ps).mpr r.1,Bool.and_true,zAC]
   refine⟨?_,zA7.mpr fun d hd=>?_⟩
   . cases ps with
     | nil=>exact absurd rfl g.1
     | cons _ _=>rfl
   . obtain⟨x,hx,rfl⟩:=zAY.mp hd
     exact zQ (nn x (zJ.mpr (.inl hx)))
  rw[plD]
  show (zCB (.tuple (ps.map PyData.int)) && (zBa ks).all (zBW m))=true
  rw[h1,Bool.true_and,zA7,zHj]
  intro d hd
  obtain⟨k,hk,rfl⟩:=zAY.mp hd
  have:=zCk hk
  exact zHi m k (by omega) (zFO r.2 hk) (zEv g.2 hk) fun x hx=>nn x (zJ.mpr (.inr (zC7 hx hk)))
theorem zIS {n:Int}{ts:List T3}{p:Pln}(R:PlR ts (lowTo n.toNat) p)(n0:0<=n)(n24:n<=24)(G:GW n ts):zBr n ts (plD p) none:=by
 have hr:∀x∈zAK p,0<=x/\x<n:=fun x hx=>by
  have:=zCi.mp (R.pm.mem_iff.mp hx)
  omega
 have al:∀x,0<=x->x<n->x∈zAK p:=fun x x0 x1=>R.pm.mem_iff.mpr (zCi.mpr (by omega))
 have ht:=R.ht
 rw[zBR] at ht
 refine .none p rfl (zHi 24 p (by omega) R.rs R.gd fun x hx=>(hr x hx).1) (zEh.mpr ⟨R.pm.nodup_iff.mpr ((zEs _).imp fun h=>by omega),hr⟩) al fun a b l hm=>?_
 have hg:=G.rng _ hm
 dsimp only at hg
 exact R.tie a b l (.inl hm) (al a (by omega) (by omega)) (al b (by omega) (by omega))
theorem PlT.data {h m W:Nat}{p:Pln}(g:PlT h m W p)(hm:m<=500)(hW:W<=40):IB 100 40 (plD p)/\Fn (34*m) (2*h) (plD p):=by
 obtain⟨a,b,c,d,e⟩:=g
 obtain⟨i,_,_,f⟩:=zJV p d (fun x hx=>by have:=e x hx;unfold Nn at this;omega) (by omega) (by omega)
 exact⟨i,f.mono (by omega) (by omega)⟩
end K39
namespace K39
open PySem L2 WM
noncomputable def zKn (K:PySem.W.Frag):Sp:=fun vs H Q _=>∃(a:Addr)(ns:List Int),vs=[.ref a]/\SqL K H a (ns.map V.int)/\ns.length<=63/\∀H',Q (.bl true) H'
theorem zKp {H:Hp}{xs:List V}{ds:List PyData}{i:Nat}{x:V}(h:zq H xs ds)(e:xs[i]? = some x):∃d,d∈ds/\zAj H x d:=by
 induction xs generalizing ds i with
 | nil=>simp at e
 | cons y ys ih=>
  cases h with
  | cons a b=>
   cases i with
   | zero=>
    simp at e
    subst e
    exact⟨_,zT,a⟩
   | succ i=>
    obtain⟨d,hd,s⟩:=ih b (by simpa using e)
    exact⟨d,zN _ hd,s⟩
noncomputable def zG3 (n:Int):List PyData:=(lowTo n.toNat).map PyData.int
noncomputable def six (n:Int):List PyData:=[.none,.tuple [],.tuple [.tuple (zG3 n)],.tuple [.list (zG3 n),.tuple []],.tuple [.tuple (zG3 n),.tuple []],.tuple [.tuple (zG3 n),.list []]]
theorem zFD {H:Hp}{e:Addr}{ws:List V}{ds:List PyData}(he:H e=none)(S:zq H ws ds):zAj (upd H e (.tup ws)) (.ref e) (.tuple ds):=.tup zK (zCT (zG he) S)
theorem lay_l {H:Hp}{e:Addr}{ws:List V}{ds:List PyData}(he:H e=none)(S:zq H ws ds):zAj (upd H e (.lst ws)) (.ref e) (.list ds):=.lst zK (zCT (zG he) S)
theorem zKE {n p L:Nat}{ds:List PyData}(h:∀d∈ds,Fn n p d)(hl:ds.length<=L):Fn (L*(n+1)) (p+1) (.list ds):=by
 obtain⟨a,b,c,e,f⟩:=zKF h
 refine⟨?_,?_,?_,?_,?_⟩
 . simp only[PyData.weight]
   exact zz a (Nat.mul_le_mul_right _ hl)
 . simp only[PyData.depth];omega
 . simp only[PyData.canLay0];exact c
 . simp only[PyData.intsShort];exact e
 . simp only[PyData.showable];exact f
theorem six_ok {n:Int}(h1:1<=n)(h2:n<=12):∀d∈six n,IB 100 40 d/\Fn 19000 50 d:=by
 have hl:(zG3 n).length<=12:=by rw[zG3,zE,zBR];omega
 have hi:∀d∈zG3 n,IB 100 40 d/\Fn 30 0 d:=fun d hd=>by
  obtain⟨x,hx,rfl⟩:=zAY.mp hd
  have:=zCi.mp hx
  exact⟨.int _ (by omega),zDP (by omega)⟩
 have a1:IB 100 40 (.tuple (zG3 n))/\Fn 500 1 (.tuple (zG3 n)):=⟨.tup _ (by omega) fun d hd=>(hi d hd).1,(zD7 (fun d hd=>(hi d hd).2) hl).mono (by decide) (by decide)⟩
 have a2:IB 100 40 (.list (zG3 n))/\Fn 500 1 (.list (zG3 n)):=⟨.lst _ (by omega) fun d hd=>(hi d hd).1,(zKE (fun d hd=>(hi d hd).2) hl).mono (by decide) (by decide)⟩
 have a3:IB 100 40 (.tuple [])/\Fn 500 1 (.tuple []):=⟨.tup _ (by decide) (fun d hd=>by cases hd),(zD7 (n:=0) (p:=0) (L:=0) (fun d hd=>by cases hd) (zH _)).mono (by decide) (by decide)⟩
 have a4:IB 100 40 (.list [])/\Fn 500 1 (.list []):=⟨.lst _ (by decide) (fun d hd=>by cases hd),(zKE (n:=0) (p:=0) (L:=0) (fun d hd=>by cases hd) (zH _)).mono (by decide) (by decide)⟩
 have two:∀a b:PyData,IB 100 40 a/\Fn 500 1 a->IB 100 40 b/\Fn 500 1 b->IB 100 40 (.tuple [a,b])/\Fn 19000 50 (.tuple [a,b]):=fun a b ha hb=>by
  refine⟨.tup _ (by show 2<=40;decide) fun d hd=>?_,(fn2 ha.2 hb.2).mono (by decide) (by decide)⟩
  simp only[zR,zA6,or_false] at hd
  rcases hd with rfl | rfl
  . exact ha.1
  . exact hb.1
 intro d hd
 unfold six at hd
 simp only[zR,zA6,or_false] at hd
 rcases hd with rfl | rfl | rfl | rfl | rfl | rfl
 . exact⟨.non,zKD.mono (by decide) (by decide)⟩
 . exact⟨a3.1,a3.2.mono (by decide) (by decide)⟩
 . refine⟨.tup _ (by show 1<=40;decide) fun d hd=>?_,(zD7 (n:=500) (p:=1) (L:=1) (fun d hd=>?_) (zH _)).mono (by decide) (by decide)⟩
   . rw[zk.mp hd];exact a1.1
   . rw[zk.mp hd];exact a1.2
 . exact two _ _ a2 a3
 . exact two _ _ a1 a3
 . exact two _ _ a1 a4
noncomputable def Pla (H:Hp)(v:V):Prop:=∃p:Pln,zAj H v (plD p)/\PlT 12 12 12 p
structure LwI (H:Hp)(t wa lp:Addr)(n:Int)(ts:List T3)(v v':V)(N:Nat):Prop where
 web:zC0 H wa n ts
 tape:zAE H t N
 hl:H lp=some (.lst [v,v'])
 ne:lp≠t
 p1:Pla H v
 p2:Pla H v'
theorem LwI.keep {H H':Hp}{t wa lp:Addr}{n:Int}{ts:List T3}{v v':V}{N:Nat}(I:LwI H t wa lp n ts v v' N)(s:zAo H H'):LwI H' t wa lp n ts v v' N:=by
 obtain⟨a,b,c,d,⟨p,e,g⟩,⟨p',e',g'⟩⟩:=I
 exact⟨a.keep s,b.keep s,s _ _ c,d,⟨p,zg s e,g⟩,⟨p',zg s e',g'⟩⟩
theorem LwI.sm {H H':Hp}{t wa lp:Addr}{n:Int}{ts:List T3}{v v':V}{N N':Nat}(I:LwI H t wa lp n ts v v' N)(s:Sm t H H')(T:zAE H' t N'):LwI H' t wa lp n ts v v' N':=by
 obtain⟨a,b,c,d,⟨p,e,g⟩,⟨p',e',g'⟩⟩:=I
 exact⟨a.sm b s,T,s _ _ d c,d,⟨p,zJU b s e,g⟩,⟨p',zJU b s e',g'⟩⟩
theorem LwI.at {H:Hp}{t wa lp:Addr}{n:Int}{ts:List T3}{v v' x:V}{N i:Nat}(I:LwI H t wa lp n ts v v' N)(h:[v,v'][i]? = some x):Pla H x:=by
 rcases zR.mp (zi h) with rfl | h
 . exact I.p1
 . rw[zk.mp h]
   exact I.p2
section
variable {P:Program}{w:World}{K:PySem.W.Frag}{mg:Str->Option Value}{base:Heap}
theorem zEU:zAN ["_law_script", "_law_tape_here", "_law_k", "_law_web_here", "_law_n_here", "_law_right_here", "_law_plan_here", "_law_thing", "_law_bends"] ["_law_script"] (defScope sLaw):=⟨rfl,rfl,rfl,by decide +kernel,rfl,by decide +kernel,by decide +kernel⟩
theorem ok_law {cW cP c1 c2 c3 c4 c5 c6 c7 c8 c9 c10 c11 fI f fTa fD fN fW fNu fWi fPl fTo fRs fIp fPw fPp fCh fCo fPo fLt fRa fPf fLk fTf fOr fB fPn fLq fLp fLf fLc fBe fPa fRp fCa fLx fFo fPt fR:Addr}{tk:Tok}{fdI fd' fdTa fdD fdN fdW fdNu fdWi fdPl fdTo fdRs fdIp fdPw fdPp fdCh fdCo fdPo fdLt fdRa fdPf fdLk fdTf fdOr fdB fdPn fdLq fdLp fdLf fdLc fdBe fdPa fdRp fdCa fdLx fdFo fdPt fdR:FuncData}(F:Fun K "law" "law" sLaw f fd') (Er:E39 K mg cW cP [c1,c2,c3,c4,c5,c6] [c7,c8,c9,c10,c11])(EI:zHS K cP fI)
 (FI:Fun K "__init__" "NoPlan.__init__" sI1 fI fdI) (bI:zAI K fdI ["self", "word", "at"] []) (mo:PySem.W.mroIn K cP (.type "object")=some true) (mMW:mg "MOST_WITHIN" = some (.int 24 tk))
 (FTa:Fun K "_law_tape" "_law_tape" zKs fTa fdTa) (bTa:zAI K fdTa ["_law_script"] []) (mTa:mg "_law_tape" = some (.ref fTa))
 (FD:Fun K "_law_draw" "_law_draw" zEC fD fdD) (bD:zAI K fdD ["_law_tape_here", "_law_many"] []) (mD:mg "_law_draw" = some (.ref fD))
 (FN:Fun K "_law_n" "_law_n" sN fN fdN) (bN:zAI K fdN ["_law_tape_here"] []) (mN:mg "_law_n" = some (.ref fN))
 (FW:Fun K "_law_web" "_law_web" sWeb fW fdW) (bW:zAI K fdW ["_law_tape_here", "_law_n_here"] []) (mW:mg "_law_web" = some (.ref fW))
 (FNu:Fun K "is_number" "is_number" sNum fNu fdNu) (bNu:zAI K fdNu ["thing"] []) (mNu:mg "is_number" = some (.ref fNu))
 (FWi:Fun K "is_within" "is_within" sWi fWi fdWi) (bWi:zAI K fdWi ["thing", "least", "most"] []) (mWi:mg "is_within" = some (.ref fWi))
 (FPl:Fun K "is_place" "is_place" sPl fPl fdPl) (bPl:zAI K fdPl ["n", "thing"] []) (mPl:mg "is_place" = some (.ref fPl))
 (FTo:Fun K "is_tuple_of" "is_tuple_of" sTof fTo fdTo) (bTo:zAI K fdTo ["thing", "count"] []) (mTo:mg "is_tuple_of" = some (.ref fTo))
 (FRs:Fun K "is_rising" "is_rising" sRis fRs fdRs) (bRs:zAI K fdRs ["things"] []) (mRs:mg "is_rising" = some (.ref fRs))
 (FIp:Fun K "is_plan" "is_plan" sIp fIp fdIp) (bIp:zAI K fdIp ["thing"] []) (mIp:mg "is_plan" = some (.ref fIp))
 (FPw:Fun K "is_plan_within" "is_plan_within" sPw fPw fdPw) (bPw:zAI K fdPw ["thing", "most"] []) (mPw:mg "is_plan_within" = some (.ref fPw))
 (FPp:Fun K "are_plan_places" "are_plan_places" sPp fPp fdPp) (bPp:zAI K fdPp ["thing"] []) (mPp:mg "are_plan_places" = some (.ref fPp))
 (FCh:Fun K "chain" "chain" sCh fCh fdCh) (bCh:zAI K fdCh ["plan", "place"] []) (mCh:mg "chain" = some (.ref fCh))
 (FCo:Fun K "chain_or_none" "chain_or_none" sCo fCo fdCo) (bCo:zAI K fdCo ["plan", "place"] []) (mCo:mg "chain_or_none" = some (.ref fCo))
 (FPo:Fun K "plan_order" "plan_order" sPo fPo fdPo) (bPo:zAI K fdPo ["plan"] []) (mPo:mg "plan_order" = some (.ref fPo))
 (FLt:Fun K "lets_plan" "lets_plan" zJJ fLt fdLt) (bLt:zAI K fdLt ["web", "thing"] []) (mLt:mg "lets_plan" = some (.ref fLt))
 (FRa:Fun K "refuse_at" "refuse_at" zJI fRa fdRa) (bRa:zAI K fdRa ["word", "at"] []) (mRa:mg "refuse_at" = some (.ref fRa))
 (FPf:Fun K "place_fault" "place_fault" sPf fPf fdPf) (bPf:zAI K fdPf ["web", "plan"] []) (mPf:mg "place_fault" = some (.ref fPf))
 (FLk:Fun K "lacks_fault" "lacks_fault" sLk fLk fdLk) (bLk:zAI K fdLk ["web", "plan"] []) (mLk:mg "lacks_fault" = some (.ref fLk))
 (FTf:Fun K "tie_fault" "tie_fault" sTf fTf fdTf) (bTf:zAI K fdTf ["web", "plan"] []) (mTf:mg "tie_fault" = some (.ref fTf))
 (FOr:Fun K "_law_order" "_law_order" zHc fOr fdOr) (bOr:zAI K fdOr ["_law_tape_here", "_law_n_here"] []) (mOr:mg "_law_order" = some (.ref fOr))
 (FB:Fun K "_law_bent" "_law_bent" zJK fB fdB) (bB:zAI K fdB ["_law_tape_here", "_law_thing"] []) (mB:mg "_law_bent" = some (.ref fB))
 (FPn:Fun K "_law_plan" "_law_plan" sPn fPn fdPn) (bPn:zAI K fdPn ["_law_tape_here", "_law_pool"] []) (mPn:mg "_law_plan" = some (.ref fPn))
 (FLq:Fun K "_law_is_places" "_law_is_places" sLq fLq fdLq) (bLq:zAI K fdLq ["_law_thing"] []) (mLq:mg "_law_is_places" = some (.ref fLq))
 (FLp:Fun K "_law_is_plan" "_law_is_plan" sLp fLp fdLp) (bLp:zAI K fdLp ["_law_thing", "_law_deep"] []) (mLp:mg "_law_is_plan" = some (.ref fLp))
 (FLf:Fun K "_law_flat" "_law_flat" sLf fLf fdLf) (bLf:zAI K fdLf ["_law_plan_here"] []) (mLf:mg "_law_flat" = some (.ref fLf))
 (FLc:Fun K "_law_chain" "_law_chain" sLc fLc fdLc) (bLc:zAI K fdLc ["_law_plan_here", "_law_place"] []) (mLc:mg "_law_chain" = some (.ref fLc))
 (FBe:Fun K "_law_beside" "_law_beside" sBes fBe fdBe) (bBe:zAI K fdBe ["_law_web_here"] []) (mBe:mg "_law_beside" = some (.ref fBe))
 (FPa:Fun K "_law_parts" "_law_parts" sPar fPa fdPa) (bPa:zAI K fdPa ["_law_beside_each", "_law_places"] []) (mPa:mg "_law_parts" = some (.ref fPa))
 (FRp:Fun K "_law_right_plan" "_law_right_plan" sRpl fRp fdRp) (bRp:zAI K fdRp ["_law_tape_here", "_law_beside_each", "_law_places"] []) (mRp:mg "_law_right_plan" = some (.ref fRp))
 (FCa:Fun K "_law_called" "_law_called" sCal fCa fdCa) (bCa:zAI K fdCa ["_law_plan_here", "_law_names"] []) (mCa:mg "_law_called" = some (.ref fCa))
 (FLx:Fun K "_law_plan_fault" "_law_plan_fault" sLpf fLx fdLx) (bLx:zAI K fdLx ["_law_web_here", "_law_thing"] []) (mLx:mg "_law_plan_fault" = some (.ref fLx))
 (FFo:Fun K "_law_plan_found" "_law_plan_found" sFou fFo fdFo) (bFo:zAI K fdFo ["_law_web_here", "_law_thing"] []) (mFo:mg "_law_plan_found" = some (.ref fFo))
 (FPt:Fun K "_law_plan_turned" "_law_plan_turned" sPtu fPt fdPt) (bPt:zAI K fdPt ["_law_tape_here", "_law_plan_here", "_law_n_here"] []) (mPt:mg "_law_plan_turned" = some (.ref fPt))
 (FR:Fun K "_law_right" "_law_right" zHb fR fdR) (bR:zAI K fdR ["_law_web_here", "_law_thing"] []) (mR:mg "_law_right" = some (.ref fR))
 (mLen:mg "len" = none) (mRange:mg "range" = none) (mTuple:mg "tuple" = none) (mSorted:mg "sorted" = none) (mRepr:mg "repr" = none) (mList:mg "list" = none) (mIsi:mg "isinstance" = none) (mInt:mg "int" = none) (mBool:mg "bool" = none) (mAll:mg "all" = none) (mStr:mg "str" = none) (mSet:mg "set" = none) (mMin:mg "min" = none) (mVal:mg "ValueError" = none):zAs P w K mg base CX0 32 f fd' ["_law_script"] (zKn K):=by
 have GTa:zAs P w K mg base CX0 31 fTa fdTa ["_law_script"] (zLe K):=(zMa FTa).mono (by decide)
 have GN:zAs P w K mg base CX0 31 fN fdN ["_law_tape_here"] spN:=(ok_n FN FD bD mD mLen).mono (by decide)
 have GW':zAs P w K mg base CX0 31 fW fdW ["_law_tape_here", "_law_n_here"] spWeb:=(ok_web FW FD bD mD mLen mRange mTuple mSorted).mono (by decide)
 have GPp:zAs P w K mg base CX0 2 fPp fdPp ["thing"] zLf:=ok_pp FPp FNu bNu mNu FRs bRs mRs mIsi mInt mBool mTuple mLen mRange mAll
 have GPw:zAs P w K mg base CX0 27 fPw fdPw ["thing", "most"] (spPw 24):=ok_pw FPw bPw mPw FTo bTo mTo FPp bPp mPp GPp mIsi mTuple mLen mAll 24
 have GIp:zAs P w K mg base CX0 28 fIp fdIp ["thing"] spIp:=ok_ip FIp FPw bPw mPw GPw mMW
 have GPo:zAs P w K mg base CX0 25 fPo fdPo ["plan"] (spPo 24):=ok_po FPo bPo mPo mList mTuple 24
 have GCh:zAs P w K mg base CX0 26 fCh fdCh ["plan", "place"] (spCh 24):=ok_ch FCh FCo bCo mCo mTuple mSorted mSet
 have GPf:zAs P w K mg base CX0 28 fPf fdPf ["web", "plan"] (spPf 24):=ok_pf FPf FPo bPo mPo (GPo.mono (by decide)) FPl bPl mPl ((ok_plB FPl FWi bWi mWi FNu bNu mNu mIsi mInt mBool).mono (by decide))
 have GLk:zAs P w K mg base CX0 28 fLk fdLk ["web", "plan"] (spLk 24):=ok_lk FLk FPo bPo mPo (GPo.mono (by decide)) mRange mMin
 have GTf:zAs P w K mg base CX0 28 fTf fdTf ["web", "plan"] (spTf 24):=ok_tf FTf FCh bCh mCh (GCh.mono (by decide)) mRange
 have GI:zAs P w K mg base CX0 1 fI fdI ["self", "word", "at"] (spXI cP "word" "at"):=ok_I1 FI EI mo Er.n1 Er.n2
 have GRa:zAs P w K mg base (CXI P w) 3 fRa fdRa ["word", "at"] (zI3 cP):=zMb FRa Er.mP EI bI GI
 have GLt:zAs P w K mg base (CXI P w) 29 fLt fdLt ["web", "thing"] (zI5 cP):=zMd FLt Er.mP EI bI (GI.mono (by decide)) FIp bIp mIp GIp FRa bRa mRa (GRa.mono (by decide)) FPf bPf mPf GPf FLk bLk mLk GLk FTf bTf mTf GTf
 have GFo:zAs P w K mg base CX0 30 fFo fdFo ["_law_web_here", "_law_thing"] zMJ:=ok_fou FFo Er EI FLt bLt mLt GLt mIsi mVal
 have GLq:zAs P w K mg base CX0 1 fLq fdLq ["_law_thing"] zLf:=ok_lq FLq mIsi mInt mBool mTuple mLen mSorted mSet
 have GLp:zAs P w K mg base CX0 28 fLp fdLp ["_law_thing", "_law_deep"] (spLp 24):=(ok_lp FLp bLp mLp FLq bLq mLq GLq mIsi mTuple mLen 24).mono (by decide)
 have GLf:zAs P w K mg base CX0 28 fLf fdLf ["_law_plan_here"] (spLf 24):=(zMc FLf bLf mLf mList 24).mono (by decide)
 have GLc:zAs P w K mg base CX0 28 fLc fdLc ["_law_plan_here", "_law_place"] (spLc 24):=(ok_lc FLc FLf bLf mLf mList mTuple mSorted).mono (by decide)
 have GLx:zAs P w K mg base CX0 30 fLx fdLx ["_law_web_here", "_law_thing"] zKm:=(ok_lpf FLx FLp bLp mLp GLp FLf bLf mLf GLf FLc bLc mLc GLc mRange mLen).mono (by decide)
 have GR:zAs P w K mg base CX0 31 fR fdR ["_law_web_here", "_law_thing"] spRi:=ok_ri FR FLx bLx mLx GLx FFo bFo mFo GFo mRepr
 have GLx':zAs P w K mg base CX0 31 fLx fdLx ["_law_web_here", "_law_thing"] zKm:=GLx.mono (by decide)
 have GB:zAs P w K mg base CX0 31 fB fdB ["_law_tape_here", "_law_thing"] (spB 30):=zJi FB bB mB FD bD mD mIsi mInt mBool mTuple mList mStr mLen 30
 have GOr:zAs P w K mg base CX0 31 fOr fdOr ["_law_tape_here", "_law_n_here"] zI4:=(zK7 FOr FD bD mD mLen mRange mTuple mList).mono (by decide)
 have GPn:zAs P w K mg base CX0 31 fPn fdPn ["_law_tape_here", "_law_pool"] (spPn 12):=(ok_pn FPn bPn mPn FD bD mD mLen mMin mTuple mSorted 12).mono (by decide)
 have GBe:zAs P w K mg base CX0 31 fBe fdBe ["_law_web_here"] spBes:=(ok_bes FBe mRange).mono (by decide)
 have GRp:zAs P w K mg base CX0 31 fRp fdRp ["_law_tape_here", "_law_beside_each", "_law_places"] (spRpl 24):=(zLm FRp bRp mRp FD bD mD FPa bPa mPa mLen mRange mTuple mList mSorted mMin 24).mono (by decide)
 have GPt:zAs P w K mg base CX0 31 fPt fdPt ["_law_tape_here", "_law_plan_here", "_law_n_here"] (spPtu 16):=(zLn FPt bPt mPt FD bD mD FCa bCa mCa mLen mTuple mSorted 16).mono (by decide)
 refine F.ok zEU (fun vs H Q E h=>?_) (fun cdv A outer s H vs Q E hr h=>?_)
 . obtain⟨a,ns,rfl,_⟩:=h
   rfl
 . obtain⟨a,ns,rfl,hS,hlen,k⟩:=h
   have hu:=zIj hr
   refine⟨_,zV (zAL (i:=1) zEU.nd rfl (Or.inl rfl) (zl GTa hr rfl mTa FTa.kp bTa .nil zAU (zC (pv 0) zL)))
    (zV (zCI PassesOwn.never rfl (zBw rfl mRange (zCh zL)) (zAX (i:=2) zEU.nd rfl (Or.inl rfl))
     (zV (zAL (i:=3) zEU.nd rfl (Or.inl rfl) (zl GW' hr rfl mW FW.kp bW .nil zAU (zC (pv 1) (zC (zl GN hr rfl mN FN.kp bN .nil zAU (zC (pv 1) zL)) zL))))
     (zV (zAL (i:=4) zEU.nd rfl (Or.inl rfl) (zAM zAP (pv 3) zX (fun _ _=>rfl)))
     (zV (zAL (i:=5) zEU.nd rfl (Or.inl rfl) (zl GRp hr rfl mRp FRp.kp bRp .nil zAU (zC (pv 1) (zC (zl GBe hr rfl mBe FBe.kp bBe .nil zAU (zC (pv 3) zL)) (zC (zEa rfl rfl mList rfl mRange (zC (pv 4) zL)) zL)))))
     (zV (zBc (zAF (zJg (Nat.lt_of_succ_lt hu)) (zl GLx' hr rfl mLx FLx.kp bLx .nil zAU (zC (pv 3) (zC (pv 5) zL))) (zAm zL) (zAg _)) zHf zAZ)
     (zV (zCI PassesOwn.never rfl (zDu (zBx (zC (pv 5) (zC (zl GPn hr rfl mPn FPn.kp bPn .nil zAU (zC (pv 1) (zC (zAv zB3 (by rfl) mList (by decide +kernel) (zC (zl GOr hr rfl mOr FOr.kp bOr .nil zAU (zC (pv 1) (zC (pv 4) zL))) zL)) zL))) zL)))) (zAX (i:=6) zEU.nd rfl (Or.inl rfl))
      (zV (zAL (i:=7) zEU.nd rfl (Or.inl rfl) (pv 6))
      (zV (zCI PassesOwn.never rfl (zBw rfl mRange (zCh zL)) (zAX (i:=8) zEU.nd rfl (Or.inl rfl))
       (zV (zBc (zB0 (zBL (zl GR hr rfl mR FR.kp bR .nil zAU (zC (pv 3) (zC (pv 7) zL))))) zHf zAZ)
       (ze (zAL (i:=7) zEU.nd rfl (Or.inl rfl) (zl GPt hr rfl mPt FPt.kp bPt .nil zAU (zC (pv 1) (zC (pv 7) (zC (pv 4) zL))))))))
      (ze (zBc (PW.pt (zDF (zB0 (zBL (zl GR hr rfl mR FR.kp bR .nil zAU (zC (pv 3) (zC (zl GB hr rfl mB FB.kp bB .nil zAU (zC (pv 1) (zC (pv 6) zL))) zL))))) (zDK (zB0 (zBL (zl GR hr rfl mR FR.kp bR .nil zAU (zC (pv 3) (zC (zl GB hr rfl mB FB.kp bB .nil zAU (zC (pv 1) (zC (pv 6) zL))) zL)))))))) zHf zAZ)))))
     (ze (zCI PassesOwn.never rfl (zDu (zBx (zC zDM (zC (zAm zL) (zC (zAm (zC (zEZ rfl rfl mTuple rfl mRange (zC (pv 4) zL)) zL)) (zC (zAm (zC (zEa rfl rfl mList rfl mRange (zC (pv 4) zL)) (zC (zAm zL) zL))) (zC (zAm (zC (zEZ rfl rfl mTuple rfl mRange (zC (pv 4) zL)) (zC (zAm zL) zL))) (zC (zAm (zC (zEZ rfl rfl mTuple rfl mRange (zC (pv 4) zL)) (zC (zBx zL) zL))) zL)))))))) (zAX (i:=7) zEU.nd rfl (Or.inl rfl))
      (ze (zBc (zB0 (zBL (zl GR hr rfl mR FR.kp bR .nil zAU (zC (pv 3) (zC (pv 7) zL))))) zHf zAZ))))))))))
    (ze (zAH zDw))),?_⟩
   refine⟨_,rfl,a,ns,rfl,hS,hlen,fun t H1 ht T1 s1=>?_⟩
   refine⟨4,rfl,by decide,by decide,zCL (lo:=0) (n:=4) (fun q σ H2=>∃v2 v3 v4 v5 v6 v7 v8:Option V,σ=[some (.ref a),some (.ref t),v2,v3,v4,v5,v6,v7,v8]/\zAE H2 t (2000*q)) ⟨_,_,_,_,_,_,_,rfl,T1⟩ (fun q σ H2 hq z=>?_) (fun σ H2 z=>?_)⟩
   . obtain⟨v2,v3,v4,v5,v6,v7,v8,rfl,T2⟩:=z
     rw[Int.zero_add]
     refine⟨_,rfl,_,rfl,t,2000*q,rfl,T2,by omega,fun n H3 n1 n12 T3 s3=>?_⟩
     refine⟨t,2000*q+1,n,rfl,T3,by omega,n1,by omega,fun wa ts H4 _ W4 T4 s4=>?_⟩
     clear T2 T3 s3 s4
     obtain⟨ta,tys,hwa,_,_,G⟩:=id W4
     refine⟨_,rfl,wa,_,_,_,rfl,rfl,SqT.of hwa,rfl,?_⟩
     refine⟨_,rfl,_,rfl,wa,n,ts,rfl,W4,fun bl H5 s5 SB=>?_⟩
     refine⟨_,rfl,n,rfl,by omega,by omega,fun la hla=>?_⟩
     have s6:=zG (o:=.lst ((lowTo n.toNat).map V.int)) hla
     have s46:=s5.trans s6
     obtain⟨tp,TP6⟩:=T4.keep s46
     have W6:=W4.keep s46
     refine⟨t,tp,bl,la,n,ts,_,lowTo n.toNat,rfl,TP6,by rw[zBR];omega,SB.same s6,G,zK,(zEs _).imp fun h=>by omega,fun x hx=>by have:=zCi.mp hx;omega,by rw[zBR];omega,by rw[zBR];omega,by rw[zBR];omega,fun v p H7 s7 T7 S7 R7=>?_⟩
     have TA6:zAE _ t _:=⟨tp,TP6⟩
     have W7:=W6.sm TA6 s7
     rw[zBR] at T7
     have hl7:(zAK p).length=n.toNat:=by rw[R7.pm.length_eq,zBR]
     have hh7:=R7.ht
     rw[zBR] at hh7
     have gw:=(zFv p R7.gd).1
     have PT7:PlT 12 12 12 p:=⟨by omega,by omega,by omega,R7.gd,fun x hx=>by have:=zCi.mp (R7.pm.mem_iff.mp hx);exact⟨by omega,by omega⟩⟩
     obtain⟨ib7,fn7⟩:=PT7.data (by decide) (by decide)
     refine⟨_,rfl,_,rfl,wa,v,_,n,ts,100,40,rfl,W7,S7,ib7,by decide,zz fn7.wt (by decide),fun fo q8 H8 hfo s8 S8=>?_⟩
     cases hfo.uniq (zIS R7 (by omega) (by omega) G)
     refine⟨by show 0<=sizeLine;decide,fun p9 hp9=>?_⟩
     have hq8:H8 q8=some (.tup []):=by
      cases S8 with
      | tup e al=>cases al;exact e
     have s9:=s8.trans (zG (o:=.tup []) hp9)
     refine⟨q8,p9,[],rfl,rfl,SqT.of (zG hp9 _ _ hq8),SqT.of zK,_,rfl,zCZ ?_⟩
     have W9:=W7.keep s9
     have S9:=zg s9 S7
     have T9:=zAE.keep ⟨tp,T7⟩ s9
     generalize upd H8 p9 (.tup [])=H9 at s9 W9 S9 T9 ⊢
     clear S8 s8 hq8 hp9 W7 S7 T7
     refine⟨_,rfl,_,rfl,_,rfl,_,rfl,t,_,n,rfl,T9,by omega,n1,by omega,fun lo os H10 hlo O T10 s10=>?_⟩
     refine⟨lo,_,rfl,.inr (SqT.of hlo),fun pa hpa=>?_⟩
     have s11:=zG (o:=.lst (os.map V.int)) hpa
     have hol:=O.ln
     obtain⟨tp',TP11⟩:=T10.keep s11
     refine⟨t,tp',pa,_,os,rfl,TP11,by omega,T10.ne hpa,zK,by omega,by omega,by omega,fun v' p' H12 S12 g12 pm12 h12 T12 s12=>?_⟩
     refine⟨by show 2<=sizeLine;decide,fun lp hlp=>?_⟩
     have gw':=(zFv p' g12).1
     have hl12:(zAK p').length=n.toNat:=by rw[pm12.length_eq,hol]
     have PT12:PlT 12 12 12 p':=⟨by omega,by omega,by omega,g12,fun x hx=>by have:=O.rng x (pm12.mem_iff.mp hx);exact⟨by omega,by omega⟩⟩
     have s13:=zG (o:=.lst [v,v']) hlp
     have sm912:Sm t H9 H12:=(s10.trans (Sm.of s11)).trans s12
     have LI:LwI (upd H12 lp (.lst [v,v'])) t wa lp n ts v v' (2000*q+400):=⟨(W9.sm T9 sm912).keep s13,(zAE.mono ⟨tp',T12⟩ (by omega)).keep s13,zK,zAE.ne ⟨tp',T12⟩ hlp,⟨p,zg s13 (zJU T9 sm912 S9),PT7⟩,⟨p',zg s13 S12,PT12⟩⟩
     refine⟨lp,rfl,⟨_,SqL.of zK⟩,?_⟩
     generalize upd H12 lp (.lst [v,v'])=H13 at LI ⊢
     clear S12 T12 s12 s10 s11 sm912 s13 hlp hpa TP11 T10 hlo W9 S9 T9 s9
     refine zH0 (a:=lp) (xs:=[v,v']) (fun i σ H5=>∃v6 v7 v8:Option V,σ=[some (.ref a),some (.ref t),some (.int q),some (.ref wa),some (.int n),some v,v6,v7,v8]/\LwI H5 t wa lp n ts v v' (2000*q+400+700*i)) ⟨_,_,_,rfl,LI⟩ (fun i σ H5 hi z=>?_) (fun i x σ H5 hx z=>?_) (fun σ H5 z=>?_)
     . obtain⟨_,_,_,_,I⟩:=z
       exact SqL.of I.hl
     . obtain⟨v6,v7,v8,rfl,I⟩:=z
       refine⟨_,rfl,?_⟩
       obtain⟨px,Sx,gx⟩:=I.at hx
       have hi2:i<2:=(zM.mp hx).1
       refine⟨4,rfl,by decide,by decide,zCL (lo:=0) (n:=4) (fun j σ H6=>∃(v8:Option V)(vt:V)(pt:Pln),σ=[some (.ref a),some (.ref t),some (.int q),some (.ref wa),some (.int n),some v,some x,some vt,v8]/\LwI H6 t wa lp n ts v v' (2000*q+400+700*i+90*j)/\zAj H6 vt (plD pt)/\PlT (12+j) (12*2 ^ j) (12+j) pt)
        ⟨_,x,px,rfl,I,Sx,gx⟩ (fun j σ H6 hj z=>?_) (fun σ H6 z=>?_)⟩
       . obtain⟨v8',vt,pt,rfl,I6,S6,g6⟩:=z
         rw[Int.zero_add]
         have hp:12*2 ^ j<=96:=by
          have:2 ^ j<=2 ^ 3:=Nat.pow_le_pow_right (by decide) (by omega)
          have:(2:Nat) ^ 3=8:=rfl
          omega
         have G6:PlT 16 96 16 pt:=⟨by have:=g6.ht;omega,by have:=g6.wd;omega,by have:=g6.ln;omega,g6.gd,g6.nn⟩
         obtain⟨ib6,fn6⟩:=G6.data (by decide) (by decide)
         refine⟨_,rfl,_,rfl,wa,vt,_,n,ts,100,40,rfl,I6.web,S6,ib6,by decide,by decide,fn6.mono (by decide) (by decide),fun H7 s7=>⟨_,rfl,zCZ ?_⟩⟩
         have I7:=I6.keep s7
         obtain⟨tq,TQ⟩:=I7.tape
         refine⟨_,rfl,_,rfl,_,rfl,t,tq,vt,pt,n,_,96,16,rfl,TQ,by omega,n1,by omega,zg s7 S6,G6,by decide,by decide,fun v'' p'' H8 s8 T8 S8 g8=>?_⟩
         refine⟨_,v'',p'',rfl,I7.sm s8 (zAE.mono ⟨tq,T8⟩ (by omega)),S8,?_⟩
         have a1:=g6.ht
         have a2:=g6.ln
         have a3:=g6.wd
         have e2:12*2 ^ (j+1)=2*(12*2 ^ j):=by rw[Nat.pow_succ];omega
         exact⟨by have:=g8.ht;omega,by have:=g8.wd;omega,by have:=g8.ln;omega,g8.gd,g8.nn⟩
       . obtain⟨v8',vt,pt,rfl,I6,_,_⟩:=z
         obtain⟨px6,S6,g6⟩:=I6.at hx
         obtain⟨ib6,fn6⟩:=g6.data (by decide) (by decide)
         refine⟨_,rfl,_,rfl,_,rfl,t,_,x,_,100,40,_,_,rfl,I6.tape,(show 2000*q+400+700*i+90*4+90<900000 by omega),zCn (zJ5 I6.tape) px6 S6,ib6,fn6,(by decide),(by decide),(by decide),fun v7 d7 H7 S7 ib7 fn7 T7 s7=>?_⟩
         have I7:=I6.sm s7 T7
         refine⟨wa,v7,d7,n,ts,_,_,rfl,I7.web,S7.shows,ib7,by decide,by decide,fn7.mono (by decide) (by decide),fun H8 s8=>⟨_,rfl,?_⟩⟩
         have I8:=I7.keep s8
         refine zCZ ?_
         obtain⟨px8,S8,g8⟩:=I8.at hx
         obtain⟨ib8,fn8⟩:=g8.data (by decide) (by decide)
         refine⟨_,rfl,_,rfl,_,rfl,t,_,x,_,100,40,_,_,rfl,I8.tape,(show 2000*q+400+700*i+90*4+90+90<900000 by omega),zCn (zJ5 I8.tape) px8 S8,ib8,fn8,(by decide),(by decide),(by decide),fun v9 d9 H9 S9 ib9 fn9 T9 s9=>?_⟩
         have I9:=I8.sm s9 (T9.mono (show 2000*q+400+700*i+90*4+90+90<=2000*q+400+700*(i+1) by omega))
         exact⟨wa,v9,d9,n,ts,_,_,rfl,I9.web,S9.shows,ib9,by decide,by decide,fn9.mono (by decide) (by decide),fun H10 s10=>⟨_,rfl,zCZ ⟨_,_,_,rfl,I9.keep s10⟩⟩⟩
     . obtain⟨v6,v7,v8,rfl,I⟩:=z
       have W5:=I.web
       have T5:=I.tape
       clear I LI PT12 PT7 ib7 fn7
       refine⟨by show 0<=sizeLine;decide,fun e1 he1=>?_⟩
       have X1:=zFD (ds:=[]) he1 .nil
       refine⟨_,rfl,n,rfl,by omega,by omega,fun e2 he2=>⟨by show 1<=sizeLine;decide,fun e3 he3=>?_⟩⟩
       have X2:=zFD (ds:=zG3 n) he2 (zCA _)
       have X3:=zFD he3 (.cons X2 .nil)
       have u3:=(zG (o:=.tup ((lowTo n.toNat).map V.int)) he2).trans (zG (o:=.tup [.ref e2]) he3)
       refine⟨_,rfl,n,rfl,by omega,by omega,fun e4 he4=>⟨by show 0<=sizeLine;decide,fun e5 he5=>⟨by show 2<=sizeLine;decide,fun e6 he6=>?_⟩⟩⟩
       have X4:=lay_l (ds:=zG3 n) he4 (zCA _)
       have X5:=zFD (ds:=[]) he5 .nil
       have X6:=zFD he6 (.cons (zg (zG he5) X4) (.cons X5 .nil))
       have u6:=((zG (o:=.lst ((lowTo n.toNat).map V.int)) he4).trans (zG (o:=.tup []) he5)).trans (zG (o:=.tup [.ref e4,.ref e5]) he6)
       refine⟨_,rfl,n,rfl,by omega,by omega,fun e7 he7=>⟨by show 0<=sizeLine;decide,fun e8 he8=>⟨by show 2<=sizeLine;decide,fun e9 he9=>?_⟩⟩⟩
       have X7:=zFD (ds:=zG3 n) he7 (zCA _)
       have X8:=zFD (ds:=[]) he8 .nil
       have X9:=zFD he9 (.cons (zg (zG he8) X7) (.cons X8 .nil))
       have u9:=((zG (o:=.tup ((lowTo n.toNat).map V.int)) he7).trans (zG (o:=.tup []) he8)).trans (zG (o:=.tup [.ref e7,.ref e8]) he9)
       refine⟨_,rfl,n,rfl,by omega,by omega,fun e10 he10=>⟨by show 0<=sizeLine;decide,fun e11 he11=>⟨by show 2<=sizeLine;decide,fun e12 he12=>?_⟩⟩⟩
       have X10:=zFD (ds:=zG3 n) he10 (zCA _)
       have X11:=lay_l (ds:=[]) he11 .nil
       have X12:=zFD he12 (.cons (zg (zG he11) X10) (.cons X11 .nil))
       have u12:=((zG (o:=.tup ((lowTo n.toNat).map V.int)) he10).trans (zG (o:=.lst []) he11)).trans (zG (o:=.tup [.ref e10,.ref e11]) he12)
       refine⟨by show 6<=sizeLine;decide,fun e13 he13=>?_⟩
       have u13:=zG (o:=.lst [.non,.ref e1,.ref e3,.ref e6,.ref e9,.ref e12]) he13
       have XS:zq _ [.non,.ref e1,.ref e3,.ref e6,.ref e9,.ref e12] (six n):=.cons .non (.cons (zg (((u3.trans u6).trans u9).trans u12) X1) (.cons (zg ((u6.trans u9).trans u12) X3) (.cons (zg (u9.trans u12) X6) (.cons (zg u12 X9) (.cons X12 .nil)))))
       have XT:=zCT u13 XS
       have u0:=(((((zG (o:=.tup []) he1).trans u3).trans u6).trans u9).trans u12).trans u13
       have W14:=W5.keep u0
       have T14:=T5.keep u0
       refine⟨e13,rfl,⟨_,SqL.of zK⟩,zH0 (a:=e13) (xs:=[.non,.ref e1,.ref e3,.ref e6,.ref e9,.ref e12]) (fun i σ H5=>∃v7:Option V,σ=[some (.ref a),some (.ref t),some (.int q),some (.ref wa),some (.int n),some v,v6,v7,v8]/\zAo _ H5) ⟨_,rfl,zAo.refl _⟩ (fun i σ H6 hi z=>?_) (fun i x σ H6 hx z=>?_) (fun σ H6 z=>?_)⟩
       . obtain⟨_,_,s6⟩:=z
         exact SqL.of (s6 _ _ zK)
       . obtain⟨v7',rfl,s6⟩:=z
         obtain⟨d,hd,Sx⟩:=zKp XT hx
         obtain⟨ibx,fnx⟩:=six_ok n1 n12 d hd
         exact⟨_,rfl,_,rfl,wa,x,d,n,ts,100,40,rfl,W14.keep s6,zg s6 Sx,ibx,by decide,by decide,fnx,fun H7 s7=>⟨_,rfl,zCZ ⟨_,rfl,s6.trans s7⟩⟩⟩
       . obtain⟨v7',rfl,s6⟩:=z
         exact⟨_,_,_,_,_,_,_,rfl,(T14.keep s6).mono (show 2000*q+400+700*2<=2000*(q+1) by omega)⟩
   . obtain⟨v2,v3,v4,v5,v6,v7,v8,rfl,_⟩:=z
     exact k _
end
end K39
namespace K39
open PySem L2 WM
noncomputable abbrev sT:String->Str:=Str.ofString
noncomputable abbrev kH:=PyData.keyHash
noncomputable abbrev dE:=DictEntry.mk
noncomputable abbrev vS:=Value.str
noncomputable abbrev vI:=Value.int
noncomputable abbrev vR:=Value.ref
noncomputable abbrev vB:=Value.bool
noncomputable abbrev vN:Value:=Value.none
noncomputable abbrev vT:=Value.type
noncomputable abbrev oM:=Obj.mk
noncomputable abbrev cQ (x:Array Value):Obj:=oM (vT "code") .none (.fields x) #[]
noncomputable abbrev fQ (x:FuncData):Obj:=oM (vT "function") .none (.func x) #[]
noncomputable abbrev fT (x:String)(i:Nat)(m:Value)(c:Nat):Obj:=fQ (.mk (sT x) (sT x) (L2.defArgs (top i)) (FuncBody.stmts (L2.defBody (top i))) (L2.defScope (top i)) 3 [] vN vN vN m .none (vR c) vN 0)
noncomputable abbrev qS (x:String)(n:Nat):Value:=vS (sT x) n
noncomputable abbrev kE (P:Params)(x:String)(n:Nat):Value->DictEntry:=dE (kH P (sT x)) (qS x n)
noncomputable def Kf:Params->PySem.W.Frag:=fun P=>[
(2,oM vN .none (Data.dict #[]) #[]),
(3,oM (vT "dict") .none (Data.dict #[kE P "__name__" 165 (qS "law_labelways_k39_plans_judged" 571),kE P "__doc__" 166 vN,kE P "__package__" 167 vN,kE P "__loader__" 168 (Value.builtin "__main__.__loader__#opaque"),kE P "__spec__" 169 vN,kE P "__annotations__" 170 (vR 6),kE P "__builtins__" 171 (vR 4),kE P "__file__" 173 (qS "/claim/cut.py" 172),kE P "__cached__" 174 vN,kE P "WayError" 206 (vR 24),kE P "NoLabels" 233 (vR 44),kE P "NoLeast" 260 (vR 63),kE P "NoPlan" 287 (vR 82),kE P "NoText" 314 (vR 101),kE P "NoOrder" 330 (vR 113),kE P "NoTree" 346 (vR 125),kE P "NoRing" 362 (vR 137),kE P "NoPosts" 378 (vR 149),kE P "NoTie" 394 (vR 161),kE P "NoPart" 410 (vR 173),kE P "NoRow" 426 (vR 185),kE P "TooMany" 442 (vR 197),kE P "is_number" 451 (vR 206),kE P "is_within" 460 (vR 213),kE P "is_tuple_of" 468 (vR 220),kE P "is_rising" 474 (vR 225),kE P "is_place" 482 (vR 232),kE P "MOST_WITHIN" 486 (vI 24 485),kE P "is_plan" 493 (vR 239),kE P "is_plan_within" 499 (vR 244),kE P "are_plan_places" 505 (vR 249),kE P "chain" 513 (vR 256),kE P "chain_or_none" 523 (vR 263),kE P "plan_order" 532 (vR 270),kE P "lets_plan" 540 (vR 277),kE P "refuse_at" 548 (vR 284),kE P "place_fault" 558 (vR 291),kE P "lacks_fault" 564 (vR 296),kE P "tie_fault" 570 (vR 301),kE P "_law_tape" 579 (vR 308),kE P "_law_draw" 591 (vR 315),kE P "_law_n" 598 (vR 322),kE P "_law_web" 604 (vR 327),kE P "_law_order" 615 (vR 334),kE P "_law_bent" 625 (vR 341),kE P "_law_plan" 637 (vR 348),kE P "_law_is_places" 643 (vR 353),kE P "_law_is_plan" 649 (vR 358),kE P "_law_flat" 658 (vR 365),kE P "_law_chain" 664 (vR 370),kE P "_law_beside" 670 (vR 375),kE P "_law_parts" 676 (vR 380),kE P "_law_right_plan" 682 (vR 385),kE P "_law_called" 688 (vR 390),kE P "_law_plan_fault" 702 (vR 397),kE P "_law_plan_found" 713 (vR 404),kE P "_law_plan_turned" 726 (vR 411),kE P "_law_right" 736 (vR 418),kE P "law" 751 (vR 425)] 59) #[]),
(23,oM (vT "dict") .none (Data.dict #[kE P "__module__" 196 (qS "labelways.errors" 187),kE P "__firstlineno__" 200 (vI 2 199),kE P "__static_attributes__" 201 (vR 22),kE P "__weakref__" 203 (vR 25),kE P "__doc__" 204 vN] 3) #[]),
(24,oM (vT "type") .none (Data.cls (ClassData.mk (sT "WayError") [vT "ValueError"] [vR 24,vT "ValueError",vT "Exception",vT "BaseException",vT "object"] 23 (sT "WayError") true [] [vR 44,vR 63,vR 82,vR 101,vR 113,vR 125,vR 137,vR 149,vR 161,vR 173,vR 185,vR 197] false .none false)) #[.some (vR 15),.none,.some (qS "WayError" 189),.some (qS "WayError" 197),.some (Value.builtin "ValueError.__new__"),.some (vB true)]),
(25,oM (vT "getset_descriptor") .none (Data.fields #[qS "__weakref__" 202,vR 24,Value.builtin "ExceptionGroup.__weakref__",vN]) #[]),
(40,cQ #[qS "__init__" 219,qS "NoLabels.__init__" 220,qS "/claim/cut.py" 221,vI 6 0,vI 3 0,vI 0 0,vI 0 0,vI 3 0,vR 35,vB true,vI 181 0,vR 36,vN,vR 37,vR 38,vR 39,vI 225 0,vI 6 0,qS "/claim/cut.py" 226]),
(41,fQ (.mk (sT "__init__") (sT "NoLabels.__init__") (Arguments.mk [] [Arg.mk (sT "self") .none (Pos.mk 6 17 6 21),Arg.mk (sT "word") .none (Pos.mk 6 23 6 27),Arg.mk (sT "at") .none (Pos.mk 6 29 6 31)] .none [] [] .none []) (FuncBody.stmts [Stmt.Assign [Expr.Attribute (Expr.Name (sT "self") (Pos.mk 7 8 7 12)) (sT "word") (Pos.mk 7 8 7 17)] (Expr.Name (sT "word") (Pos.mk 7 20 7 24)) (Pos.mk 7 8 7 24),Stmt.Assign [Expr.Attribute (Expr.Name (sT "self") (Pos.mk 8 8 8 12)) (sT "at") (Pos.mk 8 8 8 15)] (Expr.Name (sT "at") (Pos.mk 8 18 8 20)) (Pos.mk 8 8 8 20)]) (Scope.mk ScopeKind.function [(sT "self",NameKind.local),(sT "word",NameKind.local),(sT "at",NameKind.local)] false false []) 3 [] vN vN vN (qS "labelways.errors" 187) .none (vR 40) vN 0)),
(43,oM (vT "dict") .none (Data.dict #[kE P "__module__" 214 (qS "labelways.errors" 187),kE P "__firstlineno__" 218 (vI 4 217),kE P "__init__" 227 (vR 41),kE P "__static_attributes__" 230 (vR 42),kE P "__doc__" 231 vN] 2) #[]),
(44,oM (vT "type") .none (Data.cls (ClassData.mk (sT "NoLabels") [vR 24] [vR 44,vR 24,vT "ValueError",vT "Exception",vT "BaseException",vT "object"] 43 (sT "NoLabels") true [] [] false .none false)) #[.some (vR 28),.none,.some (qS "NoLabels" 207),.some (qS "NoLabels" 215),.some (Value.builtin "ValueError.__new__"),.some (vB true)]),
(59,cQ #[qS "__init__" 246,qS "NoLeast.__init__" 247,qS "/claim/cut.py" 248,vI 11 0,vI 3 0,vI 0 0,vI 0 0,vI 3 0,vR 54,vB true,vI 181 0,vR 55,vN,vR 56,vR 57,vR 58,vI 252 0,vI 11 0,qS "/claim/cut.py" 253]),
(60,fQ (.mk (sT "__init__") (sT "NoLeast.__init__") (Arguments.mk [] [Arg.mk (sT "self") .none (Pos.mk 11 17 11 21),Arg.mk (sT "word") .none (Pos.mk 11 23 11 27),Arg.mk (sT "at") .none (Pos.mk 11 29 11 31)] .none [] [] .none []) (FuncBody.stmts [Stmt.Assign [Expr.Attribute (Expr.Name (sT "self") (Pos.mk 12 8 12 12)) (sT "word") (Pos.mk 12 8 12 17)] (Expr.Name (sT "word") (Pos.mk 12 20 12 24)) (Pos.mk 12 8 12 24),Stmt.Assign [Expr.Attribute (Expr.Name (sT "self") (Pos.mk 13 8 13 12)) (sT "at") (Pos.mk 13 8 13 15)] (Expr.Name (sT "at") (Pos.mk 13 18 13 20)) (Pos.mk 13 8 13 20)]) (Scope.mk ScopeKind.function [(sT "self",NameKind.local),(sT "word",NameKind.local),(sT "at",NameKind.local)] false false []) 3 [] vN vN vN (qS "labelways.errors" 187) .none (vR 59) vN 0)),
(62,oM (vT "dict") .none (Data.dict #[kE P "__module__" 241 (qS "labelways.errors" 187),kE P "__firstlineno__" 245 (vI 9 244),kE P "__init__" 254 (vR 60),kE P "__static_attributes__" 257 (vR 61),kE P "__doc__" 258 vN] 2) #[]),
(63,oM (vT "type") .none (Data.cls (ClassData.mk (sT "NoLeast") [vR 24] [vR 63,vR 24,vT "ValueError",vT "Exception",vT "BaseException",vT "object"] 62 (sT "NoLeast") true [] [] false .none false)) #[.some (vR 47),.none,.some (qS "NoLeast" 234),.some (qS "NoLeast" 242),.some (Value.builtin "ValueError.__new__"),.some (vB true)]),
(78,cQ #[qS "__init__" 273,qS "NoPlan.__init__" 274,qS "/claim/cut.py" 275,vI 16 0,vI 3 0,vI 0 0,vI 0 0,vI 3 0,vR 73,vB true,vI 181 0,vR 74,vN,vR 75,vR 76,vR 77,vI 279 0,vI 16 0,qS "/claim/cut.py" 280]),
(79,fQ (.mk (sT "__init__") (sT "NoPlan.__init__") (L2.defArgs (mth 4 0)) (FuncBody.stmts (L2.defBody (mth 4 0))) (L2.defScope (mth 4 0)) 3 [] vN vN vN (qS "labelways.errors" 187) .none (vR 78) vN 0)),
(81,oM (vT "dict") .none (Data.dict #[kE P "__module__" 268 (qS "labelways.errors" 187),kE P "__firstlineno__" 272 (vI 14 271),kE P "__init__" 281 (vR 79),kE P "__static_attributes__" 284 (vR 80),kE P "__doc__" 285 vN] 2) #[]),
(82,oM (vT "type") .none (Data.cls (ClassData.mk (sT "NoPlan") [vR 24] [vR 82,vR 24,vT "ValueError",vT "Exception",vT "BaseException",vT "object"] 81 (sT "NoPlan") true [] [] false .none false)) #[.some (vR 66),.none,.some (qS "NoPlan" 261),.some (qS "NoPlan" 269),.some (Value.builtin "ValueError.__new__"),.some (vB true)]),
(97,cQ #[qS "__init__" 300,qS "NoText.__init__" 301,qS "/claim/cut.py" 302,vI 21 0,vI 3 0,vI 0 0,vI 0 0,vI 3 0,vR 92,vB true,vI 181 0,vR 93,vN,vR 94,vR 95,vR 96,vI 306 0,vI 21 0,qS "/claim/cut.py" 307]),
(98,fQ (.mk (sT "__init__") (sT "NoText.__init__") (Arguments.mk [] [Arg.mk (sT "self") .none (Pos.mk 21 17 21 21),Arg.mk (sT "line") .none (Pos.mk 21 23 21 27),Arg.mk (sT "word") .none (Pos.mk 21 29 21 33)] .none [] [] .none []) (FuncBody.stmts [Stmt.Assign [Expr.Attribute (Expr.Name (sT "self") (Pos.mk 22 8 22 12)) (sT "line") (Pos.mk 22 8 22 17)] (Expr.Name (sT "line") (Pos.mk 22 20 22 24)) (Pos.mk 22 8 22 24),Stmt.Assign [Expr.Attribute (Expr.Name (sT "self") (Pos.mk 23 8 23 12)) (sT "word") (Pos.mk 23 8 23 17)] (Expr.Name (sT "word") (Pos.mk 23 20 23 24)) (Pos.mk 23 8 23 24)]) (Scope.mk ScopeKind.function [(sT "self",NameKind.local),(sT "line",NameKind.local),(sT "word",NameKind.local)] false false []) 3 [] vN vN vN (qS "labelways.errors" 187) .none (vR 97) vN 0)),
(100,oM (vT "dict") .none (Data.dict #[kE P "__module__" 295 (qS "labelways.errors" 187),kE P "__firstlineno__" 299 (vI 19 298),kE P "__init__" 308 (vR 98),kE P "__static_attributes__" 311 (vR 99),kE P "__doc__" 312 vN] 2) #[]),
(101,oM (vT "type") .none (Data.cls (ClassData.mk (sT "NoText") [vR 24] [vR 101,vR 24,vT "ValueError",vT "Exception",vT "BaseException",vT "object"] 100 (sT "NoText") true [] [] false .none false)) #[.some (vR 85),.none,.some (qS "NoText" 288),.some (qS "NoText" 296),.some (Value.builtin "ValueError.__new__"),.some (vB true)]),
(112,oM (vT "dict") .none (Data.dict #[kE P "__module__" 322 (qS "labelways.errors" 187),kE P "__firstlineno__" 326 (vI 24 325),kE P "__static_attributes__" 327 (vR 111),kE P "__doc__" 328 vN] 2) #[]),
(113,oM (vT "type") .none (Data.cls (ClassData.mk (sT "NoOrder") [vR 24] [vR 113,vR 24,vT "ValueError",vT "Exception",vT "BaseException",vT "object"] 112 (sT "NoOrder") true [] [] false .none false)) #[.some (vR 104),.none,.some (qS "NoOrder" 315),.some (qS "NoOrder" 323),.some (Value.builtin "ValueError.__new__"),.some (vB true)]),
(124,oM (vT "dict") .none (Data.dict #[kE P "__module__" 338 (qS "labelways.errors" 187),kE P "__firstlineno__" 342 (vI 26 341),kE P "__static_attributes__" 343 (vR 123),kE P "__doc__" 344 vN] 2) #[]),
(125,oM (vT "type") .none (Data.cls (ClassData.mk (sT "NoTree") [vR 24] [vR 125,vR 24,vT "ValueError",vT "Exception",vT "BaseException",vT "object"] 124 (sT "NoTree") true [] [] false .none false)) #[.some (vR 116),.none,.some (qS "NoTree" 331),.some (qS "NoTree" 339),.some (Value.builtin "ValueError.__new__"),.some (vB true)]),
(136,oM (vT "dict") .none (Data.dict #[kE P "__module__" 354 (qS "labelways.errors" 187),kE P "__firstlineno__" 358 (vI 28 357),kE P "__static_attributes__" 359 (vR 135),kE P "__doc__" 360 vN] 2) #[]),
(137,oM (vT "type") .none (Data.cls (ClassData.mk (sT "NoRing") [vR 24] [vR 137,vR 24,vT "ValueError",vT "Exception",vT "BaseException",vT "object"] 136 (sT "NoRing") true [] [] false .none false)) #[.some (vR 128),.none,.some (qS "NoRing" 347),.some (qS "NoRing" 355),.some (Value.builtin "ValueError.__new__"),.some (vB true)]),
(148,oM (vT "dict") .none (Data.dict #[kE P "__module__" 370 (qS "labelways.errors" 187),kE P "__firstlineno__" 374 (vI 30 373),kE P "__static_attributes__" 375 (vR 147),kE P "__doc__" 376 vN] 2) #[]),
(149,oM (vT "type") .none (Data.cls (ClassData.mk (sT "NoPosts") [vR 24] [vR 149,vR 24,vT "ValueError",vT "Exception",vT "BaseException",vT "object"] 148 (sT "NoPosts") true [] [] false .none false)) #[.some (vR 140),.none,.some (qS "NoPosts" 363),.some (qS "NoPosts" 371),.some (Value.builtin "ValueError.__new__"),.some (vB true)]),
(160,oM (vT "dict") .none (Data.dict #[kE P "__module__" 386 (qS "labelways.errors" 187),kE P "__firstlineno__" 390 (vI 32 389),kE P "__static_attributes__" 391 (vR 159),kE P "__doc__" 392 vN] 2) #[]),
(161,oM (vT "type") .none (Data.cls (ClassData.mk (sT "NoTie") [vR 24] [vR 161,vR 24,vT "ValueError",vT "Exception",vT "BaseException",vT "object"] 160 (sT "NoTie") true [] [] false .none false)) #[.some (vR 152),.none,.some (qS "NoTie" 379),.some (qS "NoTie" 387),.some (Value.builtin "ValueError.__new__"),.some (vB true)]),
(172,oM (vT "dict") .none (Data.dict #[kE P "__module__" 402 (qS "labelways.errors" 187),kE P "__firstlineno__" 406 (vI 34 405),kE P "__static_attributes__" 407 (vR 171),kE P "__doc__" 408 vN] 2) #[]),
(173,oM (vT "type") .none (Data.cls (ClassData.mk (sT "NoPart") [vR 24] [vR 173,vR 24,vT "ValueError",vT "Exception",vT "BaseException",vT "object"] 172 (sT "NoPart") true [] [] false .none false)) #[.some (vR 164),.none,.some (qS "NoPart" 395),.some (qS "NoPart" 403),.some (Value.builtin "ValueError.__new__"),.some (vB true)]),
(184,oM (vT "dict") .none (Data.dict #[kE P "__module__" 418 (qS "labelways.errors" 187),kE P "__firstlineno__" 422 (vI 36 421),kE P "__static_attributes__" 423 (vR 183),kE P "__doc__" 424 vN] 2) #[]),
(185,oM (vT "type") .none (Data.cls (ClassData.mk (sT "NoRow") [vR 24] [vR 185,vR 24,vT "ValueError",vT "Exception",vT "BaseException",vT "object"] 184 (sT "NoRow") true [] [] false .none false)) #[.some (vR 176),.none,.some (qS "NoRow" 411),.some (qS "NoRow" 419),.some (Value.builtin "ValueError.__new__"),.some (vB true)]),
(196,oM (vT "dict") .none (Data.dict #[kE P "__module__" 434 (qS "labelways.errors" 187),kE P "__firstlineno__" 438 (vI 38 437),kE P "__static_attributes__" 439 (vR 195),kE P "__doc__" 440 vN] 2) #[]),
(197,oM (vT "type") .none (Data.cls (ClassData.mk (sT "TooMany") [vR 24] [vR 197,vR 24,vT "ValueError",vT "Exception",vT "BaseException",vT "object"] 196 (sT "TooMany") true [] [] false .none false)) #[.some (vR 188),.none,.some (qS "TooMany" 427),.some (qS "TooMany" 435),.some (Value.builtin "ValueError.__new__"),.some (vB true)]),
(205,cQ #[qS "is_number" 445,qS "is_number" 446,qS "/claim/cut.py" 447,vI 41 0,vI 1 0,vI 0 0,vI 0 0,vI 3 0,vR 200,vB true,vI 181 0,vR 201,vN,vR 202,vR 203,vR 204,vI 449 0,vI 41 0,qS "/claim/cut.py" 450]),
(206,fQ (.mk (sT "is_number") (sT "is_number") (L2.defArgs (top 15)) (FuncBody.stmts (L2.defBody (top 15))) (L2.defScope (top 15)) 3 [] vN vN vN (qS "labelways.kinds" 443) .none (vR 205) vN 0)),
(212,cQ #[qS "is_within" 452,qS "is_within" 453,qS "/claim/cut.py" 454,vI 43 0,vI 3 0,vI 0 0,vI 0 0,vI 3 0,vR 207,vB true,vI 181 0,vR 208,vN,vR 209,vR 210,vR 211,vI 458 0,vI 43 0,qS "/claim/cut.py" 459]),
(213,fQ (.mk (sT "is_within") (sT "is_within") (L2.defArgs (top 16)) (FuncBody.stmts (L2.defBody (top 16))) (L2.defScope (top 16)) 3 [] vN vN vN (qS "labelways.kinds" 443) .none (vR 212) vN 0)),
(219,cQ #[qS "is_tuple_of" 461,qS "is_tuple_of" 462,qS "/claim/cut.py" 463,vI 45 0,vI 2 0,vI 0 0,vI 0 0,vI 3 0,vR 214,vB true,vI 181 0,vR 215,vN,vR 216,vR 217,vR 218,vI 466 0,vI 45 0,qS "/claim/cut.py" 467]),
(220,fQ (.mk (sT "is_tuple_of") (sT "is_tuple_of") (L2.defArgs (top 17)) (FuncBody.stmts (L2.defBody (top 17))) (L2.defScope (top 17)) 3 [] vN vN vN (qS "labelways.kinds" 443) .none (vR 219) vN 0)),
(224,cQ #[qS "is_rising" 469,qS "is_rising" 470,qS "/claim/cut.py" 471,vI 47 0,vI 1 0,vI 0 0,vI 0 0,vI 3 0,vR 221,vB true,vI 181 0,vR 222,vN,vN,vN,vR 223,vI 472 0,vI 47 0,qS "/claim/cut.py" 473]),
(225,fQ (.mk (sT "is_rising") (sT "is_rising") (L2.defArgs (top 18)) (FuncBody.stmts (L2.defBody (top 18))) (L2.defScope (top 18)) 3 [] vN vN vN (qS "labelways.kinds" 443) .none (vR 224) vN 0)),
(231,cQ #[qS "is_place" 475,qS "is_place" 476,qS "/claim/cut.py" 477,vI 49 0,vI 2 0,vI 0 0,vI 0 0,vI 3 0,vR 226,vB true,vI 181 0,vR 227,vN,vR 228,vR 229,vR 230,vI 480 0,vI 49 0,qS "/claim/cut.py" 481]),
(232,fQ (.mk (sT "is_place") (sT "is_place") (L2.defArgs (top 19)) (FuncBody.stmts (L2.defBody (top 19))) (L2.defScope (top 19)) 3 [] vN vN vN (qS "labelways.kinds" 443) .none (vR 231) vN 0)),
(238,cQ #[qS "is_plan" 487,qS "is_plan" 488,qS "/claim/cut.py" 489,vI 53 0,vI 1 0,vI 0 0,vI 0 0,vI 3 0,vR 233,vB true,vI 181 0,vR 234,vN,vR 235,vR 236,vR 237,vI 491 0,vI 53 0,qS "/claim/cut.py" 492]),
(239,fQ (.mk (sT "is_plan") (sT "is_plan") (L2.defArgs (top 22)) (FuncBody.stmts (L2.defBody (top 22))) (L2.defScope (top 22)) 3 [] vN vN vN (qS "labelways.plans" 483) .none (vR 238) vN 0)),
(243,cQ #[qS "is_plan_within" 494,qS "is_plan_within" 495,qS "/claim/cut.py" 496,vI 55 0,vI 2 0,vI 0 0,vI 0 0,vI 3 0,vR 240,vB true,vI 181 0,vR 241,vN,vN,vN,vR 242,vI 497 0,vI 55 0,qS "/claim/cut.py" 498]),
(244,fQ (.mk (sT "is_plan_within") (sT "is_plan_within") (L2.defArgs (top 23)) (FuncBody.stmts (L2.defBody (top 23))) (L2.defScope (top 23)) 3 [] vN vN vN (qS "labelways.plans" 483) .none (vR 243) vN 0)),
(248,cQ #[qS "are_plan_places" 500,qS "are_plan_places" 501,qS "/claim/cut.py" 502,vI 59 0,vI 1 0,vI 0 0,vI 0 0,vI 3 0,vR 245,vB true,vI 181 0,vR 246,vN,vN,vN,vR 247,vI 503 0,vI 59 0,qS "/claim/cut.py" 504]),
(249,fQ (.mk (sT "are_plan_places") (sT "are_plan_places") (L2.defArgs (top 24)) (FuncBody.stmts (L2.defBody (top 24))) (L2.defScope (top 24)) 3 [] vN vN vN (qS "labelways.plans" 483) .none (vR 248) vN 0)),
(255,cQ #[qS "chain" 506,qS "chain" 507,qS "/claim/cut.py" 508,vI 63 0,vI 2 0,vI 0 0,vI 0 0,vI 3 0,vR 250,vB true,vI 181 0,vR 251,vN,vR 252,vR 253,vR 254,vI 511 0,vI 63 0,qS "/claim/cut.py" 512]),
(256,fQ (.mk (sT "chain") (sT "chain") (L2.defArgs (top 25)) (FuncBody.stmts (L2.defBody (top 25))) (L2.defScope (top 25)) 3 [] vN vN vN (qS "labelways.plans" 483) .none (vR 255) vN 0)),
(262,cQ #[qS "chain_or_none" 514,qS "chain_or_none" 515,qS "/claim/cut.py" 516,vI 65 0,vI 2 0,vI 0 0,vI 0 0,vI 3 0,vR 257,vB true,vI 181 0,vR 258,vN,vR 259,vR 260,vR 261,vI 521 0,vI 65 0,qS "/claim/cut.py" 522]),
(263,fQ (.mk (sT "chain_or_none") (sT "chain_or_none") (L2.defArgs (top 26)) (FuncBody.stmts (L2.defBody (top 26))) (L2.defScope (top 26)) 3 [] vN vN vN (qS "labelways.plans" 483) .none (vR 262) vN 0)),
(269,cQ #[qS "plan_order" 524,qS "plan_order" 525,qS "/claim/cut.py" 526,vI 73 0,vI 1 0,vI 0 0,vI 0 0,vI 3 0,vR 264,vB true,vI 181 0,vR 265,vN,vR 266,vR 267,vR 268,vI 530 0,vI 73 0,qS "/claim/cut.py" 531]),
(270,fQ (.mk (sT "plan_order") (sT "plan_order") (L2.defArgs (top 27)) (FuncBody.stmts (L2.defBody (top 27))) (L2.defScope (top 27)) 3 [] vN vN vN (qS "labelways.plans" 483) .none (vR 269) vN 0)),
(276,cQ #[qS "lets_plan" 533,qS "lets_plan" 534,qS "/claim/cut.py" 535,vI 78 0,vI 2 0,vI 0 0,vI 0 0,vI 3 0,vR 271,vB true,vI 181 0,vR 272,vN,vR 273,vR 274,vR 275,vI 538 0,vI 78 0,qS "/claim/cut.py" 539]),
(277,fQ (.mk (sT "lets_plan") (sT "lets_plan") (L2.defArgs (top 28)) (FuncBody.stmts (L2.defBody (top 28))) (L2.defScope (top 28)) 3 [] vN vN vN (qS "labelways.plans" 483) .none (vR 276) vN 0)),
(283,cQ #[qS "refuse_at" 541,qS "refuse_at" 542,qS "/claim/cut.py" 543,vI 85 0,vI 2 0,vI 0 0,vI 0 0,vI 3 0,vR 278,vB true,vI 181 0,vR 279,vN,vR 280,vR 281,vR 282,vI 546 0,vI 85 0,qS "/claim/cut.py" 547]),
(284,fQ (.mk (sT "refuse_at") (sT "refuse_at") (L2.defArgs (top 29)) (FuncBody.stmts (L2.defBody (top 29))) (L2.defScope (top 29)) 3 [] vN vN vN (qS "labelways.plans" 483) .none (vR 283) vN 0)),
(290,cQ #[qS "place_fault" 549,qS "place_fault" 550,qS "/claim/cut.py" 551,vI 88 0,vI 2 0,vI 0 0,vI 0 0,vI 3 0,vR 285,vB true,vI 181 0,vR 286,vN,vR 287,vR 288,vR 289,vI 556 0,vI 88 0,qS "/claim/cut.py" 557]),
(291,fQ (.mk (sT "place_fault") (sT "place_fault") (L2.defArgs (top 30)) (FuncBody.stmts (L2.defBody (top 30))) (L2.defScope (top 30)) 3 [] vN vN vN (qS "labelways.plans" 483) .none (vR 290) vN 0)),
(295,cQ #[qS "lacks_fault" 559,qS "lacks_fault" 560,qS "/claim/cut.py" 561,vI 95 0,vI 2 0,vI 0 0,vI 0 0,vI 3 0,vR 292,vB true,vI 181 0,vR 293,vN,vN,vN,vR 294,vI 562 0,vI 95 0,qS "/claim/cut.py" 563]),
(296,fQ (.mk (sT "lacks_fault") (sT "lacks_fault") (L2.defArgs (top 31)) (FuncBody.stmts (L2.defBody (top 31))) (L2.defScope (top 31)) 3 [] vN vN vN (qS "labelways.plans" 483) .none (vR 295) vN 0)),
(300,cQ #[qS "tie_fault" 565,qS "tie_fault" 566,qS "/claim/cut.py" 567,vI 98 0,vI 2 0,vI 0 0,vI 0 0,vI 3 0,vR 297,vB true,vI 181 0,vR 298,vN,vN,vN,vR 299,vI 568 0,vI 98 0,qS "/claim/cut.py" 569]),
(301,fQ (.mk (sT "tie_fault") (sT "tie_fault") (L2.defArgs (top 32)) (FuncBody.stmts (L2.defBody (top 32))) (L2.defScope (top 32)) 3 [] vN vN vN (qS "labelways.plans" 483) .none (vR 300) vN 0)),
(307,cQ #[qS "_law_tape" 573,qS "_law_tape" 574,qS "/claim/cut.py" 575,vI 105 0,vI 1 0,vI 0 0,vI 0 0,vI 3 0,vR 302,vB true,vI 181 0,vR 303,vN,vR 304,vR 305,vR 306,vI 577 0,vI 105 0,qS "/claim/cut.py" 578]),
(308,fT "_law_tape" 34 (qS "law_labelways_k39_plans_judged" 571) 307),
(314,cQ #[qS "_law_draw" 580,qS "_law_draw" 581,qS "/claim/cut.py" 582,vI 107 0,vI 2 0,vI 0 0,vI 0 0,vI 3 0,vR 309,vB true,vI 181 0,vR 310,vN,vR 311,vR 312,vR 313,vI 589 0,vI 107 0,qS "/claim/cut.py" 590]),
(315,fT "_law_draw" 35 (qS "law_labelways_k39_plans_judged" 571) 314),
(321,cQ #[qS "_law_n" 592,qS "_law_n" 593,qS "/claim/cut.py" 594,vI 120 0,vI 1 0,vI 0 0,vI 0 0,vI 3 0,vR 316,vB true,vI 181 0,vR 317,vN,vR 318,vR 319,vR 320,vI 596 0,vI 120 0,qS "/claim/cut.py" 597]),
(322,fT "_law_n" 36 (qS "law_labelways_k39_plans_judged" 571) 321),
(326,cQ #[qS "_law_web" 599,qS "_law_web" 600,qS "/claim/cut.py" 601,vI 122 0,vI 2 0,vI 0 0,vI 0 0,vI 3 0,vR 323,vB true,vI 181 0,vR 324,vN,vN,vN,vR 325,vI 602 0,vI 122 0,qS "/claim/cut.py" 603]),
(327,fT "_law_web" 37 (qS "law_labelways_k39_plans_judged" 571) 326),
(333,cQ #[qS "_law_order" 605,qS "_law_order" 606,qS "/claim/cut.py" 607,vI 134 0,vI 2 0,vI 0 0,vI 0 0,vI 3 0,vR 328,vB true,vI 181 0,vR 329,vN,vR 330,vR 331,vR 332,vI 613 0,vI 134 0,qS "/claim/cut.py" 614]),
(334,fT "_law_order" 38 (qS "law_labelways_k39_plans_judged" 571) 333),
(340,cQ #[qS "_law_bent" 616,qS "_law_bent" 617,qS "/claim/cut.py" 618,vI 140 0,vI 2 0,vI 0 0,vI 0 0,vI 3 0,vR 335,vB true,vI 181 0,vR 336,vN,vR 337,vR 338,vR 339,vI 623 0,vI 140 0,qS "/claim/cut.py" 624]),
(341,fT "_law_bent" 39 (qS "law_labelways_k39_plans_judged" 571) 340),
(347,cQ #[qS "_law_plan" 626,qS "_law_plan" 627,qS "/claim/cut.py" 628,vI 152 0,vI 2 0,vI 0 0,vI 0 0,vI 3 0,vR 342,vB true,vI 181 0,vR 343,vN,vR 344,vR 345,vR 346,vI 635 0,vI 152 0,qS "/claim/cut.py" 636]),
(348,fT "_law_plan" 40 (qS "law_labelways_k39_plans_judged" 571) 347),
(352,cQ #[qS "_law_is_places" 638,qS "_law_is_places" 639,qS "/claim/cut.py" 640,vI 161 0,vI 1 0,vI 0 0,vI 0 0,vI 3 0,vR 349,vB true,vI 181 0,vR 350,vN,vN,vN,vR 351,vI 641 0,vI 161 0,qS "/claim/cut.py" 642]),
(353,fT "_law_is_places" 41 (qS "law_labelways_k39_plans_judged" 571) 352),
(357,cQ #[qS "_law_is_plan" 644,qS "_law_is_plan" 645,qS "/claim/cut.py" 646,vI 167 0,vI 2 0,vI 0 0,vI 0 0,vI 3 0,vR 354,vB true,vI 181 0,vR 355,vN,vN,vN,vR 356,vI 647 0,vI 167 0,qS "/claim/cut.py" 648]),
(358,fT "_law_is_plan" 42 (qS "law_labelways_k39_plans_judged" 571) 357),
(364,cQ #[qS "_law_flat" 650,qS "_law_flat" 651,qS "/claim/cut.py" 652,vI 171 0,vI 1 0,vI 0 0,vI 0 0,vI 3 0,vR 359,vB true,vI 181 0,vR 360,vN,vR 361,vR 362,vR 363,vI 656 0,vI 171 0,qS "/claim/cut.py" 657]),
(365,fT "_law_flat" 43 (qS "law_labelways_k39_plans_judged" 571) 364),
(369,cQ #[qS "_law_chain" 659,qS "_law_chain" 660,qS "/claim/cut.py" 661,vI 176 0,vI 2 0,vI 0 0,vI 0 0,vI 3 0,vR 366,vB true,vI 181 0,vR 367,vN,vN,vN,vR 368,vI 662 0,vI 176 0,qS "/claim/cut.py" 663]),
(370,fT "_law_chain" 44 (qS "law_labelways_k39_plans_judged" 571) 369),
(374,cQ #[qS "_law_beside" 665,qS "_law_beside" 666,qS "/claim/cut.py" 667,vI 184 0,vI 1 0,vI 0 0,vI 0 0,vI 3 0,vR 371,vB true,vI 181 0,vR 372,vN,vN,vN,vR 373,vI 668 0,vI 184 0,qS "/claim/cut.py" 669]),
(375,fT "_law_beside" 45 (qS "law_labelways_k39_plans_judged" 571) 374),
(379,cQ #[qS "_law_parts" 671,qS "_law_parts" 672,qS "/claim/cut.py" 673,vI 190 0,vI 2 0,vI 0 0,vI 0 0,vI 3 0,vR 376,vB true,vI 181 0,vR 377,vN,vN,vN,vR 378,vI 674 0,vI 190 0,qS "/claim/cut.py" 675]),
(380,fT "_law_parts" 46 (qS "law_labelways_k39_plans_judged" 571) 379),
(384,cQ #[qS "_law_right_plan" 677,qS "_law_right_plan" 678,qS "/claim/cut.py" 679,vI 202 0,vI 3 0,vI 0 0,vI 0 0,vI 3 0,vR 381,vB true,vI 181 0,vR 382,vN,vN,vN,vR 383,vI 680 0,vI 202 0,qS "/claim/cut.py" 681]),
(385,fT "_law_right_plan" 47 (qS "law_labelways_k39_plans_judged" 571) 384),
(389,cQ #[qS "_law_called" 683,qS "_law_called" 684,qS "/claim/cut.py" 685,vI 213 0,vI 2 0,vI 0 0,vI 0 0,vI 3 0,vR 386,vB true,vI 181 0,vR 387,vN,vN,vN,vR 388,vI 686 0,vI 213 0,qS "/claim/cut.py" 687]),
(390,fT "_law_called" 48 (qS "law_labelways_k39_plans_judged" 571) 389),
(396,cQ #[qS "_law_plan_fault" 689,qS "_law_plan_fault" 690,qS "/claim/cut.py" 691,vI 216 0,vI 2 0,vI 0 0,vI 0 0,vI 3 0,vR 391,vB true,vI 181 0,vR 392,vN,vR 393,vR 394,vR 395,vI 700 0,vI 216 0,qS "/claim/cut.py" 701]),
(397,fT "_law_plan_fault" 49 (qS "law_labelways_k39_plans_judged" 571) 396),
(403,cQ #[qS "_law_plan_found" 703,qS "_law_plan_found" 704,qS "/claim/cut.py" 705,vI 230 0,vI 2 0,vI 0 0,vI 0 0,vI 3 0,vR 398,vB true,vI 181 0,vR 399,vN,vR 400,vR 401,vR 402,vI 711 0,vI 230 0,qS "/claim/cut.py" 712]),
(404,fT "_law_plan_found" 50 (qS "law_labelways_k39_plans_judged" 571) 403),
(410,cQ #[qS "_law_plan_turned" 714,qS "_law_plan_turned" 715,qS "/claim/cut.py" 716,vI 241 0,vI 3 0,vI 0 0,vI 0 0,vI 3 0,vR 405,vB true,vI 181 0,vR 406,vN,vR 407,vR 408,vR 409,vI 724 0,vI 241 0,qS "/claim/cut.py" 725]),
(411,fT "_law_plan_turned" 51 (qS "law_labelways_k39_plans_judged" 571) 410),
(417,cQ #[qS "_law_right" 727,qS "_law_right" 728,qS "/claim/cut.py" 729,vI 259 0,vI 2 0,vI 0 0,vI 0 0,vI 3 0,vR 412,vB true,vI 181 0,vR 413,vN,vR 414,vR 415,vR 416,vI 734 0,vI 259 0,qS "/claim/cut.py" 735]),
(418,fT "_law_right" 52 (qS "law_labelways_k39_plans_judged" 571) 417),
(424,cQ #[qS "law" 737,qS "law" 738,qS "/claim/cut.py" 739,vI 263 0,vI 1 0,vI 0 0,vI 0 0,vI 3 0,vR 419,vB true,vI 181 0,vR 420,vN,vR 421,vR 422,vR 423,vI 749 0,vI 263 0,qS "/claim/cut.py" 750]),
(425,fT "law" 53 (qS "law_labelways_k39_plans_judged" 571) 424)]
noncomputable def Ka:List Addr:=[2,3,23,24,25,40,41,43,44,59,60,62,63,78,79,81,82,97,98,100,101,112,113,124,125,136,137,148,149,160,161,172,173,184,185,196,197,205,206,212,213,219,220,224,225,231,232,238,239,243,244,248,249,255,256,262,263,269,270,276,277,283,284,290,291,295,296,300,301,307,308,314,315,321,322,326,327,333,334,340,341,347,348,352,353,357,358,364,365,369,370,374,375,379,380,384,385,389,390,396,397,403,404,410,411,417,418,424,425]
theorem fkM {K:PySem.W.Frag}(x q:Str)(st:Stmt)(f:Addr)(pm cd:Value)(l:K.lookup f=some ⟨.type "function",.none,.func (PySem.W.fnOf x q (defArgs st) (defBody st) (defScope st) .none .none .none pm .none cd .none),#[]⟩:=by kernel_rfl) (c:PySem.W.codeIn K cd q=true:=by kernel_rfl)(k:PySem.W.keepIn K (.ref f)=true:=by kernel_rfl):Fun K x q st f (PySem.W.fnOf x q (defArgs st) (defBody st) (defScope st) .none .none .none pm .none cd .none):=zLz l c k
theorem zKa:∀{us:List Value},us.length=1->∃u0,us=[u0]
 | [u0],_=>⟨u0,rfl⟩
theorem zE6:∀{us:List Value},us.length=2->∃u0 u1,us=[u0,u1]
 | [u0,u1],_=>⟨u0,u1,rfl⟩
theorem usl3:∀{us:List Value},us.length=3->∃u0 u1 u2,us=[u0,u1,u2]
 | [u0,u1,u2],_=>⟨u0,u1,u2,rfl⟩
theorem walk {l:PySem.W.OpenLaw}{q:Program}{loose:List Str}{XP:(Str->Option Value)->Heap->Prop}{YP:World->Heap->Prop}{d:DefRec}{K:Params->PySem.W.Frag}(hn:l.most=some 63)(hdf:d.params.defaults=[])
 (hY:∀(w:World)(h:Heap),YP w h->(K w.params).In h)
 (F:∀(w:World)(mg:Str->Option Value)(fa:Addr)(h:Heap),(K w.params).In h->h.Ns mainGlobals mg->mg d.name=some (.ref fa) ->
  ∃fd:FuncData,(∀(s:Shared)(u:Value),BindsTo s fd ⟨[u],[]⟩ [("_law_script",u)])/\∀base:Heap,(K w.params).In base->base.Ns mainGlobals mg->zAs l.prog w (K w.params) mg base CX0 32 fa fd ["_law_script"] (zKn (K w.params))) :
 PySem.W.WalkO q loose XP YP l.row.toRowW d [] (fun f vs=>PySem.call f vs):=
 L2.walk_of (n:=63) (k:=32) (x := "_law_script") (CX:=fun _=>CX0) (sp:=fun w=>zKn (K w.params)) hn (by decide) hdf ⟨rfl,by decide,by decide,rfl⟩ hY F (fun _ _ a ns hl _ hS=>⟨a,ns,rfl,hS,hl,fun _=>rfl⟩) fun _ _ _ _ _ z=>z
theorem fk {K:PySem.W.Frag}(x:Str)(st:Stmt)(f:Addr)(pm cd:Value)(l:K.lookup f=some ⟨.type "function",.none,.func (PySem.W.fnOf x x (defArgs st) (defBody st) (defScope st) .none .none .none pm .none cd .none),#[]⟩:=by kernel_rfl) (c:PySem.W.codeIn K cd x=true:=by kernel_rfl)(k:PySem.W.keepIn K (.ref f)=true:=by kernel_rfl):Fun K x x st f (PySem.W.fnOf x x (defArgs st) (defBody st) (defScope st) .none .none .none pm .none cd .none):=zLz l c k
noncomputable abbrev pw:Program:=PySem.Challenge.pw_labelways_k39_plans_judged
noncomputable def V:Program:={ pw with main:={ pw.main with body:=[top 1,top 2,top 3,top 4,top 5,top 6,top 7,top 8,top 9,top 10,top 11,top 12,top 13,top 15,top 16,top 17,top 18,top 19,top 21,top 22,top 23,top 24,top 25,top 26,top 27,top 28,top 29,top 30,top 31,top 32,top 34,top 35,top 36,top 37,top 38,top 39,top 40,top 41,top 42,top 43,top 44,top 45,top 46,top 47,top 48,top 49,top 50,top 51,top 52,top 53] } }
noncomputable abbrev RR:PySem.W.RowW:=PySem.W.OpenRow.toRowW (PySem.Challenge.rw_labelways_k39_plans_judged).row
theorem Ke:∀P,Ka=(Kf P).map (·.1):=fun P=>by kernel_rfl
noncomputable abbrev HK:PySem.W.Hook:=PySem.W.kHook Kf Ka Ke
theorem left:PySem.W.LeftO pw V [] (fun s=>PySem.W.xlAt V [] s && PySem.W.recOk (PySem.W.RowW.records RR) s) (PySem.W.Hook.obs HK) (PySem.W.Hook.val HK) 8106:=L2.left_of (by kernel_rfl) (by decide) (fun _=>rfl) fun w os=>by kernel_rfl
noncomputable def dL:DefRec:={ name := "law",params:=defArgs sLaw,body:=defBody sLaw,scope:=defScope sLaw,pos:=⟨263,0,282,15⟩ }
theorem facts (w:World)(mg:Str->Option Value)(fa:Addr)(h:Heap)(KX:(Kf w.params).In h)(G:h.Ns mainGlobals mg)(hmg:mg "law" = some (.ref fa)):∃fd:FuncData,(∀(s:Shared)(u:Value),BindsTo s fd ⟨[u],[]⟩ [("_law_script",u)])/\∀base:Heap,(Kf w.params).In base->base.Ns mainGlobals mg->zAs (PySem.Challenge.rw_labelways_k39_plans_judged).prog w (Kf w.params) mg base CX0 32 fa fd ["_law_script"] (zKn (Kf w.params)):=by
 have mk:∀(x:Str)(f:Addr),PySem.W.nsIn (Kf w.params) mainGlobals x=some (some (.ref f))->mg x=some (.ref f):=fun x f e=>PySem.W.mg_of KX G e
 have mn:∀x:Str,PySem.W.nsIn (Kf w.params) mainGlobals x=some none->mg x=none:=fun x e=>PySem.W.mg_none_of KX G e
 have FTa:=fk (K:=Kf w.params) "_law_tape" zKs 308 (qS "law_labelways_k39_plans_judged" 571) (vR 307)
 have bTa:=FTa.binds (ps:=["_law_script"]) fun _ _ _ _ _ _ us hl=>by obtain⟨u0,rfl⟩:=zKa hl;rfl
 have mTa:=mk "_law_tape" 308 (by kernel_rfl)
 have FD:=fk (K:=Kf w.params) "_law_draw" zEC 315 (qS "law_labelways_k39_plans_judged" 571) (vR 314)
 have bD:=FD.binds (ps:=["_law_tape_here", "_law_many"]) fun _ _ _ _ _ _ us hl=>by obtain⟨u0,u1,rfl⟩:=zE6 hl;rfl
 have mD:=mk "_law_draw" 315 (by kernel_rfl)
 have FN:=fk (K:=Kf w.params) "_law_n" sN 322 (qS "law_labelways_k39_plans_judged" 571) (vR 321)
 have bN:=FN.binds (ps:=["_law_tape_here"]) fun _ _ _ _ _ _ us hl=>by obtain⟨u0,rfl⟩:=zKa hl;rfl
 have mN:=mk "_law_n" 322 (by kernel_rfl)
 have FW:=fk (K:=Kf w.params) "_law_web" sWeb 327 (qS "law_labelways_k39_plans_judged" 571) (vR 326)
 have bW:=FW.binds (ps:=["_law_tape_here", "_law_n_here"]) fun _ _ _ _ _ _ us hl=>by obtain⟨u0,u1,rfl⟩:=zE6 hl;rfl
 have mW:=mk "_law_web" 327 (by kernel_rfl)
 have FNu:=fk (K:=Kf w.params) "is_number" sNum 206 (qS "labelways.kinds" 443) (vR 205)
 have bNu:=FNu.binds (ps:=["thing"]) fun _ _ _ _ _ _ us hl=>by obtain⟨u0,rfl⟩:=zKa hl;rfl
 have mNu:=mk "is_number" 206 (by kernel_rfl)
 have FWi:=fk (K:=Kf w.params) "is_within" sWi 213 (qS "labelways.kinds" 443) (vR 212)
 have bWi:=FWi.binds (ps:=["thing", "least", "most"]) fun _ _ _ _ _ _ us hl=>by obtain⟨u0,u1,u2,rfl⟩:=usl3 hl;rfl
 have mWi:=mk "is_within" 213 (by kernel_rfl)
 have FPl:=fk (K:=Kf w.params) "is_place" sPl 232 (qS "labelways.kinds" 443) (vR 231)
 have bPl:=FPl.binds (ps:=["n", "thing"]) fun _ _ _ _ _ _ us hl=>by obtain⟨u0,u1,rfl⟩:=zE6 hl;rfl
 have mPl:=mk "is_place" 232 (by kernel_rfl)
 have FTo:=fk (K:=Kf w.params) "is_tuple_of" sTof 220 (qS "labelways.kinds" 443) (vR 219)
 have bTo:=FTo.binds (ps:=["thing", "count"]) fun _ _ _ _ _ _ us hl=>by obtain⟨u0,u1,rfl⟩:=zE6 hl;rfl
 have mTo:=mk "is_tuple_of" 220 (by kernel_rfl)
 have FRs:=fk (K:=Kf w.params) "is_rising" sRis 225 (qS "labelways.kinds" 443) (vR 224)
 have bRs:=FRs.binds (ps:=["things"]) fun _ _ _ _ _ _ us hl=>by obtain⟨u0,rfl⟩:=zKa hl;rfl
 have mRs:=mk "is_rising" 225 (by kernel_rfl)
 have FIp:=fk (K:=Kf w.params) "is_plan" sIp 239 (qS "labelways.plans" 483) (vR 238)
 have bIp:=FIp.binds (ps:=["thing"]) fun _ _ _ _ _ _ us hl=>by obtain⟨u0,rfl⟩:=zKa hl;rfl
 have mIp:=mk "is_plan" 239 (by kernel_rfl)
 have FPw:=fk (K:=Kf w.params) "is_plan_within" sPw 244 (qS "labelways.plans" 483) (vR 243)
 have bPw:=FPw.binds (ps:=["thing", "most"]) fun _ _ _ _ _ _ us hl=>by obtain⟨u0,u1,rfl⟩:=zE6 hl;rfl
 have mPw:=mk "is_plan_within" 244 (by kernel_rfl)
 have FPp:=fk (K:=Kf w.params) "are_plan_places" sPp 249 (qS "labelways.plans" 483) (vR 248)
 have bPp:=FPp.binds (ps:=["thing"]) fun _ _ _ _ _ _ us hl=>by obtain⟨u0,rfl⟩:=zKa hl;rfl
 have mPp:=mk "are_plan_places" 249 (by kernel_rfl)
 have FCh:=fk (K:=Kf w.params) "chain" sCh 256 (qS "labelways.plans" 483) (vR 255)
 have bCh:=FCh.binds (ps:=["plan", "place"]) fun _ _ _ _ _ _ us hl=>by obtain⟨u0,u1,rfl⟩:=zE6 hl;rfl
 have mCh:=mk "chain" 256 (by kernel_rfl)
 have FCo:=fk (K:=Kf w.params) "chain_or_none" sCo 263 (qS "labelways.plans" 483) (vR 262)
 have bCo:=FCo.binds (ps:=["plan", "place"]) fun _ _ _ _ _ _ us hl=>by obtain⟨u0,u1,rfl⟩:=zE6 hl;rfl
 have mCo:=mk "chain_or_none" 263 (by kernel_rfl)
 have FPo:=fk (K:=Kf w.params) "plan_order" sPo 270 (qS "labelways.plans" 483) (vR 269)
 have bPo:=FPo.binds (ps:=["plan"]) fun _ _ _ _ _ _ us hl=>by obtain⟨u0,rfl⟩:=zKa hl;rfl
 have mPo:=mk "plan_order" 270 (by kernel_rfl)
 have FLt:=fk (K:=Kf w.params) "lets_plan" zJJ 277 (qS "labelways.plans" 483) (vR 276)
 have bLt:=FLt.binds (ps:=["web", "thing"]) fun _ _ _ _ _ _ us hl=>by obtain⟨u0,u1,rfl⟩:=zE6 hl;rfl
 have mLt:=mk "lets_plan" 277 (by kernel_rfl)
 have FRa:=fk (K:=Kf w.params) "refuse_at" zJI 284 (qS "labelways.plans" 483) (vR 283)
 have bRa:=FRa.binds (ps:=["word", "at"]) fun _ _ _ _ _ _ us hl=>by obtain⟨u0,u1,rfl⟩:=zE6 hl;rfl
 have mRa:=mk "refuse_at" 284 (by kernel_rfl)
 have FPf:=fk (K:=Kf w.params) "place_fault" sPf 291 (qS "labelways.plans" 483) (vR 290)
 have bPf:=FPf.binds (ps:=["web", "plan"]) fun _ _ _ _ _ _ us hl=>by obtain⟨u0,u1,rfl⟩:=zE6 hl;rfl
 have mPf:=mk "place_fault" 291 (by kernel_rfl)
 have FLk:=fk (K:=Kf w.params) "lacks_fault" sLk 296 (qS "labelways.plans" 483) (vR 295)
 have bLk:=FLk.binds (ps:=["web", "plan"]) fun _ _ _ _ _ _ us hl=>by obtain⟨u0,u1,rfl⟩:=zE6 hl;rfl
 have mLk:=mk "lacks_fault" 296 (by kernel_rfl)
 have FTf:=fk (K:=Kf w.params) "tie_fault" sTf 301 (qS "labelways.plans" 483) (vR 300)
 have bTf:=FTf.binds (ps:=["web", "plan"]) fun _ _ _ _ _ _ us hl=>by obtain⟨u0,u1,rfl⟩:=zE6 hl;rfl
 have mTf:=mk "tie_fault" 301 (by kernel_rfl)
 have FOr:=fk (K:=Kf w.params) "_law_order" zHc 334 (qS "law_labelways_k39_plans_judged" 571) (vR 333)
 have bOr:=FOr.binds (ps:=["_law_tape_here", "_law_n_here"]) fun _ _ _ _ _ _ us hl=>by obtain⟨u0,u1,rfl⟩:=zE6 hl;rfl
 have mOr:=mk "_law_order" 334 (by kernel_rfl)
 have FB:=fk (K:=Kf w.params) "_law_bent" zJK 341 (qS "law_labelways_k39_plans_judged" 571) (vR 340)
 have bB:=FB.binds (ps:=["_law_tape_here", "_law_thing"]) fun _ _ _ _ _ _ us hl=>by obtain⟨u0,u1,rfl⟩:=zE6 hl;rfl
 have mB:=mk "_law_bent" 341 (by kernel_rfl)
 have FPn:=fk (K:=Kf w.params) "_law_plan" sPn 348 (qS "law_labelways_k39_plans_judged" 571) (vR 347)
 have bPn:=FPn.binds (ps:=["_law_tape_here", "_law_pool"]) fun _ _ _ _ _ _ us hl=>by obtain⟨u0,u1,rfl⟩:=zE6 hl;rfl
 have mPn:=mk "_law_plan" 348 (by kernel_rfl)
 have FLq:=fk (K:=Kf w.params) "_law_is_places" sLq 353 (qS "law_labelways_k39_plans_judged" 571) (vR 352)
 have bLq:=FLq.binds (ps:=["_law_thing"]) fun _ _ _ _ _ _ us hl=>by obtain⟨u0,rfl⟩:=zKa hl;rfl
 have mLq:=mk "_law_is_places" 353 (by kernel_rfl)
 have FLp:=fk (K:=Kf w.params) "_law_is_plan" sLp 358 (qS "law_labelways_k39_plans_judged" 571) (vR 357)
 have bLp:=FLp.binds (ps:=["_law_thing", "_law_deep"]) fun _ _ _ _ _ _ us hl=>by obtain⟨u0,u1,rfl⟩:=zE6 hl;rfl
 have mLp:=mk "_law_is_plan" 358 (by kernel_rfl)
 have FLf:=fk (K:=Kf w.params) "_law_flat" sLf 365 (qS "law_labelways_k39_plans_judged" 571) (vR 364)
 have bLf:=FLf.binds (ps:=["_law_plan_here"]) fun _ _ _ _ _ _ us hl=>by obtain⟨u0,rfl⟩:=zKa hl;rfl
 have mLf:=mk "_law_flat" 365 (by kernel_rfl)
 have FLc:=fk (K:=Kf w.params) "_law_chain" sLc 370 (qS "law_labelways_k39_plans_judged" 571) (vR 369)
 have bLc:=FLc.binds (ps:=["_law_plan_here", "_law_place"]) fun _ _ _ _ _ _ us hl=>by obtain⟨u0,u1,rfl⟩:=zE6 hl;rfl
 have mLc:=mk "_law_chain" 370 (by kernel_rfl)
 have FBe:=fk (K:=Kf w.params) "_law_beside" sBes 375 (qS "law_labelways_k39_plans_judged" 571) (vR 374)
 have bBe:=FBe.binds (ps:=["_law_web_here"]) fun _ _ _ _ _ _ us hl=>by obtain⟨u0,rfl⟩:=zKa hl;rfl
 have mBe:=mk "_law_beside" 375 (by kernel_rfl)
 have FPa:=fk (K:=Kf w.params) "_law_parts" sPar 380 (qS "law_labelways_k39_plans_judged" 571) (vR 379)
 have bPa:=FPa.binds (ps:=["_law_beside_each", "_law_places"]) fun _ _ _ _ _ _ us hl=>by obtain⟨u0,u1,rfl⟩:=zE6 hl;rfl
 have mPa:=mk "_law_parts" 380 (by kernel_rfl)
 have FRp:=fk (K:=Kf w.params) "_law_right_plan" sRpl 385 (qS "law_labelways_k39_plans_judged" 571) (vR 384)
 have bRp:=FRp.binds (ps:=["_law_tape_here", "_law_beside_each", "_law_places"]) fun _ _ _ _ _ _ us hl=>by obtain⟨u0,u1,u2,rfl⟩:=usl3 hl;rfl
 have mRp:=mk "_law_right_plan" 385 (by kernel_rfl)
 have FCa:=fk (K:=Kf w.params) "_law_called" sCal 390 (qS "law_labelways_k39_plans_judged" 571) (vR 389)
 have bCa:=FCa.binds (ps:=["_law_plan_here", "_law_names"]) fun _ _ _ _ _ _ us hl=>by obtain⟨u0,u1,rfl⟩:=zE6 hl;rfl
 have mCa:=mk "_law_called" 390 (by kernel_rfl)
 have FLx:=fk (K:=Kf w.params) "_law_plan_fault" sLpf 397 (qS "law_labelways_k39_plans_judged" 571) (vR 396)
 have bLx:=FLx.binds (ps:=["_law_web_here", "_law_thing"]) fun _ _ _ _ _ _ us hl=>by obtain⟨u0,u1,rfl⟩:=zE6 hl;rfl
 have mLx:=mk "_law_plan_fault" 397 (by kernel_rfl)
 have FFo:=fk (K:=Kf w.params) "_law_plan_found" sFou 404 (qS "law_labelways_k39_plans_judged" 571) (vR 403)
 have bFo:=FFo.binds (ps:=["_law_web_here", "_law_thing"]) fun _ _ _ _ _ _ us hl=>by obtain⟨u0,u1,rfl⟩:=zE6 hl;rfl
 have mFo:=mk "_law_plan_found" 404 (by kernel_rfl)
 have FPt:=fk (K:=Kf w.params) "_law_plan_turned" sPtu 411 (qS "law_labelways_k39_plans_judged" 571) (vR 410)
 have bPt:=FPt.binds (ps:=["_law_tape_here", "_law_plan_here", "_law_n_here"]) fun _ _ _ _ _ _ us hl=>by obtain⟨u0,u1,u2,rfl⟩:=usl3 hl;rfl
 have mPt:=mk "_law_plan_turned" 411 (by kernel_rfl)
 have FR:=fk (K:=Kf w.params) "_law_right" zHb 418 (qS "law_labelways_k39_plans_judged" 571) (vR 417)
 have bR:=FR.binds (ps:=["_law_web_here", "_law_thing"]) fun _ _ _ _ _ _ us hl=>by obtain⟨u0,u1,rfl⟩:=zE6 hl;rfl
 have mR:=mk "_law_right" 418 (by kernel_rfl)
 have FZ:=fk (K:=Kf w.params) "law" sLaw 425 (qS "law_labelways_k39_plans_judged" 571) (vR 424)
 have mb0:=mn "len" (by kernel_rfl)
 have mb1:=mn "range" (by kernel_rfl)
 have mb2:=mn "tuple" (by kernel_rfl)
 have mb3:=mn "sorted" (by kernel_rfl)
 have mb4:=mn "repr" (by kernel_rfl)
 have mb5:=mn "list" (by kernel_rfl)
 have mb6:=mn "isinstance" (by kernel_rfl)
 have mb7:=mn "int" (by kernel_rfl)
 have mb8:=mn "bool" (by kernel_rfl)
 have mb9:=mn "all" (by kernel_rfl)
 have mb10:=mn "str" (by kernel_rfl)
 have mb11:=mn "set" (by kernel_rfl)
 have mb12:=mn "min" (by kernel_rfl)
 have mb13:=mn "ValueError" (by kernel_rfl)
 have e:=hmg.symm.trans (mk "law" 425 (by kernel_rfl))
 cases e
 have FI:=fkM (K:=Kf w.params) "__init__" "NoPlan.__init__" sI1 79 (qS "labelways.errors" 187) (vR 78)
 have bI:=FI.binds (ps:=["self", "word", "at"]) fun _ _ _ _ _ _ us hl=>by obtain⟨u0,u1,u2,rfl⟩:=usl3 hl;rfl
 have Er:E39 (Kf w.params) mg 24 82 [44,63,113,173,149,137] [185,101,161,125,197]:=⟨mk "WayError" 24 (by kernel_rfl),by kernel_rfl,mk "NoPlan" 82 (by kernel_rfl),by kernel_rfl,⟨by kernel_rfl,by kernel_rfl,by kernel_rfl,by kernel_rfl,by kernel_rfl,by kernel_rfl⟩,(by show [mg "NoLabels",mg "NoLeast",mg "NoOrder",mg "NoPart",mg "NoPosts",mg "NoRing"]=_;rw[mk "NoLabels" 44 (by kernel_rfl),mk "NoLeast" 63 (by kernel_rfl),mk "NoOrder" 113 (by kernel_rfl),mk "NoPart" 173 (by kernel_rfl),mk "NoPosts" 149 (by kernel_rfl),mk "NoRing" 137 (by kernel_rfl)];rfl),(by show [mg "NoRow",mg "NoText",mg "NoTie",mg "NoTree",mg "TooMany"]=_;rw[mk "NoRow" 185 (by kernel_rfl),mk "NoText" 101 (by kernel_rfl),mk "NoTie" 161 (by kernel_rfl),mk "NoTree" 125 (by kernel_rfl),mk "TooMany" 197 (by kernel_rfl)];rfl),by kernel_rfl,by kernel_rfl,by kernel_rfl,by kernel_rfl,by kernel_rfl,by kernel_rfl⟩
 have EI:zHS (Kf w.params) 82 79:=⟨by kernel_rfl,by kernel_rfl,by kernel_rfl,by kernel_rfl,by kernel_rfl⟩
 have mo:PySem.W.mroIn (Kf w.params) 82 (.type "object")=some true:=by kernel_rfl
 have mMW:mg "MOST_WITHIN" = some (.int 24 485):=PySem.W.mg_of KX G (by kernel_rfl)
 exact⟨_,fun s v=>.of_eq rfl,fun base _ _=>ok_law FZ Er EI FI bI mo mMW FTa bTa mTa FD bD mD FN bN mN FW bW mW FNu bNu mNu FWi bWi mWi FPl bPl mPl FTo bTo mTo FRs bRs mRs FIp bIp mIp FPw bPw mPw FPp bPp mPp FCh bCh mCh FCo bCo mCo FPo bPo mPo FLt bLt mLt FRa bRa mRa FPf bPf mPf FLk bLk mLk FTf bTf mTf FOr bOr mOr FB bB mB FPn bPn mPn FLq bLq mLq FLp bLp mLp FLf bLf mLf FLc bLc mLc FBe bBe mBe FPa bPa mPa FRp bRp mRp FCa bCa mCa FLx bLx mLx FFo bFo mFo FPt bPt mPt FR bR mR mb0 mb1 mb2 mb3 mb4 mb5 mb6 mb7 mb8 mb9 mb10 mb11 mb12 mb13⟩
end K39
open PySem PySem.W PyProof.Rows
set_option maxRecDepth 100000 in
set_option maxHeartbeats 0 in
theorem PySem.Challenge.cw_labelways_k39_plans_judged_holds : PySem.Challenge.rw_labelways_k39_plans_judged.Holds := by
 refine holds_law (by decide +kernel) fun said=>?_
 refine holds_open (q:=K39.V) (loose:=[]) (Xt:=fun s=>xlAt K39.V [] s && recOk (RowW.records K39.RR) s) (XP:=XL K39.V []) (Yf:=Hook.obs K39.HK) (Ya:=Hook.val K39.HK) (YP:=Hook.says K39.HK) (d:=K39.dL) (kwd:=[]) (N:=8106) K39.left (Hook.of K39.HK) (Hook.keeps K39.HK) (fun s e=>xl_of s (Bool.and_eq_true_iff.mp e).1) XL.keeps (by kernel_rfl) (by kernel_rfl) (by kernel_rfl) (fun s e=>recFacts_of (Bool.and_eq_true_iff.mp e).2) (by kernel_rfl) said (by decide +kernel) ⟨rfl,rfl,rfl,rfl,rfl,by decide +kernel⟩ ?hw ?hc
 case hw=>w_witness2
 case hc=>
  exact K39.walk (l:=PySem.Challenge.rw_labelways_k39_plans_judged) (K:=K39.Kf) rfl rfl (fun w h Y=>PySem.W.kIn_of Y) K39.facts
