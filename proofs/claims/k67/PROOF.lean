import PyProof.Rows.All
import Wide.All
import OpenK.AllK
import Wide.FinOn
import Lean
import PyProof.EqAt
import PyProof.EqKinds
import PyProof.TupleCall
import PyProof.ListRange
import PyProof.Rows.StrKeys3
import PyProof.ZipIter
import PyProof.FactsAll.set
import PySem.Challenge.RW_labelways_k67_parts
set_option Elab.async false
set_option linter.all false
set_option maxRecDepth 100000
noncomputable abbrev vSP:=PySem.Value->PySem.Shared->Prop
noncomputable abbrev lPO:=List (PySem.Addr×PySem.Obj)
noncomputable abbrev lLO:=List (List (Option Int))
noncomputable abbrev sOV:=PySem.Str->Option PySem.Value
section
open PySem PySem.Spec PyProof.Rows
abbrev zA:=@wpAny_bind
abbrev zB:=@List.length_map
abbrev zC:=@wpAny_pure
abbrev zD:=@List.getElem?_eq_getElem
abbrev zF:=@List.getD_eq_getElem?_getD
abbrev zG:=@Heap.get?_push_of_some
abbrev zI:=@Nat.le_refl
abbrev zK:=@List.getElem?_eq_some_iff
abbrev zL:=@Heap.get?_push_size
abbrev zN:=@List.size_toArray
abbrev zO:=@List.length_append
abbrev zP:=@List.getElem?_map
abbrev zQ:=@Heap.lt_size
abbrev zR:=@List.map_append
abbrev zT:=@Nat.ne_of_lt
abbrev zU:=@List.mem_of_getElem?
abbrev zV:=@List.mem_cons
abbrev zW:=@decide_eq_true
abbrev zX:=@Option.some.inj
abbrev zY:=@List.take_of_length_le
abbrev zZ:=@List.mem_cons_self
abbrev za:=@List.getElem?_append_right
abbrev zb:=@Bool.false_ne_true
abbrev zc:=@List.mem_cons_of_mem
abbrev ze:=@List.mem_append_right
abbrev zf:=@List.mem_singleton
abbrev zg:=@Nat.zero_le
abbrev zh:=@List.getElem?_append_left
abbrev zi:=@Nat.lt_of_lt_of_le
abbrev zm:=@List.mem_append
abbrev zn:=@List.length_cons
abbrev zo:=@List.length_filter_le
abbrev zt:=@List.append_nil
abbrev zu:=@decide_eq_false
abbrev zv:=@wpAny_newObj_type
abbrev zw:=@List.length_take
abbrev zx:=@wpAny_holding
abbrev zAB:=@Int.toNat_natCast
abbrev zAC:=@Heap.get?_update_self
abbrev zAD:=@wpAny_callSpecial?_slot
abbrev zAE:=@wpAny_call_entry
abbrev zAF:=@List.getElem?_eq_none
abbrev zAG:=@Nat.ne_of_gt
abbrev zAH:=@List.take_add_one
abbrev zAL:=@List.getElem_of_mem
abbrev zAM:=@List.mem_map
abbrev zAP:=@Nat.le_trans
abbrev zAQ:=@List.pairwise_iff_getElem
abbrev zAR:=@Heap.size_push
abbrev zAV:=@List.length_range
abbrev zAX:=@List.map_cons
abbrev zAY:=@List.length_replicate
abbrev zAZ:=@List.getElem?_toArray
abbrev zAb:=@Heap.SameBut.update
abbrev zAe:=@List.mem_append_left
abbrev zAf:=@Bool.and_eq_true
abbrev zAj:=@wpAny_isInstance
abbrev zAk:=@List.nodup_cons
abbrev zAl:=@Nat.lt_succ_of_lt
abbrev zAm:=@Classical.byContradiction
abbrev zAn:=@Int.zero_add
abbrev zAo:=@Nat.lt_of_le_of_lt
abbrev zAp:=@Option.map_some
abbrev zAq:=@Nat.lt_trans
abbrev zAr:=@Nat.le_of_lt
abbrev zAs:=@List.mem_filter
abbrev zAx:=@wpAny_field
abbrev zAz:=@wpAny_mono
abbrev zA0:=@wpAny_seqItems
abbrev zA2:=@List.pairwise_map
abbrev zA4:=@List.mem_filterMap
abbrev zA7:=@List.lookup_cons
abbrev zBA:=@wpAny_truthy_bool
abbrev zBB:=@List.replicate_succ
abbrev zBC:=@List.filterMap_cons
abbrev zBD:=@List.Pairwise.nil
abbrev zBF:=@Nat.lt_irrefl
abbrev zBG:=@List.mem_range
abbrev zBM:=@wpAny_Call_Name_kw
abbrev zBO:=@Option.isSome_iff_exists
abbrev zBP:=@Bool.false_eq_true
abbrev zBR:=@Option.getD_some
abbrev zBS:=@Nat.lt_succ_self
abbrev zBW:=@List.length_eq_zero_iff
abbrev zBX:=@List.getElem?_replicate
abbrev zBY:=@wpAny_typeOf
abbrev zBZ:=@wpAny_setField
abbrev zBa:=@wpAny_setState_of
abbrev zBb:=@wpAny_call
abbrev zBc:=@Option.some.injEq
abbrev zBf:=@Nat.le_succ
abbrev zBg:=@Int.toNat_of_nonneg
abbrev zBi:=@Heap.get?_update_other
abbrev zBm:=@wpAny_rule
abbrev zBo:=@List.all_eq_true
abbrev zBp:=@List.pairwise_cons
abbrev zBz:=@Nat.not_lt_zero
abbrev zB5:=@wpAny_typeNameOfWhole_keyiter
abbrev zB6:=@List.filter_cons
abbrev zB7:=@List.any_eq_true
end
namespace L2
open PySem PySem.Spec PyProof.Rows
noncomputable abbrev Key:=Sum Int Str
noncomputable def zHe:Key->Value->Bool
 | .inl k,v=>Value.isInt k v
 | .inr x,v=>Value.isStrOf x v
noncomputable def keyH (w:World):Key->Int
 | .inl k=>hashInt k
 | .inr x=>hashStr w x
theorem zBe:∀{k:Key}{v:Value},zHe k v=true->(∃i t,k=Sum.inl i/\v=Value.int i t)\/(∃x t,k=Sum.inr x/\v=Value.str x t)
 | .inl i,v,h=>by
  obtain⟨t,e⟩:=Value.isInt_shape (k:=i) (v:=v) h
  exact .inl ⟨i,t,rfl,e⟩
 | .inr x,v,h=>by
  obtain⟨t,e⟩:=Value.isStrOf_shape (x:=x) (v:=v) h
  exact .inr ⟨x,t,rfl,e⟩
theorem zIv (i:Int)(t:Tok):zHe (.inl i) (.int i t)=true:=by simp[zHe,Value.isInt]
theorem zIu (x:Str)(t:Tok):zHe (.inr x) (.str x t)=true:=by simp[zHe,Value.isStrOf]
theorem key_ll (a b:Int):decide ((Sum.inl a:Key)=Sum.inl b)=(a==b):=by
 by_cases e:a=b
 . subst e;simp
 . have h:¬ (Sum.inl a:Key)=Sum.inl b:=fun q=>e (Sum.inl.inj q)
   rw[zu h]
   exact (beq_eq_false_iff_ne.mpr e).symm
theorem key_rr (a b:Str):decide ((Sum.inr a:Key)=Sum.inr b)=decide (a=b):=by
 by_cases e:a=b
 . subst e;simp
 . have h:¬ (Sum.inr a:Key)=Sum.inr b:=fun q=>e (Sum.inr.inj q)
   rw[zu h,zu e]
theorem key_lr (a:Int)(b:Str):decide ((Sum.inl a:Key)=Sum.inr b)=false:=zu (fun q=>nomatch q)
theorem key_rl (a:Str)(b:Int):decide ((Sum.inr a:Key)=Sum.inl b)=false:=zu (fun q=>nomatch q)
noncomputable def zBN (prog:Program)(w:World):PySem.KeyKind prog w Key where
 is:=zHe
 hash:=keyH w
 inj:=fun v a b ha hb=>by
  rcases zBe ha with ⟨i,t,rfl,rfl⟩ | ⟨x,t,rfl,rfl⟩
  . rcases zBe hb with ⟨j,u,rfl,e⟩ | ⟨y,u,rfl,e⟩
    . injection e with e1 _;rw[e1]
    . exact nomatch e
  . rcases zBe hb with ⟨j,u,rfl,e⟩ | ⟨y,u,rfl,e⟩
    . exact nomatch e
    . injection e with e1 _;rw[e1]
 byValue:=fun k v h=>by
  rcases zBe h with ⟨i,t,rfl,rfl⟩ | ⟨x,t,rfl,rfl⟩ <;> rfl
 pyHash:=fun hv h=>by
  rcases zBe hv with ⟨i,t,rfl,rfl⟩ | ⟨x,t,rfl,rfl⟩
  . exact wpAny_pyHash_int h
  . exact wpAny_pyHash_str h
 eqBool:=fun hu hv h=>by
  rcases zBe hu with ⟨i,t,rfl,rfl⟩ | ⟨x,t,rfl,rfl⟩
  . rcases zBe hv with ⟨j,u,rfl,rfl⟩ | ⟨y,u,rfl,rfl⟩
    . rw[key_ll] at h;exact wpAny_eqBool_int h
    . rw[key_lr] at h;exact SeqAt.EqAt.int_str i t y u _ _ _ _ h
  . rcases zBe hv with ⟨j,u,rfl,rfl⟩ | ⟨y,u,rfl,rfl⟩
    . rw[key_rl] at h;exact SeqAt.EqAt.str_int x t j u _ _ _ _ h
    . rw[key_rr] at h;exact wpAny_eqBool_str h
 «strs» := fun k x t v h=>by
  rcases zBe h with ⟨i,u,rfl,e⟩ | ⟨y,u,rfl,e⟩
  . exact nomatch e
  . injection e with e1 _
    subst e1
    cases v <;> rfl
theorem zGm (prog:Program)(w:World)(i:Int)(t:Tok):(zBN prog w).is (.inl i) (.int i t)=true:=zIv i t
theorem zGl (prog:Program)(w:World)(x:Str)(t:Tok):(zBN prog w).is (.inr x) (.str x t)=true:=zIu x t
inductive V where
 | non | bl (b:Bool) | int (i:Int) | str (x:Str) | byt (b:Array UInt8) | flt (b:UInt64) | ref (a:Addr) | ty (n:String)
 deriving DecidableEq
noncomputable def zBy:V->Value->Prop
 | .non,u=>u=Value.none
 | .bl b,u=>u=Value.bool b
 | .int i,u=>∃t,u=Value.int i t
 | .str x,u=>∃t,u=Value.str x t
 | .byt b,u=>∃t,u=Value.bytes b t
 | .flt b,u=>∃t,u=Value.float b t
 | .ref a,u=>u=Value.ref a
 | .ty n,u=>u=Value.type n
noncomputable abbrev zBL:List V->List Value->Prop:=Paired zBy
variable {us:List Value}
theorem zBL.length {xs:List V}(r:zBL xs us):xs.length=us.length:=Paired.length r
theorem zBL.get:∀{xs:List V}{us:List Value}{i:Nat}{x:V},zBL xs us->xs[i]? = some x->∃u,us[i]? = some u/\zBy x u
 | _,_,_,_,.nil,e=>by simp at e
 | _,_,0,_,.cons r _,e=>by simp at e;subst e;exact⟨_,rfl,r⟩
 | _,_,i+1,x,.cons _ t,e=>by
  obtain⟨u,h1,h2⟩:=zBL.get (i:=i) (x:=x) t (by simpa using e)
  exact⟨u,by simpa using h1,h2⟩
theorem zBL.set {x:V}{u:Value}(r:zBy x u):∀{xs:List V}{us:List Value}(i:Nat),zBL xs us->zBL (xs.set i x) (us.set i u)
 | _,_,_,.nil=>.nil
 | _,_,0,.cons _ t=>.cons r t
 | _,_,i+1,.cons q t=>.cons q (zBL.set r i t)
theorem zBL.append:∀{xs ys:List V}{us ws:List Value},zBL xs us->zBL ys ws->zBL (xs++ys) (us++ws)
 | _,_,_,_,.nil,s=>s
 | _,_,_,_,.cons r t,s=>.cons r (zBL.append t s)
theorem zBL.take:∀{xs:List V}{us:List Value}(n:Nat),zBL xs us->zBL (xs.take n) (us.take n)
 | _,_,0,_=>.nil
 | _,_,_+1,.nil=>.nil
 | _,_,n+1,.cons r t=>.cons r (zBL.take n t)
theorem zBL.drop:∀{xs:List V}{us:List Value}(n:Nat),zBL xs us->zBL (xs.drop n) (us.drop n)
 | _,_,0,r=>r
 | _,_,_+1,.nil=>.nil
 | _,_,n+1,.cons _ t=>zBL.drop n t
noncomputable def zHo:Option V->Option Value->Prop
 | some v,some u=>zBy v u
 | none,none=>True
 | _,_=>False
noncomputable def KV {κ:Type}:List (κ×V)->List (κ×Value)->Prop:=Paired fun (p:κ×V)(q:κ×Value)=>p.1=q.1/\zBy p.2 q.2
noncomputable def kV:Key->V
 | .inl i=>.int i
 | .inr x=>.str x
inductive HO where
 /-- a list -/
 | lst (xs:List V)
 /-- a tuple (never changes) -/
 | tup (xs:List V)
 /-- a dict whose keys are ints and texts;one whose keys are tuples of ints and texts (the empty one is both) -/
 | dK (kvs:List (Key×V)) | dT (kvs:List (List Key×V))
 /-- a set of ints: its members,its size -/
 | set (S:Int->Bool)(n:Nat)
 /-- an instance of the class at C,its dict at dx,its attributes -/
 | ins (C dx:Addr)(fs:List (Str×V))
 /-- the dict of the instance at x -/
 | own (x:Addr)
 /-- the dict of an exception -/
 | xd (fs:List (Str×V))
 /-- a bound method,f of x -/
 | met (f x:Addr)
 /-- a range object lo,lo+1,.. below hi -/
 | rng (lo hi:Int)
 /-- a thing that is known to the object (the script;a dict while a loop walks it): read,never written while it is so -/
 | frz (o:Obj)(u:HO)
 /-- a code object's table -/
 | tbl (ps:Array Value)
 /-- any other thing,by what is true of its one object (a def of one's own: SetO a S n:=HO.ext fun h=>..) -/
 | ext (φ:Heap->Prop)
noncomputable abbrev Hp:=Addr->Option HO
noncomputable def upd (H:Hp)(a:Addr)(o:HO):Hp:=fun b=>if b=a then some o else H b
variable {H:Hp}{a:Addr}
theorem zJ {o:HO}:upd H a o a=some o:=by unfold upd;rw[if_pos rfl]
variable {b:Addr}
theorem zk {o:HO}(h:b≠a):upd H a o b=H b:=by unfold upd;rw[if_neg h]
theorem zB8 {o u:HO}:upd (upd H a o) a u=upd H a u:=by
 funext b;unfold upd;split <;> rfl
theorem zBu {o u:HO}(h:H a=some o)(h':H b=some u)(d:o≠u):a≠b:=by
 intro e;subst e;rw[h] at h';exact d (zX h')
theorem zq {o:HO}(h:H a=some o)(h':H b=none):a≠b:=by
 intro e;subst e;rw[h] at h';cases h'
section
variable (P:Program)(w:World)
noncomputable def zBK (H:Hp)(h:Heap)(a:Addr):HO->Prop
 | .lst xs=>xs.length<=sizeLine/\∃(its:List Value)(n:Nat),zBL xs its/\h.get? a=some { cls:=.type "list",data:=.seq its.toArray n }
 | .tup xs=>(xs.length<=sizeLine/\∃o,h.get? a=some o/\o.dict=none)/\∃its:List Value,zBL xs its/\IsTup h a its.toArray
 | .dK kvs=>kvs.length<=sizeLine/\(a==sysModules)=false/\∃vs,KV kvs vs/\h.DictOf (zBN P w) a vs
 | .dT kvs=>kvs.length<=sizeLine/\(a==sysModules)=false/\∃xs:List (List Key×Addr×Value),
  Paired (fun (p:List Key×V)(q:List Key×Addr×Value)=>p.1=q.1/\H q.2.1=some (.tup (p.1.map kV))/\zBy p.2 q.2.2) kvs xs /\
  ∃o es ep,h.get? a=some o/\o.ExactDict/\o.data = .dict es ep/\es.toList=xs.map (entryOfKey (tupleKind (zBN P w)))/\(xs.map (·.1)).Nodup
 | .set S n=>h.SetOf (intKind P w) a S n
 | .ins C dx fs=>H dx=some (.own a)/\fs.length<=1000/\dx≠a/\h.get? a=some (PySem.W.instObj C dx) /\
  ∃mA,h.Ns1 dx mA/\(∀f,zHo (fs.lookup f) (mA f))/\PySem.Within mA (fs.map (·.1))
 | .own _=>∃o,h.get? a=some o
 | .xd fs=>∃mA,h.Ns1 a mA/\∀f,zHo (fs.lookup f) (mA f)
 | .rng lo hi=>∃t u v,h.get? a=some { cls:=.type "range",data:=.fields #[.int lo t,.int hi u,.int 1 v] }
 | .frz o u=>h.get? a=some o/\zBK H h a u
 | .tbl ps=>h.get? a=some { cls:=.none,data:=.fields ps }
 | .met f x=>h.get? a=some (PySem.W.methodObj (.ref f) (.ref x))
 | .ext φ=>φ h/\(∃o,h.get? a=some o)/\∀h1 h2:Heap,φ h1->(∀o,h1.get? a=some o->h2.get? a=some o)->φ h2
noncomputable def HOk (H:Hp)(h:Heap):Prop:=∀a o,H a=some o->zBK P w H h a o
end
section
variable {P:Program}{w:World}{H H':Hp}{h h':Heap}{a:Addr}{o:HO}
theorem zBK.lt (x:zBK P w H h a o):a<h.objs.size:=by
 cases o with
 | lst xs=>obtain⟨_,_,_,_,e⟩:=x;exact zQ e
 | tup xs=>obtain⟨_,_,_,p⟩:=x;exact p.lt
 | dK kvs=>obtain⟨_,_,_,_,o,_,_,e,_⟩:=x;exact zQ e
 | dT kvs=>obtain⟨_,_,_,_,o,_,_,e,_⟩:=x;exact zQ e
 | set S n=>obtain⟨o,_,_,_,e,_⟩:=x;exact zQ e
 | ins C dx fs=>obtain⟨_,_,_,e,_⟩:=x;exact zQ e
 | own y=>obtain⟨_,e⟩:=x;exact zQ e
 | xd fs=>obtain⟨_,⟨_,_,_,e,_⟩,_⟩:=x;exact zQ e
 | rng lo hi=>obtain⟨_,_,_,e⟩:=x;exact zQ e
 | frz ob u=>obtain⟨e,_⟩:=x;exact zQ e
 | tbl ps=>exact zQ (show h.get? a=some _ from x)
 | met f y=>exact zQ (show h.get? a=some _ from x)
 | ext φ=>obtain⟨_,⟨_,e⟩,_⟩:=x;exact zQ e
theorem Paired.mapP {α β:Type}{F G:α->β->Prop}:∀{l₁:List α}{l₂:List β},Paired F l₁ l₂->(∀a b,F a b->G a b)->Paired G l₁ l₂
 | _,_,.nil,_=>.nil
 | _,_,.cons r t,f=>.cons (f _ _ r) (Paired.mapP t f)
theorem zBK.stay (x:zBK P w H h a o)(k:∀b u,(b=a\/H b=some (.own a))->h.get? b=some u->h'.get? b=some u)
 (ho:∀b,H b=some (.own a)->H' b=some (.own a))(ht:∀b xs,H b=some (.tup xs)->H' b=some (.tup xs)):zBK P w H' h' a o:=by
 induction o with
 | lst xs=>obtain⟨z,its,n,r,e⟩:=x;exact⟨z,its,n,r,k _ _ (.inl rfl) e⟩
 | tup xs=>obtain⟨⟨z,o2,e2,d2⟩,its,r,ob,e,c⟩:=x;exact⟨⟨z,o2,k _ _ (.inl rfl) e2,d2⟩,its,r,ob,k _ _ (.inl rfl) e,c⟩
 | dK kvs=>obtain⟨z,y,vs,r,ob,es,ep,e,c⟩:=x;exact⟨z,y,vs,r,ob,es,ep,k _ _ (.inl rfl) e,c⟩
 | dT kvs=>
  obtain⟨z,y,xs,r,ob,es,ep,e,c⟩:=x
  exact⟨z,y,xs,Paired.mapP r fun p q z=>⟨z.1,ht _ _ z.2.1,z.2.2⟩,ob,es,ep,k _ _ (.inl rfl) e,c⟩
 | set S n=>obtain⟨ob,es,ep,t,e,c⟩:=x;exact⟨ob,es,ep,t,k _ _ (.inl rfl) e,c⟩
 | ins C dx fs=>
  obtain⟨d,z,ne,e,mA,⟨od,es,ep,e2,c⟩,r⟩:=x
  exact⟨ho _ d,z,ne,k _ _ (.inl rfl) e,mA,⟨od,es,ep,k _ _ (.inr d) e2,c⟩,r⟩
 | own y=>obtain⟨ob,e⟩:=x;exact⟨ob,k _ _ (.inl rfl) e⟩
 | xd fs=>obtain⟨mA,⟨od,es,ep,e,c⟩,r⟩:=x;exact⟨mA,⟨od,es,ep,k _ _ (.inl rfl) e,c⟩,r⟩
 | rng lo hi=>obtain⟨t,u,v,e⟩:=x;exact⟨t,u,v,k _ _ (.inl rfl) e⟩
 | frz ob u ih=>obtain⟨e,q⟩:=x;exact⟨k _ _ (.inl rfl) e,ih q⟩
 | tbl ps=>
  have e:h.get? a=some { cls:=.none,data:=.fields ps }:=x
  show h'.get? a=some { cls:=.none,data:=.fields ps }
  exact k a _ (.inl rfl) e
 | met f y=>
  have e:h.get? a=some (PySem.W.methodObj (.ref f) (.ref y)):=x
  show h'.get? a=some (PySem.W.methodObj (.ref f) (.ref y))
  exact k a _ (.inl rfl) e
 | ext φ=>obtain⟨p,⟨o,e⟩,st⟩:=x;exact⟨st _ _ p fun o q=>k _ _ (.inl rfl) q,⟨o,k _ _ (.inl rfl) e⟩,st⟩
theorem HOk.lt (x:HOk P w H h)(e:H a=some o):a<h.objs.size:=(x a o e).lt
theorem HOk.fresh (x:HOk P w H h)(e:h.objs.size<=a):H a=none:=by
 cases q:H a with
 | none=>rfl
 | some u=>exact absurd (zi (x.lt q) e) (zBF _)
theorem HOk.kept (x:HOk P w H h)(k:∀b u,h.get? b=some u->h'.get? b=some u):HOk P w H h':=fun a o e=>
 (x a o e).stay (fun b u _ q=>k b u q) (fun _ q=>q) fun _ _ q=>q
theorem HOk.laid (x:HOk P w H h)(k:∀b u,h.get? b=some u->h'.get? b=some u)(hp:h.objs.size<=a)(new:zBK P w (upd H a o) h' a o):HOk P w (upd H a o) h':=fun b u e=>by
 have hn:=x.fresh hp
 by_cases hb:b=a
 . subst hb;rw[zJ] at e;cases e;exact new
 . rw[zk hb] at e
   exact (x b u e).stay (fun c v _ q=>k c v q) (fun c q=>by rw[zk (zq q hn)];exact q) fun c xs q=>by rw[zk (zq q hn)];exact q
end
noncomputable def Rd (H:Hp)(a:Addr)(u:HO):Prop:=H a=some u\/∃o,H a=some (.frz o u)
variable {P:Program}{w:World}{h:Heap}
theorem Rd.ok {u:HO}(r:Rd H a u)(x:HOk P w H h):zBK P w H h a u:=by
 rcases r with r | ⟨o,r⟩
 . exact x a u r
 . obtain⟨_,q⟩:=x a _ r
   exact q
noncomputable def Mut:Option HO->Prop
 | some (.lst _)=>True
 | some (.dK _)=>True
 | some (.dT _)=>True
 | some (.set _ _)=>True
 | some (.ins _ _ _)=>True
 | some (.ext _)=>True
 | _=>False
section
variable {P:Program}{w:World}{H:Hp}{h h':Heap}{x e:Addr}{o':HO}
theorem HOk.write (ok:HOk P w H h)(mu:Mut (H x))(he:e=x\/H e=some (.own x))(k:∀b u,b≠e->h.get? b=some u->h'.get? b=some u)(heo:∃u,h'.get? e=some u)
 (new:zBK P w (upd H x o') h' x o'):HOk P w (upd H x o') h':=fun b u q=>by
 have nown:∀c y,H c=some (.own y)->c≠x:=fun c y r z=>by subst z;rw[r] at mu;exact mu
 have ntup:∀c xs,H c=some (.tup xs)->c≠x:=fun c xs r z=>by subst z;rw[r] at mu;exact mu
 by_cases hb:b=x
 . subst hb;rw[zJ] at q;cases q;exact new
 . rw[zk hb] at q
   by_cases hbe:b=e
   . have q':H b=some (.own x):=by
      rcases he with z | z
      . exact absurd (hbe.trans z) hb
      . rw[hbe];exact z
     rw[q] at q';cases q'
     obtain⟨v,hv⟩:=heo
     exact⟨v,by rw[hbe];exact hv⟩
   . refine (ok b u q).stay (fun c v hc r=>k c v ?_ r) (fun c r=>by rw[zk (nown c b r)];exact r) fun c xs r=>by rw[zk (ntup c xs r)];exact r
     rcases hc with rfl | hc
     . exact hbe
     . rintro rfl
       rcases he with z | z
       . exact nown c b hc z
       . rw[hc] at z;cases z;exact hb rfl
end
structure Un (fs ex:List Addr)(H H':Hp)(h h':Heap):Prop where
 keep:∀b o,h.get? b=some o->H b=none->b∉fs->b∉ex->h'.get? b=some o
 slot:∀b o,h.get? b=some o->H b=none->b∈fs->b∉ex->∃sl,h'.get? b=some { o with slots:=sl }
 free:∀b o,h.get? b=some o->H b=none->b∉ex->H' b=none
 there:∀b o,h.get? b=some o->b∉ex->∃o',h'.get? b=some o'
 tups:∀b xs,H b=some (.tup xs)->H' b=some (.tup xs)
 frzs:∀b o u,H b=some (.frz o u)->H' b=some (.frz o u)
 tbls:∀b ps,H b=some (.tbl ps)->∃more,H' b=some (.tbl (ps++more))
section
variable {fs fs' ex ex':List Addr}{H H1 H2:Hp}{h h1 h2 h':Heap}{a x e:Addr}{o:HO}
theorem Un.any (u:Un fs ex H H1 h h1){ob:Obj}(q:h.get? b=some ob)(n:H b=none)(hx:b∉ex):∃sl,h1.get? b=some { ob with slots:=sl }:=by
 by_cases hb:b∈fs
 . exact u.slot b ob q n hb hx
 . exact⟨ob.slots,u.keep b ob q n hb hx⟩
theorem Un.kept (k:∀b u,h.get? b=some u->h'.get? b=some u):Un fs ex H H h h':=
 ⟨fun b ob q _ _ _=>k b ob q,fun b ob q _ _ _=>⟨ob.slots,k b ob q⟩,fun _ _ _ n _=>n,fun b ob q _=>⟨ob,k b ob q⟩,fun _ _ q=>q,fun _ _ _ q=>q,fun _ ps q=>⟨#[],by rw[q];simp⟩⟩
theorem Un.refl:Un fs ex H H h h:=Un.kept fun _ _ q=>q
theorem Un.laid (k:∀b u,h.get? b=some u->h'.get? b=some u)(hp:h.objs.size<=a)(hn:H a=none):Un fs ex H (upd H a o) h h' where
 keep:=fun b u q _ _ _=>k b u q
 slot:=fun b u q _ _ _=>⟨u.slots,k b u q⟩
 free:=fun b u q n _=>by rw[zk (zT (zi (zQ q) hp))];exact n
 there:=fun b u q _=>⟨u,k b u q⟩
 tups:=fun b xs q=>by rw[zk (zq q hn)];exact q
 frzs:=fun b u xs q=>by rw[zk (zq q hn)];exact q
 tbls:=fun b ps q=>⟨#[],by rw[zk (zq q hn),q];simp⟩
theorem Un.write (mu:Mut (H x))(he:e=x\/H e=some (.own x))(k:∀b u,b≠e->h.get? b=some u->h'.get? b=some u)(heo:∃u,h'.get? e=some u):Un fs ex H (upd H x o) h h':=by
 have hx:∀b,H b=none->b≠x:=fun b n z=>by subst z;rw[n] at mu;exact mu
 have hb:∀b,H b=none->b≠e:=fun b n z=>by
  subst z
  rcases he with r | r
  . exact hx b n r
  . rw[n] at r;cases r
 have hm:∀b u,H b=some u->¬ Mut (some u)->b≠x:=fun b u q nm z=>by subst z;rw[q] at mu;exact nm mu
 refine⟨fun b u q n _ _=>k b u (hb b n) q,fun b u q n _ _=>⟨u.slots,k b u (hb b n) q⟩,fun b u q n _=>by rw[zk (hx b n)];exact n,fun b u q _=>?_,
  fun b xs q=>by rw[zk (hm b _ q fun z=>z)];exact q,fun b u xs q=>by rw[zk (hm b _ q fun z=>z)];exact q,fun b ps q=>⟨#[],by rw[zk (hm b _ q fun z=>z),q];simp⟩⟩
 by_cases hbe:b=e
 . subst hbe;exact heo
 . exact⟨u,k b u hbe q⟩
end
noncomputable def trk (h:Heap)(H:Hp):List Addr:=(List.range h.objs.size).filter fun a=>(H a).isSome
noncomputable def zJe (h:Heap)(H:Hp):Heap:=PySem.W.hideAll h (trk h H)
theorem zI4 (h:Heap)(H:Hp):(zJe h H).objs.size=h.objs.size:=PySem.W.hideAll_size _ _
variable {o:Obj}
theorem zKS (e:h.get? b=some o)(n:H b=none):(zJe h H).get? b=some o:=
 PySem.W.hideAll_get _ e fun hm=>by
  have q:(H b).isSome=true:=(zAs.mp hm).2
  rw[n] at q;simp at q
theorem zMW (e:(zJe h H).get? b=some o):h.get? b=some o/\H b=none:=by
 have e':h.get? b=some o:=PySem.W.of_hideAll (trk h H) e
 refine⟨e',?_⟩
 cases q:H b with
 | none=>rfl
 | some x=>
  have hm:b∈trk h H:=zAs.mpr ⟨zBG.mpr (zQ e'),by simp[q]⟩
  have z:(zJe h H).get? b=none:=PySem.W.hideAll_none (trk h H) hm
  rw[z] at e;cases e
noncomputable def zEV (g h:Heap)(L:Addr):List (Addr×Obj):=(List.range h.objs.size).filterMap fun a=>if a=L\/(g.get? a).isSome=true then none else (h.get? a).map fun o=>(a,o)
variable {L:Addr}
theorem zGn {g:Heap}(h1:a≠L)(h2:g.get? a=none)(h3:h.get? a=some o):(a,o)∈zEV g h L:=
 zA4.mpr ⟨a,zBG.mpr (zQ h3),by simp[h1,h2,h3]⟩
theorem zEd {g:Heap}{p:Addr×Obj}(hp:p∈zEV g h L):p.1≠L/\g.get? p.1=none/\h.get? p.1=some p.2:=by
 obtain⟨b,_,e⟩:=zA4.mp hp
 split at e
 . cases e
 . rename_i hn
   cases q:h.get? b with
   | none=>rw[q] at e;simp at e
   | some u=>
    rw[q] at e
    simp only[zAp,zBc] at e
    subst e
    refine⟨fun z=>hn (.inl z),?_,q⟩
    show g.get? b=none
    cases r:g.get? b with
    | none=>rfl
    | some v=>exact (hn (.inr (by simp[r]))).elim
theorem zKL {g:Heap}:News g L h (zEV g h L):=fun p hp=>let ⟨a,b,c⟩:=zEd hp;⟨c,a,b⟩
structure Mod (K:PySem.W.Frag)(mg:sOV)(base:Heap):Prop where
 kin:K.In base
 glob:base.Ns mainGlobals mg
 blt:∃mb,base.Ns builtinsNs mb/\∀x:Str,x ≠ "__name__" -> mb x=bootBuiltins x
 nolimit:base.NoLimit
structure Cx where
 prog:Program
 w:World
 K:PySem.W.Frag
 mg:Str->Option Value
 base:Heap
 A:Around
 N:List Str
 s₀:Shared
 H₀:Hp
 env:Env
 outer:List Env
 stack:List Env
 ex:List Addr
 fn:Str->Bool
 calm:Bool
 pn:List (Addr×Obj)
 xe:Value->Shared->Prop
noncomputable def frs (l:List Env):List Addr:=l.filterMap (·.frame)
noncomputable abbrev Cx.fs (X:Cx):List Addr:=frs X.outer
noncomputable def Vis (sc:Scope)(x:Str):Prop:=sc.names.lookup x=some .local\/sc.names.lookup x=some .cell\/sc.names.lookup x=some .free
noncomputable def Loc (sc:Scope)(x:Str):Prop:=sc.names.lookup x=some .local\/sc.names.lookup x=some .cell
noncomputable def zJX (env:Env)(h:Heap)(m:sOV)(x:Str)(u:Value):Prop:=
 (env.kindOf x=some .local/\m x=some u)\/((env.kindOf x=some .cell\/env.kindOf x=some .free)/\∃c,env.cells.lookup x=some c/\h.IsCell c (some u))
structure Cx.Ok (X:Cx):Prop where
 mod:Mod X.K X.mg X.base
 kind:X.env.scope.kind = .function
 glob:X.env.globals=mainGlobals
 blt:X.env.builtins=builtinsNs
 above:X.s₀.heap.objs.size<=X.env.locals
 inj:∀x y c,X.env.cells.lookup x=some c->X.env.cells.lookup y=some c->x=y
 has:∀x,(X.env.kindOf x=some .cell\/X.env.kindOf x=some .free)->∃c,X.env.cells.lookup x=some c
 cab:∀x c,X.fn x=true->X.env.cells.lookup x=some c->X.s₀.heap.objs.size<=c
 hd:X.calm=true->X.A.handled=none
 frames:X.A.frames=some X.stack
 stk:X.stack=X.outer\/(X.stack=X.env::X.outer/\X.env.frame=some X.env.locals)
 exf:∀b∈X.ex,b≠X.env.locals/\∀x c,X.env.cells.lookup x=some c->c≠b
 bs:∀b o,X.base.get? b=some o->X.s₀.heap.get? b=some o/\X.H₀ b=none
 bsz:X.base.objs.size<=X.s₀.heap.objs.size
 noex:∀b o,X.base.get? b=some o->b∉X.ex
 exfs:∀b∈X.ex,b∉X.fs
 funs:X.s₀.heap.FunFrames X.base X.outer
 frf:∀b∈X.fs,X.H₀ b=none
structure Inv (X:Cx)(pins:lPO)(σ:List (Option V))(H:Hp)(s:Shared):Prop where
 ok:X.Ok
 os:s.os=X.s₀.os
 bare:AllBare s.gens
 base:Un X.fs X.ex X.H₀ H X.s₀.heap s.heap
 loc:∃m,s.heap.Ns X.env.locals m/\∀(i:Nat)(x:Str)(v:V),X.N[i]? = some x->σ[i]? = some (some v)->Vis X.env.scope x->∃u,zBy v u/\zJX X.env s.heap m x u
 cell:∀x c,X.env.cells.lookup x=some c->∃v,s.heap.IsCell c v
 free:H X.env.locals=none
 freeC:∀x c,X.env.cells.lookup x=some c->H c=none
 pin:∀p∈X.pn++pins,s.heap.get? p.1=some p.2/\H p.1=none/\p.1≠X.env.locals/\p.1∉X.fs/\∀v,p.2.data ≠ .cell v
 hok:HOk X.prog X.w H s.heap
 len:σ.length=X.N.length
variable {u:Value}{t' i:Nat}{N:List Str}{x:Str}{M:Model}{A:Around}{v:V}{Q:Unit->Shared->Prop}
section
variable {X:Cx}{pins:lPO}{σ:List (Option V)}{H H':Hp}{s:Shared}{h':Heap}
theorem Cx.Ok.nofr (ok:X.Ok)(e:X.base.get? b=some o):b∉X.fs:=fun hb=>by
 have:=(ok.funs.mem hb).1
 rw[e] at this;cases this
theorem Inv.bs (I:Inv X pins σ H s):∀b o,X.base.get? b=some o->s.heap.get? b=some o/\H b=none:=fun b o e=>
 ⟨I.base.keep b o (I.ok.bs b o e).1 (I.ok.bs b o e).2 (I.ok.nofr e) (I.ok.noex b o e),I.base.free b o (I.ok.bs b o e).1 (I.ok.bs b o e).2 (I.ok.noex b o e)⟩
theorem Inv.bk (I:Inv X pins σ H s):∀b o,X.base.get? b=some o->s.heap.get? b=some o:=fun b o e=>(I.bs b o e).1
theorem Inv.mod (I:Inv X pins σ H s):Mod X.K X.mg X.base:=I.ok.mod
theorem Inv.kIn (I:Inv X pins σ H s):X.K.In s.heap:=I.ok.mod.kin.keeps I.bk
theorem Inv.fr (I:Inv X pins σ H s):∃m,Fr X.base X.env.locals s.heap m:=
 let ⟨m,hn,_⟩:=I.loc
 ⟨m,hn,I.bk,zAP I.ok.bsz I.ok.above⟩
theorem Inv.lt (I:Inv X pins σ H s):X.env.locals<s.heap.objs.size:=let ⟨_,hn,_⟩:=I.loc;hn.lt
theorem Inv.sz (I:Inv X pins σ H s):X.s₀.heap.objs.size<=s.heap.objs.size:=zAP I.ok.above (zAr I.lt)
theorem Inv.nofs (I:Inv X pins σ H s)(h:s.heap.objs.size<=a):a∉X.fs:=fun hb=>by
 obtain⟨_,o,ho,_⟩:=I.ok.funs.mem hb
 exact absurd (zi (zQ ho) (zAP I.sz h)) (zBF _)
theorem Inv.cne (I:Inv X pins σ H s):∀x c,X.env.cells.lookup x=some c->c≠X.env.locals:=fun x c e z=>by
 obtain⟨v,o,ho,hd⟩:=I.cell x c e
 obtain⟨m,⟨o',es,ep,ho',hd',_⟩,_⟩:=I.loc
 rw[z,ho'] at ho;cases ho;rw[hd'] at hd;cases hd
theorem Inv.funs (I:Inv X pins σ H s):s.heap.FunFrames X.base X.outer:=by
 have all:∀(l:List Env),(∀b∈frs l,b∈X.fs)->X.s₀.heap.FunFrames X.base l->s.heap.FunFrames X.base l:=by
  intro l
  induction l with
  | nil=>intro _ _;trivial
  | cons env r ih=>
   intro hs hl
   obtain⟨hk,⟨L,o,hf,hn,ho,hd⟩,hr⟩:=hl
   have hL:L∈X.fs:=hs L (by unfold frs;rw[zBC,hf];exact zZ)
   obtain⟨sl,e⟩:=I.base.slot L o ho (I.ok.frf L hL) hL fun z=>I.ok.exfs L z hL
   exact⟨hk,⟨L,_,hf,hn,e,hd⟩,ih (fun b hb=>hs b (by unfold frs;rw[zBC,hf];exact zc _ hb)) hr⟩
 exact all X.outer (fun _ hb=>hb) I.ok.funs
theorem Inv.stack (I:Inv X pins σ H s):s.heap.FunFrames X.base X.stack:=by
 rcases I.ok.stk with e | ⟨e,hf⟩
 . rw[e];exact I.funs
 . rw[e]
   obtain⟨m,hn,_⟩:=I.loc
   refine .cons (by rw[I.ok.kind];decide) hf hn ?_ I.funs
   exact Heap.get?_none_of_le (zAP I.ok.bsz I.ok.above)
theorem Inv.stkSub (I:Inv X pins σ H s):∀b∈frs X.stack,b∈X.env.locals::X.fs:=fun b hb=>by
 rcases I.ok.stk with e | ⟨e,hf⟩
 . rw[e] at hb;exact zc _ hb
 . rw[e] at hb
   unfold frs at hb
   rw[zBC,hf] at hb
   exact hb
theorem Inv.stkFree (I:Inv X pins σ H s):∀b∈frs X.stack,H b=none:=fun b hb=>by
 rcases zV.mp (I.stkSub b hb) with e | hb
 . rw[e];exact I.free
 . obtain⟨_,o,ho,_⟩:=I.ok.funs.mem hb
   exact I.base.free b o ho (I.ok.frf b hb) fun z=>I.ok.exfs b z hb
theorem Inv.step {g':Array GenState}{t':Nat}{d':Drawn}{ch:List Addr}(I:Inv X pins σ H s)
 (hch:∀b∈ch,(b∈X.ex\/X.s₀.heap.objs.size<=b)/\b≠X.env.locals/\(∀x c,X.env.cells.lookup x=some c->c≠b)/\∀p∈X.pn++pins,p.1≠b)
 (keep:∀b o,b≠X.env.locals->b∉X.fs->b∉ch->s.heap.get? b=some o->H b=none->h'.get? b=some o)
 (slot:∀b o,b≠X.env.locals->b∈X.fs->b∉ch->s.heap.get? b=some o->H b=none->∃sl,h'.get? b=some { o with slots:=sl })(free:∀b o,b∉ch->s.heap.get? b=some o->H b=none->H' b=none)
 (there:∀b o,b∉ch->s.heap.get? b=some o->∃o',h'.get? b=some o')
 (tups:∀b xs,H b=some (.tup xs)->H' b=some (.tup xs))(frzs:∀b o u,H b=some (.frz o u)->H' b=some (.frz o u))(tbls:∀b ps,H b=some (.tbl ps)->∃more,H' b=some (.tbl (ps++more)))
 (ns:∀m,s.heap.Ns X.env.locals m->h'.Ns X.env.locals m)(hok:HOk X.prog X.w H' h')(hg:AllBare g') :
 Inv X pins σ H' { s with heap:=h',gens:=g',drawn:=d',toks:=t' }:=by
 have neL:∀b o,X.s₀.heap.get? b=some o->b≠X.env.locals:=fun b o e=>zT (zi (zQ e) I.ok.above)
 have neC:∀b o,X.s₀.heap.get? b=some o->b∉X.ex->b∉ch:=fun b o e hx hb=>by
  rcases (hch b hb).1 with z | z
  . exact hx z
  . exact absurd (zi (zQ e) z) (zBF _)
 have cellK:∀x c,X.env.cells.lookup x=some c->∀v,s.heap.IsCell c v->h'.IsCell c v:=fun x c e v ⟨o,ho,hd⟩=>by
  have nch:c∉ch:=fun z=>(hch c z).2.2.1 x c e rfl
  by_cases hc:c∈X.fs
  . obtain⟨sl,q⟩:=slot c o (I.cne x c e) hc nch ho (I.freeC x c e)
    exact⟨_,q,hd⟩
  . exact⟨o,keep c o (I.cne x c e) hc nch ho (I.freeC x c e),hd⟩
 refine⟨I.ok,I.os,hg,⟨fun b o e n hb hx=>?_,fun b o e n hb hx=>?_,fun b o e n hx=>?_,fun b o e hx=>?_,fun b xs e=>tups b xs (I.base.tups b xs e),fun b o xs e=>frzs b o xs (I.base.frzs b o xs e),fun b ps e=>?_⟩,?_,fun x c e=>?_,?_,fun x c e=>?_,fun p hp=>?_,hok,I.len⟩
 . exact keep b o (neL b o e) hb (neC b o e hx) (I.base.keep b o e n hb hx) (I.base.free b o e n hx)
 . obtain⟨sl,e1⟩:=I.base.slot b o e n hb hx
   obtain⟨sl',e2⟩:=slot b _ (neL b o e) hb (neC b o e hx) e1 (I.base.free b o e n hx)
   exact⟨sl',e2⟩
 . obtain⟨o',e1⟩:=I.base.there b o e hx
   exact free b o' (neC b o e hx) e1 (I.base.free b o e n hx)
 . obtain⟨o',e1⟩:=I.base.there b o e hx
   exact there b o' (neC b o e hx) e1
 . obtain⟨m1,e1⟩:=I.base.tbls b ps e
   obtain⟨m2,e2⟩:=tbls b _ e1
   exact⟨m1++m2,by rw[e2,Array.append_assoc]⟩
 . obtain⟨m,hn,hl⟩:=I.loc
   refine⟨m,ns m hn,fun i x v e1 e2 e3=>?_⟩
   obtain⟨u,r,l⟩:=hl i x v e1 e2 e3
   refine⟨u,r,?_⟩
   rcases l with l | ⟨k,c,e,z⟩
   . exact .inl l
   . exact .inr ⟨k,c,e,cellK x c e _ z⟩
 . obtain⟨v,z⟩:=I.cell x c e
   exact⟨v,cellK x c e v z⟩
 . obtain⟨m,⟨o,_,_,ho,_⟩,_⟩:=I.loc
   exact free _ o (fun z=>(hch _ z).2.1 rfl) ho I.free
 . obtain⟨v,o,ho,hd⟩:=I.cell x c e
   exact free c o (fun z=>(hch c z).2.2.1 x c e rfl) ho (I.freeC x c e)
 . obtain⟨e,n,ne,nf,d⟩:=I.pin p hp
   have nch:p.1∉ch:=fun z=>(hch p.1 z).2.2.2 p hp rfl
   exact⟨keep p.1 p.2 ne nf nch e n,free p.1 p.2 nch e n,ne,nf,d⟩
theorem Inv.un (I:Inv X pins σ H s)(u:Un X.fs [] H H' s.heap h')(hok:HOk X.prog X.w H' h'):Inv X pins σ H' { s with heap:=h',toks:=t' }:=by
 obtain⟨m,⟨o,es,ep,ho,r⟩,_⟩:=id I.loc
 obtain⟨sl,hL⟩:=u.any ho I.free (by simp)
 exact I.step (g':=s.gens) (d':=s.drawn) (ch:=[]) (fun _ z=>nomatch z) (fun b o _ hb _ e n=>u.keep b o e n hb (by simp)) (fun b o _ hb _ e n=>u.slot b o e n hb (by simp)) (fun b o _ e n=>u.free b o e n (by simp)) (fun b o _ e=>u.there b o e (by simp)) u.tups u.frzs u.tbls (fun m' hm=>by
  obtain⟨o',es',ep',ho',r'⟩:=hm
  rw[ho] at ho';cases ho'
  exact⟨_,es',ep',hL,r'⟩) hok I.bare
theorem Inv.call {g':Array GenState}{d':Drawn}{ch:List Addr}(I:Inv X pins σ H s)(u:Un (frs X.stack) ch H H' s.heap h')(hok:HOk X.prog X.w H' h')(hg:AllBare g')
 (hch:∀b∈ch,(b∈X.ex\/X.s₀.heap.objs.size<=b)/\b≠X.env.locals/\(∀x c,X.env.cells.lookup x=some c->c≠b)/\∀p∈X.pn++pins,p.1≠b) :
 Inv X pins σ H' { s with heap:=h',gens:=g',drawn:=d',toks:=t' }:=by
 obtain⟨m,⟨o,es,ep,ho,r⟩,_⟩:=id I.loc
 obtain⟨sl,hL⟩:=u.any ho I.free fun z=>(hch _ z).2.1 rfl
 exact I.step (ch:=ch) hch (fun b o hL hb hc e n=>u.keep b o e n (fun z=>(zV.mp (I.stkSub b z)).elim hL hb) hc) (fun b o _ _ hc e n=>u.any e n hc) (fun b o hc e n=>u.free b o e n hc) (fun b o hc e=>u.there b o e hc) u.tups u.frzs u.tbls (fun m' hm=>by
  obtain⟨o',es',ep',ho',r'⟩:=hm
  rw[ho] at ho';cases ho'
  exact⟨_,es',ep',hL,r'⟩) hok hg
theorem Inv.turned {it:Addr}(I:Inv X pins σ H s)(k:∀b o,b≠it->s.heap.get? b=some o->h'.get? b=some o)(hn:H it=none)(hL:it≠X.env.locals)
 (h1:it∈X.ex\/X.s₀.heap.objs.size<=it)(h2:∀x c,X.env.cells.lookup x=some c->c≠it)(h3:∀p∈X.pn++pins,p.1≠it):Inv X pins σ H { s with heap:=h',toks:=t' }:=by
 have nit:∀b u,H b=some u->b≠it:=fun b u e z=>by rw[z,hn] at e;cases e
 refine I.step (g':=s.gens) (d':=s.drawn) (ch:=[it]) (fun b hb=>?_) (fun b o _ _ hc e _=>k b o (fun z=>hc (by simp[z])) e) (fun b o _ _ hc e _=>⟨o.slots,k b o (fun z=>hc (by simp[z])) e⟩) (fun _ _ _ _ n=>n)
  (fun b o hc e=>⟨o,k b o (fun z=>hc (by simp[z])) e⟩) (fun _ _ e=>e) (fun _ _ _ e=>e) (fun b ps e=>⟨#[],by rw[e];simp⟩) (fun m hm=>?_) (fun b u e=>?_) I.bare
 . have e:b=it:=by simpa using hb
   subst e
   exact⟨h1,hL,h2,h3⟩
 . obtain⟨o,es,ep,ho,r⟩:=hm
   exact⟨o,es,ep,k _ o (Ne.symm hL) ho,r⟩
 . refine (I.hok b u e).stay (fun c v hc q=>k c v ?_ q) (fun _ q=>q) fun _ _ q=>q
   rcases hc with z | z
   . rw[z];exact nit b u e
   . exact nit c _ z
theorem Inv.tok (I:Inv X pins σ H s)(t:Nat):Inv X pins σ H { s with toks:=t }:=I.un (h':=s.heap) (t':=t) Un.refl I.hok
theorem Inv.kept (I:Inv X pins σ H s)(k:∀b u,s.heap.get? b=some u->h'.get? b=some u):Inv X pins σ H { s with heap:=h',toks:=t' }:=I.un (Un.kept k) (I.hok.kept k)
theorem Inv.laid {a:Addr}{o:HO}{t':Nat}(I:Inv X pins σ H s)(k:∀b u,s.heap.get? b=some u->h'.get? b=some u)(hp:s.heap.objs.size<=a)(new:zBK X.prog X.w (upd H a o) h' a o) :
 Inv X pins σ (upd H a o) { s with heap:=h',toks:=t' }:=I.un (Un.laid k hp (I.hok.fresh hp)) (I.hok.laid k hp new)
theorem Inv.write {x e:Addr}{o:HO}{t':Nat}(I:Inv X pins σ H s)(mu:Mut (H x))(he:e=x\/H e=some (.own x))(k:∀b u,b≠e->s.heap.get? b=some u->h'.get? b=some u)(heo:∃u,h'.get? e=some u)
 (new:zBK X.prog X.w (upd H x o) h' x o):Inv X pins σ (upd H x o) { s with heap:=h',toks:=t' }:=I.un (Un.write mu he k heo) (I.hok.write mu he k heo new)
theorem Inv.weak {σ':List (Option V)}(I:Inv X pins σ H s)(hl:σ'.length=σ.length)(w:∀(i:Nat) v,σ'[i]? = some (some v)->σ[i]? = some (some v)):Inv X pins σ' H s:=
 ⟨I.ok,I.os,I.bare,I.base,let ⟨m,hn,hl'⟩:=I.loc;⟨m,hn,fun i x v e1 e2 e3=>hl' i x v e1 (w i v e2) e3⟩,I.cell,I.free,I.freeC,I.pin,I.hok,hl.trans I.len⟩
theorem Inv.pins_of {pins':lPO}(I:Inv X pins σ H s)(h:∀p∈pins',s.heap.get? p.1=some p.2/\H p.1=none/\p.1≠X.env.locals/\p.1∉X.fs/\∀v,p.2.data ≠ .cell v):Inv X pins' σ H s:=
 ⟨I.ok,I.os,I.bare,I.base,I.loc,I.cell,I.free,I.freeC,fun p hp=>(zm.mp hp).elim (fun z=>I.pin p (zAe _ z)) (h p),I.hok,I.len⟩
theorem zFK (hN:N.Nodup){j:Nat}(a:N[i]? = some x)(b:N[j]? = some x):i=j:=by
 obtain⟨h1,e1⟩:=zK.mp a
 obtain⟨h2,e2⟩:=zK.mp b
 exact (List.getElem_inj hN).mp (e1.trans e2.symm)
theorem zHy {E:vSP}(I:Inv X pins σ H s)(hN:X.N.Nodup)(hi:X.N[i]? = some x)(hx:Loc X.env.scope x)(r:zBy v u)
 (h:∀s',Inv X pins (σ.set i (some v)) H s'->(∃a,Heap.SameBut a s.heap s'.heap/\(a=X.env.locals\/X.env.cells.lookup x=some a))->Q () s')(hf:X.fn x=true\/X.env.scope.names.lookup x=some .local:=by first | exact .inl rfl | exact .inr rfl | assumption):wpAny M A (storeName X.env x u) Q E s:=by
 obtain⟨m,hn,hl⟩:=id I.loc
 have hcls:(X.env.scope.kind == .class || (X.env.scope.kind == .module && X.env.locals != X.env.globals))=false:=by rw[I.ok.kind];rfl
 have hiσ:i<σ.length:=by rw[I.len];exact (zK.mp hi).1
 have cne:=I.cne
 have tracked:∀{a:Addr}{h':Heap},(∃o,s.heap.get? a=some o/\H a=none)->Heap.SameBut a s.heap h'->HOk X.prog X.w H h':=fun {a h'} ha hs b ob e=>by
  obtain⟨_,_,hfree⟩:=ha
  refine (I.hok b ob e).stay (fun c w' hc q=>(hs.2 c ?_).trans q) (fun _ q=>q) fun _ _ q=>q
  rintro rfl
  rcases hc with rfl | hc
  . rw[hfree] at e;cases e
  . rw[hfree] at hc;cases hc
 rcases hx with hk | hk
 . refine wpAny_storeName_local hk hn (fun h' hn' hs=>?_) hcls
   obtain⟨oL,_,_,hoL,_⟩:=id hn
   refine h _ ⟨I.ok,I.os,I.bare,⟨fun b o e n hb hx=>?_,fun b o e n hb hx=>?_,I.base.free,fun b o e hx=>?_,I.base.tups,I.base.frzs,I.base.tbls⟩,⟨_,hn',fun j y v' e1 e2 e3=>?_⟩,fun y c e=>?_,I.free,I.freeC,fun p hp=>?_,tracked ⟨oL,hoL,I.free⟩ hs,by simpa using I.len⟩ ⟨_,hs,.inl rfl⟩
   . exact (hs.2 b (zT (zi (zQ e) I.ok.above))).trans (I.base.keep b o e n hb hx)
   . obtain⟨sl,e1⟩:=I.base.slot b o e n hb hx
     exact⟨sl,(hs.2 b (zT (zi (zQ e) I.ok.above))).trans e1⟩
   . obtain⟨o',e1⟩:=I.base.there b o e hx
     exact⟨o',(hs.2 b (zT (zi (zQ e) I.ok.above))).trans e1⟩
   . by_cases hj:j=i
     . subst hj
       rw[hi] at e1;cases e1
       rw[List.getElem?_set_self hiσ] at e2
       cases e2
       exact⟨u,r,.inl ⟨hk,by simp⟩⟩
     . rw[List.getElem?_set_ne (Ne.symm hj)] at e2
       obtain⟨u',r',q⟩:=hl j y v' e1 e2 e3
       refine⟨u',r',?_⟩
       rcases q with ⟨k,e⟩ | ⟨k,c,e,z⟩
       . refine .inl ⟨k,?_⟩
         have:y≠x:=fun e=>hj (zFK hN e1 (e ▸ hi))
         simp[this,e]
       . exact .inr ⟨k,c,e,z.sameBut hs (cne y c e)⟩
   . obtain⟨w',z⟩:=I.cell y c e
     exact⟨w',z.sameBut hs (cne y c e)⟩
   . obtain⟨e,n,ne,nf,d⟩:=I.pin p hp
     exact⟨(hs.2 p.1 ne).trans e,n,ne,nf,d⟩
 . have hfn:X.fn x=true:=by
    rcases hf with z | z
    . exact z
    . rw[z] at hk;cases hk
   obtain⟨c,hc⟩:=I.ok.has x (.inl hk)
   obtain⟨w',z⟩:=I.cell x c hc
   refine wpAny_storeName_cell I.ok.kind hk hc z (fun h' hc' hs=>?_)
   obtain⟨oc,hoc,hocd⟩:=id z
   refine h { s with heap:=h' } ⟨I.ok,I.os,I.bare,⟨fun b o e n hb hx=>?_,fun b o e n hb hx=>?_,I.base.free,fun b o e hx=>?_,I.base.tups,I.base.frzs,I.base.tbls⟩,⟨m,hn.sameBut hs (Ne.symm (cne x c hc)),fun j y v' e1 e2 e3=>?_⟩,fun y c' e=>?_,I.free,I.freeC,fun p hp=>?_,tracked ⟨oc,hoc,I.freeC x c hc⟩ hs,by simpa using I.len⟩ ⟨c,hs,.inr hc⟩
   . exact (hs.2 b (zT (zi (zQ e) (I.ok.cab x c hfn hc)))).trans (I.base.keep b o e n hb hx)
   . obtain⟨sl,e1⟩:=I.base.slot b o e n hb hx
     exact⟨sl,(hs.2 b (zT (zi (zQ e) (I.ok.cab x c hfn hc)))).trans e1⟩
   . obtain⟨o',e1⟩:=I.base.there b o e hx
     exact⟨o',(hs.2 b (zT (zi (zQ e) (I.ok.cab x c hfn hc)))).trans e1⟩
   . by_cases hj:j=i
     . subst hj
       rw[hi] at e1;cases e1
       rw[List.getElem?_set_self hiσ] at e2
       cases e2
       exact⟨u,r,.inr ⟨.inl hk,c,hc,hc'⟩⟩
     . rw[List.getElem?_set_ne (Ne.symm hj)] at e2
       obtain⟨u',r',q⟩:=hl j y v' e1 e2 e3
       refine⟨u',r',?_⟩
       rcases q with q | ⟨k,c',e,z'⟩
       . exact .inl q
       . refine .inr ⟨k,c',e,z'.sameBut hs ?_⟩
         rintro rfl
         exact hj (zFK hN e1 (I.ok.inj _ _ _ e hc ▸ hi))
   . by_cases hcc:c'=c
     . subst hcc;exact⟨_,hc'⟩
     . obtain⟨w2,z2⟩:=I.cell y c' e
       exact⟨w2,z2.sameBut hs hcc⟩
   . obtain⟨e,n,ne,nf,d⟩:=I.pin p hp
     refine⟨(hs.2 p.1 ?_).trans e,n,ne,nf,d⟩
     intro q
     rw[q,hoc] at e
     have q':oc=p.2:=zX e
     exact d w' (by rw[<-q'];exact hocd)
theorem zCh {E:vSP}(I:Inv X pins σ H s)(hN:X.N.Nodup)(hi:X.N[i]? = some x)(hx:Loc X.env.scope x)(r:zBy v u)
 (h:∀s',Inv X pins (σ.set i (some v)) H s'->Q () s')(hf:X.fn x=true\/X.env.scope.names.lookup x=some .local:=by first | exact .inl rfl | exact .inr rfl | assumption):wpAny M A (storeName X.env x u) Q E s:=
 zHy I hN hi hx r (fun s' I' _=>h s' I') hf
theorem Inv.call' {s':Shared}{ch:List Addr}(I:Inv X pins σ H s)(ho:s'.os=s.os)(u:Un (frs X.stack) ch H H' s.heap s'.heap)(hok:HOk X.prog X.w H' s'.heap)(hg:AllBare s'.gens)
 (hch:∀b∈ch,(b∈X.ex\/X.s₀.heap.objs.size<=b)/\b≠X.env.locals/\(∀x c,X.env.cells.lookup x=some c->c≠b)/\∀p∈X.pn++pins,p.1≠b):Inv X pins σ H' s':=by
 obtain⟨h',g',d',t',o'⟩:=s'
 have e:o'=s.os:=ho
 subst e
 exact I.call (g':=g') (t':=t') (d':=d') u hok hg hch
end
noncomputable abbrev XK:=Value->Option Addr->Hp->Prop
noncomputable abbrev St:=List (Option V)
noncomputable abbrev VK:=V->Hp->Prop
noncomputable abbrev TE:=St->Hp->VK->Prop
noncomputable abbrev TT:=St->Hp->(Bool->Hp->Prop)->Prop
noncomputable abbrev TA:=St->Hp->(List V->Hp->Prop)->Prop
structure zJb where
 nx:St->Hp->Prop
 rt:VK
 bk:St->Hp->Prop:=fun _ _=>False
 ct:St->Hp->Prop:=fun _ _=>False
noncomputable abbrev TS:=zJb->St->Hp->Prop
noncomputable def EP (X:Cx)(pins:lPO)(σ:St)(Q:VK)(u:Value)(s':Shared):Prop:=∃v H',Inv X pins σ H' s'/\zBy v u/\Q v H'
noncomputable def TP (X:Cx)(pins:lPO)(σ:St)(Q:Bool->Hp->Prop)(b:Bool)(s':Shared):Prop:=∃H',Inv X pins σ H' s'/\Q b H'
noncomputable def AP (X:Cx)(pins:lPO)(σ:St)(Q:List V->Hp->Prop)(us:List Value)(s':Shared):Prop:=∃vs H',Inv X pins σ H' s'/\zBL vs us/\Q vs H'
noncomputable def SP (X:Cx)(pins:lPO)(D:zJb)(f:Flow)(s':Shared):Prop:=
 match f with
 | .next=>∃ σ' H',Inv X pins σ' H' s'/\D.nx σ' H'
 | .brk=>∃ σ' H',Inv X pins σ' H' s'/\D.bk σ' H'
 | .cont=>∃ σ' H',Inv X pins σ' H' s'/\D.ct σ' H'
 | .ret u=>∃v σ' H',Inv X pins σ' H' s'/\zBy v u/\D.rt v H'
noncomputable def PE (X:Cx)(e:Expr)(t:TE):Prop:=
 ∀(pins:lPO)(s:Shared)(σ:St)(H:Hp)(Q:VK),Inv X pins σ H s->t σ H Q->wpAny (model X.prog X.w) X.A (eval e X.env) (EP X pins σ Q) X.xe s
noncomputable def PT (X:Cx)(e:Expr)(t:TT):Prop:=
 ∀(pins:lPO)(s:Shared)(σ:St)(H:Hp)(Q:Bool->Hp->Prop),Inv X pins σ H s->t σ H Q->wpAny (model X.prog X.w) X.A (isTrue e X.env (eval e X.env)) (TP X pins σ Q) X.xe s
noncomputable def PW (X:Cx)(e:Expr)(t:TT):Prop:=
 ∀(whole:Sem Value)(pins:lPO)(s:Shared)(σ:St)(H:Hp)(Q:Bool->Hp->Prop),Inv X pins σ H s->t σ H Q->wpAny (model X.prog X.w) X.A (isTrue e X.env whole) (TP X pins σ Q) X.xe s
variable {X:Cx}{e:Expr}
theorem PW.pt {t:TT}(h:PW X e t):PT X e t:=h _
noncomputable def PA (X:Cx)(es:List Expr)(t:TA):Prop:=
 ∀(pos:Pos)(pins:lPO)(s:Shared)(σ:St)(H:Hp)(Q:List V->Hp->Prop),Inv X pins σ H s->t σ H Q->wpAny (model X.prog X.w) X.A (spliced (backTo pos (starEach es X.env))) (AP X pins σ Q) X.xe s
noncomputable def PS (X:Cx)(st:Stmt)(t:TS):Prop:=
 ∀(pins:lPO)(s:Shared)(σ:St)(H:Hp)(D:zJb),Inv X pins σ H s->t D σ H->wpAny (model X.prog X.w) X.A (exec st X.env) (SP X pins D) X.xe s
noncomputable def PSs (X:Cx)(st:List Stmt)(t:TS):Prop:=
 ∀(pins:lPO)(s:Shared)(σ:St)(H:Hp)(D:zJb),Inv X pins σ H s->t D σ H->wpAny (model X.prog X.w) X.A (execs st X.env) (SP X pins D) X.xe s
variable {s:Shared}
theorem thn {α:Type}{t:Sem α}{Q Q':α->Shared->Prop}{E:vSP}(h:wpAny M A t Q E s)(hQ:∀a s,Q a s->Q' a s):wpAny M A t Q' E s:=zAz h hQ fun _ _ x=>x
variable {pos:Pos}{σ:St}{c:Expr}
section
variable {X:Cx}
noncomputable def tVar (i:Nat):TE:=fun σ H Q=>∃v,σ[i]? = some (some v)/\Q v H
noncomputable def tC (v:V):TE:=fun _ H Q=>Q v H
theorem pe_var (hN:X.N[i]? = some x)(hv:Vis X.env.scope x)(hd:(x==("__debug__" : Str))=false:=by decide) (hcd:(x==("__classdict__" : Str))=false:=by decide):PE X (.Name x pos) (tVar i):=by
 intro pins s σ H Q I h
 obtain⟨v,e,h⟩:=h
 obtain⟨m,hn,hl⟩:=I.loc
 obtain⟨u,r,l⟩:=hl i x v hN e hv
 have fin:EP X pins σ Q u s:=⟨v,H,I,r,h⟩
 rcases l with ⟨hk,hm⟩ | ⟨hk,c,hc,hcell⟩
 . exact wpAny_Name (wpAny_loadName_local I.ok.kind hk hn hm fin) hd
 . rcases hk with hk | hk
   . exact wpAny_Name (wpAny_loadName_cell I.ok.kind hk hc hcell fin) hd
   . exact wpAny_Name (wpAny_loadName_free I.ok.kind hk hc hcell fin hcd) hd
theorem zz {i j pos}:PE X (.Constant (.int i) j pos) (tC (.int i)):=fun _ _ _ H _ I h=>wpAny_Constant_int ⟨.int i,H,I.tok _,⟨_,rfl⟩,h⟩
theorem zCc {b j pos}:PE X (.Constant (.bool b) j pos) (tC (.bl b)):=fun _ _ _ H _ I h=>Constant_bool ⟨.bl b,H,I,rfl,h⟩
theorem zCR {j pos}:PE X (.Constant .none j pos) (tC .non):=fun _ _ _ H _ I h=>Constant_none ⟨.non,H,I,rfl,h⟩
theorem zEC {x j pos}:PE X (.Constant (.str x) j pos) (tC (.str x)):=fun _ _ _ H _ I h=>Calls.Constant_str ⟨.str x,H,I.tok _,⟨_,rfl⟩,h⟩
noncomputable def Gl (X:Cx)(x:Str):Prop:=X.env.kindOf x=some .globalImplicit
theorem zEI {E:vSP}{pins:lPO}{Q:vSP}(I:Inv X pins σ H s)(hg:Gl X x)(hm:X.mg x=some u)(h:Q u s)
 (hd:(x==("__debug__" : Str))=false:=by decide):wpAny (model X.prog X.w) X.A (eval (.Name x pos) X.env) Q E s:=
 Calls.Name_function_global I.ok.kind hg (Calls.loadGlobal_global (by rw[I.ok.glob];exact I.mod.glob.keeps I.bk) hm h) hd
theorem zCp {E:vSP}{pins:lPO}{Q:vSP}(I:Inv X pins σ H s)(hg:Gl X x)(hm:X.mg x=none)(hv:bootBuiltins x=some u)(h:Q u s)
 (hn:x ≠ "__name__" := by decide) (hd:(x==("__debug__" : Str))=false:=by decide):wpAny (model X.prog X.w) X.A (eval (.Name x pos) X.env) Q E s:=by
 obtain⟨mb,h1,h2⟩:=I.mod.blt
 exact Calls.Name_function_global I.ok.kind hg (Calls.loadGlobal_builtin (by rw[I.ok.glob];exact I.mod.glob.keeps I.bk) hm (by rw[I.ok.blt];exact h1.keeps I.bk) ((h2 x hn).trans hv) h) hd
theorem zCI (hg:Gl X x)(hm:X.mg x=some u)(r:zBy v u)(hd:(x==("__debug__" : Str))=false:=by decide):PE X (.Name x pos) (tC v):=
 fun _ _ _ H _ I h=>zEI I hg hm ⟨v,H,I,r,h⟩ hd
variable {a b:Expr}{ta tb:TE}{pos:Pos}
noncomputable def tB (t:TE):TT:=fun σ H Q=>t σ H fun x H1=>∃c,x = .bl c/\Q c H1
theorem zBx {t:TE}(h:PE X e t)(he:∀whole,isTrue e X.env whole=(do let v <-whole;standAt e.pos;holding [v] (truthy v)):=by intro _;rfl):PT X e (tB t):=by
 intro pins s σ H Q I hw
 refine isTrue_plain (thn (h pins s σ H _ I hw) fun v s1 ⟨x,H1,I1,r1,q1⟩=>?_) (he _)
 obtain⟨d,rfl,q⟩:=q1
 cases r1
 exact zBA ⟨H1,I1,q⟩
variable {tA tB':TT}{rest:List Expr}
noncomputable def tAnd (t u:TT):TT:=fun σ H Q=>t σ H fun c H1=>if c=true then u σ H1 Q else Q false H1
noncomputable def tOr (t u:TT):TT:=fun σ H Q=>t σ H fun c H1=>if c=true then Q true H1 else u σ H1 Q
noncomputable def tNot (t:TT):TT:=fun σ H Q=>t σ H fun c H1=>Q (!c) H1
theorem zC7 (ha:PT X a tA):PW X (.BoolOp .And [a] pos) tA:=by
 intro wh pins s σ H Q I h
 refine isTrue_and (thn (ha pins s σ H Q I h) fun c s1 e=>?_)
 cases c with
 | true=>exact isTrue_and_nil e
 | false=>exact e
theorem zDb (ha:PT X a tA):PW X (.BoolOp .Or [a] pos) tA:=by
 intro wh pins s σ H Q I h
 refine isTrue_or (thn (ha pins s σ H Q I h) fun c s1 e=>?_)
 cases c with
 | false=>exact isTrue_or_nil e
 | true=>exact e
theorem zD5 (ha:PT X a tA)(hb:PW X (.BoolOp .And (b::rest) pos) tB'):PW X (.BoolOp .And (a::b::rest) pos) (tAnd tA tB'):=by
 intro wh pins s σ H Q I h
 refine isTrue_and (thn (ha pins s σ H _ I h) fun c s1 ⟨H1,I1,q1⟩=>?_)
 cases c with
 | true=>exact hb wh pins s1 σ H1 Q I1 q1
 | false=>exact⟨H1,I1,q1⟩
theorem zEc (ha:PT X a tA)(hb:PW X (.BoolOp .Or (b::rest) pos) tB'):PW X (.BoolOp .Or (a::b::rest) pos) (tOr tA tB'):=by
 intro wh pins s σ H Q I h
 refine isTrue_or (thn (ha pins s σ H _ I h) fun c s1 ⟨H1,I1,q1⟩=>?_)
 cases c with
 | true=>exact⟨H1,I1,q1⟩
 | false=>exact hb wh pins s1 σ H1 Q I1 q1
theorem zCB (ha:PT X a tA):PT X (.UnaryOp .Not a pos) (tNot tA):=by
 intro pins s σ H Q I h
 exact isTrue_not (ha pins s σ H (fun c H1=>Q (!c) H1) I h)
noncomputable def tAndV (ta tb:TE):TE:=fun σ H Q=>ta σ H fun x H1=>∃c,x = .bl c/\if c=true then tb σ H1 Q else Q (.bl false) H1
noncomputable def tNotV (ta:TE):TE:=fun σ H Q=>ta σ H fun x H1=>∃c,x = .bl c/\Q (.bl (!c)) H1
theorem zDF {op} {t:TE}(h:PE X a t):PE X (.BoolOp op [a] pos) t:=fun pins s σ H Q I hw=>BoolOp_one (h pins s σ H Q I hw)
theorem zDG (ha:PE X a ta)(hb:PE X (.BoolOp .And (b::rest) pos) tb):PE X (.BoolOp .And (a::b::rest) pos) (tAndV ta tb):=by
 intro pins s σ H Q I h
 refine BoolOp_and (thn (ha pins s σ H _ I h) fun v s1 ⟨x,H1,I1,r1,q1⟩=>?_)
 obtain⟨c,rfl,q1⟩:=q1
 cases r1
 refine zBA ?_
 cases c with
 | true=>exact hb pins s1 σ H1 Q I1 q1
 | false=>exact⟨.bl false,H1,I1,rfl,q1⟩
theorem pe_not (ha:PE X a ta):PE X (.UnaryOp .Not a pos) (tNotV ta):=by
 intro pins s σ H Q I h
 refine UnaryOp_ (thn (ha pins s σ H _ I h) fun v s1 ⟨x,H1,I1,r1,q1⟩=>?_)
 obtain⟨c,rfl,q1⟩:=q1
 cases r1
 exact not_of (zBA ⟨.bl (!c),H1,I1,rfl,q1⟩)
noncomputable def tIf (t:TT)(ta tb:TE):TE:=fun σ H Q=>t σ H fun c H1=>if c=true then ta σ H1 Q else tb σ H1 Q
theorem zKA (hc:PT X c tA)(ha:PE X a ta)(hb:PE X b tb):PE X (.IfExp c a b pos) (tIf tA ta tb):=by
 intro pins s σ H Q I h
 refine wpAny_IfExp (thn (hc pins s σ H _ I h) fun d s1 ⟨H1,I1,q1⟩=>?_)
 cases d with
 | true=>exact ha pins s1 σ H1 Q I1 q1
 | false=>exact hb pins s1 σ H1 Q I1 q1
end
noncomputable def SqL (K:PySem.W.Frag)(H:Hp)(a:Addr)(xs:List V):Prop:=
 Rd H a (.lst xs) \/
  ∃(o:Obj)(its:Array Value)(n:Nat),K.lookup a=some o/\o.cls = .type "list" /\ o.dict=none/\o.data = .seq its n/\its.size<=sizeLine/\zBL xs its.toList
noncomputable def SqT (K:PySem.W.Frag)(H:Hp)(a:Addr)(xs:List V):Prop:=
 Rd H a (.tup xs) \/
  ∃(o:Obj)(its:Array Value)(n:Nat),K.lookup a=some o/\o.cls = .type "tuple" /\ o.data = .seq its n/\its.size<=sizeLine/\zBL xs its.toList
noncomputable def absV:Value->Option V
 | .none=>some .non
 | .bool b=>some (.bl b)
 | .int i _=>some (.int i)
 | .str x _=>some (.str x)
 | .bytes b _=>some (.byt b)
 | .float b _=>some (.flt b)
 | .ref a=>some (.ref a)
 | .type n=>some (.ty n)
 | _=>none
theorem zBy.abs {x:V}(r:zBy x u):absV u=some x:=by
 cases x with
 | non=>cases r;rfl
 | bl _=>cases r;rfl
 | int _=>obtain⟨t,rfl⟩:=r;rfl
 | str _=>obtain⟨t,rfl⟩:=r;rfl
 | byt _=>obtain⟨t,rfl⟩:=r;rfl
 | flt _=>obtain⟨t,rfl⟩:=r;rfl
 | ref _=>cases r;rfl
 | ty _=>cases r;rfl
variable {y:V}
theorem zBy.inj {x:V}(r:zBy x u)(q:zBy y u):x=y:=zX (r.abs.symm.trans q.abs)
theorem zBL.inj:∀{xs ys:List V}{us:List Value},zBL xs us->zBL ys us->xs=ys
 | _,_,_,.nil,.nil=>rfl
 | _,_,_,.cons r t,.cons r' t'=>by rw[r.inj r',zBL.inj t t']
variable {K:PySem.W.Frag}
section
variable {X:Cx}{pins:lPO}{σ:St}{H:Hp}{s:Shared}{a:Addr}{xs ys:List V}
theorem SqL.of (h:H a=some (.lst xs)):SqL K H a xs:=.inl (.inl h)
theorem SqT.of (h:H a=some (.tup xs)):SqT K H a xs:=.inl (.inl h)
theorem Inv.list (I:Inv X pins σ H s)(h:SqL X.K H a xs):∃its:List Value,zBL xs its/\PlainL s.heap a its.toArray/\xs.length<=sizeLine:=by
 rcases h with h | ⟨o,its,n,hk,hc,hd,hs,hz,r⟩
 . obtain⟨z,its,n,r,e⟩:=h.ok I.hok
   exact⟨its,r,⟨_,n,e,rfl,rfl,rfl⟩,z⟩
 . refine⟨its.toList,r,⟨o,n,I.kIn a o hk,hc,hd,by simpa using hs⟩,?_⟩
   have e:=r.length
   simp only[Array.length_toList] at e
   omega
theorem Inv.tuple (I:Inv X pins σ H s)(h:SqT X.K H a xs):∃its:List Value,zBL xs its/\IsTup s.heap a its.toArray/\xs.length<=sizeLine:=by
 rcases h with h | ⟨o,its,n,hk,hc,hs,hz,r⟩
 . obtain⟨⟨z,_⟩,its,r,p⟩:=h.ok I.hok
   exact⟨its,r,p,z⟩
 . refine⟨its.toList,r,⟨o,I.kIn a o hk,hc,n,by simpa using hs⟩,?_⟩
   have e:=r.length
   simp only[Array.length_toList] at e
   omega
theorem Inv.list_inj (I:Inv X pins σ H s)(h:SqL X.K H a xs)(h':SqL X.K H a ys):xs=ys:=by
 obtain⟨its,r,⟨o,n,e,_,_,d⟩,_⟩:=I.list h
 obtain⟨its',r',⟨o',n',e',_,_,d'⟩,_⟩:=I.list h'
 rw[e] at e';cases e'
 rw[d] at d'
 injection d' with d1 _
 have:its=its':=by simpa using congrArg Array.toList d1
 subst this
 exact r.inj r'
theorem Inv.tuple_inj (I:Inv X pins σ H s)(h:SqT X.K H a xs)(h':SqT X.K H a ys):xs=ys:=by
 obtain⟨its,r,⟨o,e,_,n,d⟩,_⟩:=I.tuple h
 obtain⟨its',r',⟨o',e',_,n',d'⟩,_⟩:=I.tuple h'
 rw[e] at e';cases e'
 rw[d] at d'
 injection d' with d1 _
 have:its=its':=by simpa using congrArg Array.toList d1
 subst this
 exact r.inj r'
end
noncomputable abbrev Cx.wish (X:Cx)(E:vSP):Cx:={ X with xe:=E }
noncomputable abbrev Cx.nox (X:Cx):Cx:=X.wish fun _ _=>False
theorem Cx.Ok.wish (ok:X.Ok)(E:vSP):(X.wish E).Ok:=
 ⟨ok.mod,ok.kind,ok.glob,ok.blt,ok.above,ok.inj,ok.has,ok.cab,ok.hd,ok.frames,ok.stk,ok.exf,ok.bs,ok.bsz,ok.noex,ok.exfs,ok.funs,ok.frf⟩
theorem Cx.Ok.unwish {E:vSP}(ok:(X.wish E).Ok):X.Ok:=
 ⟨ok.mod,ok.kind,ok.glob,ok.blt,ok.above,ok.inj,ok.has,ok.cab,ok.hd,ok.frames,ok.stk,ok.exf,ok.bs,ok.bsz,ok.noex,ok.exfs,ok.funs,ok.frf⟩
section
variable {X:Cx}{pins:lPO}{σ:St}{H:Hp}{s:Shared}{E:vSP}
theorem Inv.wish (I:Inv X pins σ H s)(E:vSP):Inv (X.wish E) pins σ H s:=⟨I.ok.wish E,I.os,I.bare,I.base,I.loc,I.cell,I.free,I.freeC,I.pin,I.hok,I.len⟩
theorem Inv.unwish (I:Inv (X.wish E) pins σ H s):Inv X pins σ H s:=⟨I.ok.unwish,I.os,I.bare,I.base,I.loc,I.cell,I.free,I.freeC,I.pin,I.hok,I.len⟩
theorem SP.unwish {D:zJb}{f:Flow}{s':Shared}(h:SP (X.wish E) pins D f s'):SP X pins D f s':=by
 cases f with
 | next=>obtain⟨σ',H',I,q⟩:=h;exact⟨σ',H',I.unwish,q⟩
 | brk=>obtain⟨σ',H',I,q⟩:=h;exact⟨σ',H',I.unwish,q⟩
 | cont=>obtain⟨σ',H',I,q⟩:=h;exact⟨σ',H',I.unwish,q⟩
 | ret u=>obtain⟨v,σ',H',I,r,q⟩:=h;exact⟨v,σ',H',I.unwish,r,q⟩
theorem PSs.nox {st:List Stmt}{t:TS}(h:PSs X.nox st t):PSs X st t:=fun pins s σ H D I hw=>
 zAz (h pins s σ H D (I.wish _) hw) (fun _ _ q=>q.unwish) fun _ _ z=>False.elim z
end
section
variable {X:Cx}{st:Stmt}{rest:List Stmt}{t u:TS}{e:Expr}{te:TE}{pos:Pos}
noncomputable def tNext:TS:=fun D σ H=>D.nx σ H
noncomputable def tSeq (t u:TS):TS:=fun D σ H=>t { D with nx:=u D } σ H
theorem zAh:PSs X [] tNext:=fun _ _ σ H _ I h=>wpAny_execs_nil ⟨σ,H,I,h⟩
theorem zS (h1:PS X st t)(h2:PSs X rest u):PSs X (st::rest) (tSeq t u):=by
 intro pins s σ H D I h
 refine wpAny_execs_cons (thn (h1 pins s σ H { D with nx:=u D } I h) fun f s1 q=>?_)
 cases f with
 | next=>
  obtain⟨σ',H',I',q⟩:=q
  exact h2 pins s1 σ' H' D I' q
 | ret v=>exact q
 | brk=>exact q
 | cont=>exact q
theorem zd (h1:PS X st t):PSs X [st] t:=by
 intro pins s σ H D I h
 refine wpAny_execs_cons (thn (h1 pins s σ H D I h) fun f s1 q=>?_)
 cases f with
 | next=>exact wpAny_execs_nil q
 | ret v=>exact q
 | brk=>exact q
 | cont=>exact q
theorem Inv.quiet {pins:lPO}(I:Inv X pins σ H s):interactive X.env=false:=by simp[interactive,I.ok.kind]
noncomputable def tDrop (te:TE):TS:=fun D σ H=>te σ H fun _ H1=>D.nx σ H1
theorem zCZ (he:PE X e te)(hs:swapsWith e none pos.line X.env=pure false:=by rfl):PS X (.Expr e pos) (tDrop te):=by
 intro pins s σ H D I h
 exact wpAny_Expr_any (thn (he pins s σ H _ I h) fun v s1 ⟨x,H1,I1,r1,q1⟩=>⟨σ,H1,I1,q1⟩) I.quiet hs
noncomputable def tRet (te:TE):TS:=fun D σ H=>te σ H D.rt
theorem zAJ (he:PE X e te):PS X (.Return (some e) pos) (tRet te):=by
 intro pins s σ H D I h
 exact wpAny_Return_some (thn (he pins s σ H _ I h) fun v s1 ⟨x,H1,I1,r1,q1⟩=>⟨x,σ,H1,I1,r1,q1⟩)
noncomputable def tIfS (c:TT)(t u:TS):TS:=fun D σ H=>c σ H fun b H1=>if b=true then t D σ H1 else u D σ H1
theorem zBn {a b:List Stmt}{tc:TT}(hc:PT X c tc)(ha:PSs X a t)(hb:PSs X b u):PS X (.If c a b pos) (tIfS tc t u):=by
 intro pins s σ H D I h
 refine wpAny_If (thn (hc pins s σ H _ I h) fun d s1 ⟨H1,I1,q1⟩=>?_)
 cases d with
 | true=>exact ha pins s1 σ H1 D I1 q1
 | false=>exact hb pins s1 σ H1 D I1 q1
end
noncomputable abbrev TG:=V->St->Hp->(St->Hp->Prop)->Prop
noncomputable abbrev TGs:=List V->St->Hp->(St->Hp->Prop)->Prop
noncomputable def PG (X:Cx)(target:Expr)(t:TG):Prop:=
 ∀(pins:lPO)(s:Shared)(σ:St)(H:Hp)(v:V)(u:Value)(Q:St->Hp->Prop),Inv X pins σ H s->zBy v u->t v σ H Q ->
  wpAny (model X.prog X.w) X.A (assign target X.env u) (fun _ s'=>∃ σ' H',Inv X pins σ' H' s'/\Q σ' H') X.xe s
noncomputable def PGs (X:Cx)(ts:List Expr)(t:TGs):Prop:=
 ∀(pins:lPO)(s:Shared)(σ:St)(H:Hp)(vs:List V)(us:List Value)(Q:St->Hp->Prop),Inv X pins σ H s->zBL vs us->t vs σ H Q ->
  wpAny (model X.prog X.w) X.A (assignInOrder ((assignEach ts X.env).map (·.2)) us) (fun _ s'=>∃ σ' H',Inv X pins σ' H' s'/\Q σ' H') X.xe s
noncomputable abbrev TSet:=V->V->V->Hp->(Hp->Prop)->Prop
noncomputable def PSet (X:Cx)(t:TSet):Prop:=
 ∀(pins:lPO)(s:Shared)(σ:St)(H:Hp)(o i v:V)(ov iv u:Value)(Q:Hp->Prop),Inv X pins σ H s->zBy o ov->zBy i iv->zBy v u->t o i v H Q ->
  wpAny (model X.prog X.w) X.A (setItem ov iv u) (fun _ s'=>∃H',Inv X pins σ H' s'/\Q H') X.xe s
variable {n:Nat}{body:List Stmt}{tb:TS}
section
variable {X:Cx}{pos:Pos}
noncomputable def zKV (i:Nat):TG:=fun v σ H Q=>Q (σ.set i (some v)) H
theorem zAA (hN:X.N.Nodup)(hi:X.N[i]? = some x)(hx:Loc X.env.scope x)(hf:X.fn x=true\/X.env.scope.names.lookup x=some .local:=by first | exact .inl rfl | exact .inr rfl | assumption):PG X (.Name x pos) (zKV i):=by
 intro pins s σ H v u Q I r h
 exact wpAny_assign_Name (zCh I hN hi hx r (fun s' I'=>⟨_,H,I',h⟩) hf)
noncomputable def gNil:TGs:=fun vs σ H Q=>vs=[]/\Q σ H
noncomputable def gCons (t:TG)(u:TGs):TGs:=fun vs σ H Q=>∃v r,vs=v::r/\t v σ H fun σ' H'=>u r σ' H' Q
theorem zC8:PGs X [] gNil:=by
 intro pins s σ H vs us Q I r h
 obtain⟨e,h⟩:=h
 subst e
 cases r
 exact assignInOrder_nil ⟨σ,H,I,h⟩
theorem zA6 {es:List Expr}{t:TG}{u:TGs}(h1:PG X e t)(h2:PGs X es u)
 (hs:(assignEach (e::es) X.env).map (·.2)=assign e X.env::(assignEach es X.env).map (·.2):=by rfl):PGs X (e::es) (gCons t u):=by
 intro pins s σ H vs us Q I r h
 obtain⟨v,vr,e1,h⟩:=h
 subst e1
 cases r with
 | cons r rr=>
  rw[hs]
  refine assignInOrder_cons (thn (h1 pins s σ H _ _ _ I r h) fun _ s1 ⟨σ1,H1,I1,q1⟩=>?_)
  exact h2 pins s1 σ1 H1 _ _ Q I1 rr q1
noncomputable def gTup (K:PySem.W.Frag)(n:Nat)(t:TGs):TG:=fun v σ H Q=>∃a xs,v = .ref a/\SqT K H a xs/\xs.length=n/\t xs σ H Q
theorem zEr {es:List Expr}{k:Nat}{t:TGs}(hc:X.calm=true)(h:PGs X es t)
 (hn:(assignEach es X.env).length=n:=by rfl)(hst:(assignEach es X.env).findIdx? (·.1)=none:=by rfl):PG X (.Tuple es k pos) (gTup X.K n t):=by
 intro pins s σ H v u Q I r hw
 obtain⟨a,xs,e1,hq,hl,hw⟩:=hw
 subst e1
 cases r
 obtain⟨its,rv,ht,hz⟩:=I.tuple hq
 refine assign_Tuple_tuple (I.ok.hd hc) ht (by simp[hn,<-hl,rv.length]) hst fun h' hx=>?_
 have I1:Inv X pins σ H { s with heap:=h' }:=I.kept (t':=s.toks) fun b o e=>hx b o (zT (zQ e)) e
 exact h pins _ σ H xs _ Q I1 (by simpa using rv) hw
noncomputable def gSub (to ti:TE)(t:TSet):TG:=fun v σ H Q=>to σ H fun o H1=>ti σ H1 fun i H2=>t o i v H2 fun H3=>Q σ H3
theorem zEB {o i:Expr}{to ti:TE}{t:TSet}(ho:PE X o to)(hi:PE X i ti)(hs:PSet X t)
 (ha:∀v,assign (.Subscript o i pos) X.env v=(do
  let ov <-holding [v] (eval o X.env)
  let iv <-holding [v,ov] (eval i X.env)
  standAt pos
  holding [v,ov,iv] (setItem ov iv v)
  release [v,ov,iv] []):=by intro _;rfl):PG X (.Subscript o i pos) (gSub to ti t):=by
 intro pins s σ H v u Q I r h
 rw[ha]
 refine zA (zx (thn (ho pins s σ H _ I h) fun ov s1 ⟨x,H1,I1,r1,q1⟩=>?_))
 refine zA (zx (thn (hi pins s1 σ H1 _ I1 q1) fun iv s2 ⟨y,H2,I2,r2,q2⟩=>?_))
 refine zA (wpAny_standAt (zA (zx (thn (hs pins s2 σ H2 x y v ov iv u _ I2 r1 r2 r q2) fun _ s3 ⟨H3,I3,q3⟩=>?_))))
 exact wpAny_release ⟨σ,H3,I3,q3⟩
noncomputable def tAsg (te:TE)(g:TG):TS:=fun D σ H=>te σ H fun x H1=>g x σ H1 D.nx
theorem zD7 {tg e:Expr}{te:TE}{g:TG}(he:PE X e te)(hg:PG X tg g)(hs:swapsWithSole [tg] e pos.line X.env=pure false:=by rfl)(hw:swappedStores [tg] e X.env=pure none:=by rfl)
 (h1:(assignEach [tg] X.env).map (·.2)=[assign tg X.env]:=by rfl):PS X (.Assign [tg] e pos) (tAsg te g):=by
 intro pins s σ H D I h
 refine wpAny_Assign_stores (thn (he pins s σ H _ I h) fun v s1 ⟨x,H1,I1,r1,q1⟩=>?_) hs hw
 rw[h1]
 exact thn (hg pins s1 σ H1 x v _ I1 r1 q1) fun _ s2 q=>q
theorem zAa {te:TE}{pos':Pos}(hN:X.N.Nodup)(hi:X.N[i]? = some x)(hx:Loc X.env.scope x)(he:PE X e te)(hs:swapsWith e (some (.Name x pos')) pos.line X.env=pure false:=by rfl)(hf:X.fn x=true\/X.env.scope.names.lookup x=some .local:=by first | exact .inl rfl | exact .inr rfl | assumption) :
 PS X (.Assign [.Name x pos'] e pos) (tAsg te (zKV i)):=by
 intro pins s σ H D I h
 refine wpAny_Assign_Name (thn (he pins s σ H _ I h) fun v s1 ⟨y,H1,I1,r1,q1⟩=>?_) hs
 exact zCh I1 hN hi hx r1 (fun s2 I2=>⟨_,H1,I2,q1⟩) hf
noncomputable def tWhile (c:TT)(tb:TS):TS:=fun D σ H=>∃W:Nat->St->Hp->Prop,(∃m,W m σ H)/\∀m σ H,W m σ H ->
 c σ H fun b H1=>if b=true then ∃N:St->Hp->Prop,(∀ σ' H',N σ' H'->∃m',m'<m/\W m' σ' H')/\tb { D with nx:=N,ct:=N,bk:=D.nx } σ H1 else D.nx σ H1
theorem zFH {tc:TT}(hp:PassesOwn (model X.prog X.w) X.A X.env X.xe)(hc:PT X c tc)(hb:PSs X body tb):PS X (.While c body [] pos) (tWhile tc tb):=by
 intro pins s σ H D I h
 obtain⟨W,⟨m0,w0⟩,turn⟩:=h
 refine wpAny_While (codeAny_whileLoop (fun n s'=>∃ σ' H',Inv X pins σ' H' s'/\W n σ' H') ?_ m0 ⟨σ,H,I,w0⟩)
 rintro n s1 ⟨σ1,H1,I1,w1⟩
 refine wpAny_passesOwn hp (thn (hc pins s1 σ1 H1 _ I1 (turn n σ1 H1 w1)) fun b s2 ⟨H2,I2,q2⟩=>?_)
 cases b with
 | true=>
  obtain⟨N,hN,q2⟩:=q2
  rw[if_pos rfl]
  refine wpAny_passesOwn hp (thn (hb pins s2 σ1 H2 _ I2 q2) fun f s3 q3=>?_)
  cases f with
  | next=>
   obtain⟨σ3,H3,I3,n3⟩:=q3
   obtain⟨m',hm,w3⟩:=hN σ3 H3 n3
   exact⟨m',hm,σ3,H3,I3,w3⟩
  | cont=>
   obtain⟨σ3,H3,I3,n3⟩:=q3
   obtain⟨m',hm,w3⟩:=hN σ3 H3 n3
   exact⟨m',hm,σ3,H3,I3,w3⟩
  | brk=>exact q3
  | ret v=>exact q3
 | false=>
  rw[if_neg zb]
  exact wpAny_execs_nil ⟨σ1,H2,I2,q2⟩
end
structure It where
 go:Nat->Hp->Prop
 yld:Nat->Hp->V->Hp->Prop
 stop:Nat->Hp->Prop
noncomputable def zGY (X:Cx)(pins:lPO)(H:Hp)(b:Addr):Prop:=
 H b=none/\b≠X.env.locals/\b∉X.fs/\(b∈X.ex\/X.s₀.heap.objs.size<=b)/\(∀x c,X.env.cells.lookup x=some c->c≠b)/\∀p∈X.pn++pins,p.1≠b
variable {H':Hp}
theorem Inv.fpOk {pins:lPO}(I:Inv X pins σ H s)(hb:s.heap.objs.size<=b)(hn:H' b=none):zGY X pins H' b:=by
 refine⟨hn,zAG (zi I.lt hb),I.nofs hb,.inr (zAP I.sz hb),fun x c e z=>?_,fun p hp z=>?_⟩
 . obtain⟨v,q⟩:=I.cell x c e
   exact absurd (zi q.lt (by rw[z];exact hb)) (zBF _)
 . exact absurd (zi (zQ (I.pin p hp).1) (by rw[z];exact hb)) (zBF _)
structure Turn (P:Program)(w:World)(K:PySem.W.Frag)(tg:Expr)(J:It)(fp:List Addr)(it:Addr)(tn:Nat->Heap->Prop):Prop where
 mem:it∈fp
 obj:∀i h,tn i h->∀b∈fp,∃o,h.get? b=some o/\∀v,o.data ≠ .cell v
 keep:∀i h h',tn i h->(∀b∈fp,∀o,h.get? b=some o->h'.get? b=some o)->tn i h'
 item:∀(X:Cx),X.prog=P->X.w=w->X.K=K->X.calm=true->∀(i:Nat)(pins:lPO)(s:Shared)(σ:St)(H:Hp)(E:vSP),Inv X pins σ H s->(∀b∈fp,zGY X pins H b)->tn i s.heap->J.go i H ->
  wpAny (model P w) X.A (pyNext (.ref it)) (fun r s1=>∃u,r=some u /\
   wpAny (model P w) X.A (letOwnedTupleGo tg (.ref it) u) (fun _ s2=>∃x H',Inv X pins σ H' s2/\zBy x u/\J.yld i H x H'/\tn (i+1) s2.heap/\∀b∈fp,H' b=none) E s1) E s
 done:∀(X:Cx),X.prog=P->X.w=w->X.K=K->X.calm=true->∀(i:Nat)(pins:lPO)(s:Shared)(σ:St)(H:Hp)(E:vSP),Inv X pins σ H s->(∀b∈fp,zGY X pins H b)->tn i s.heap->J.stop i H ->
  wpAny (model P w) X.A (pyNext (.ref it)) (fun r s1=>r=none/\Inv X pins σ H s1) E s
 self:∀(A:Around)(i:Nat)(s:Shared)(Q:vSP)(E:vSP),tn i s.heap->Q (.ref it) s->wpAny (model P w) A (pyIter (.ref it)) Q E s
noncomputable abbrev TI:=St->Hp->(It->Hp->Prop)->Prop
noncomputable def PIE (X:Cx)(pins:lPO)(σ:St)(tg:Expr)(R:It->Hp->Prop)(itv:Value)(s2:Shared):Prop:=
 ∃(it:Addr)(fp:List Addr)(tn:Nat->Heap->Prop)(J:It)(H':Hp),itv = .ref it/\Inv X pins σ H' s2/\Turn X.prog X.w X.K tg J fp it tn/\tn 0 s2.heap/\(∀b∈fp,zGY X pins H' b)/\R J H'
noncomputable def PI (X:Cx)(tg iter:Expr)(wi:TI):Prop:=
 ∀(pins:lPO)(s:Shared)(σ:St)(H:Hp)(R:It->Hp->Prop),Inv X pins σ H s->wi σ H R ->
  wpAny (model X.prog X.w) X.A (eval iter X.env) (fun v s1=>wpAny (model X.prog X.w) X.A (pyIter v) (PIE X pins σ tg R) X.xe s1) X.xe s
variable {tg:Expr}
theorem zMf {E:vSP}{it:Addr}{n:String}{vs:Array Value}(ho:s.heap.get? it=some o)(hc:o.cls = .type n)(hd:o.data = .fields vs)
 (hn:["enumerate", "zip", "dict_itemiterator", "dict_reverseitemiterator", "odict_iterator", "itertools.zip_longest", "itertools.pairwise"].contains n=false) (hQ:Q () s):wpAny M A (letOwnedTupleGo tg (.ref it) u) Q E s:=by
 unfold letOwnedTupleGo
 cases tg <;> first
  | exact zC hQ
  | (cases u <;> first
   | exact zC hQ
   | (refine zA (wpAny_load ho ?_)
      rw[hc,hd]
      show wpAny M A (if (["enumerate", "zip", "dict_itemiterator", "dict_reverseitemiterator", "odict_iterator", "itertools.zip_longest", "itertools.pairwise"].contains n && vs[0]? == some (rawInt _))=true then _ else _) Q E s
      rw[if_neg (by intro h;rw[hn,Bool.false_and] at h;cases h)]
      exact zC hQ))
noncomputable def Itl (K:PySem.W.Frag)(a:Addr):It:=
 ⟨fun i H=>∃xs x,SqL K H a xs/\xs[i]? = some x,fun i H x H'=>H'=H/\∀xs,SqL K H a xs->xs[i]? = some x,fun i H=>∃xs,SqL K H a xs/\xs.length<=i⟩
noncomputable def Itt (K:PySem.W.Frag)(a:Addr):It:=
 ⟨fun i H=>∃xs x,SqT K H a xs/\xs[i]? = some x,fun i H x H'=>H'=H/\∀xs,SqT K H a xs->xs[i]? = some x,fun i H=>∃xs,SqT K H a xs/\xs.length<=i⟩
noncomputable def Itr (lo:Int)(n:Nat):It:=⟨fun i _=>i<n,fun i H x H'=>H'=H/\x = .int (lo+i),fun i _=>n<=i⟩
theorem zHu (a it:Addr):Turn P w K tg (Itl K a) [it] it (fun i h=>h.IsListIter it a i) where
 mem:=by simp
 obj:=fun i h st b hb=>by
  have e:b=it:=by simpa using hb
  subst e
  obtain⟨o,e,c,d⟩:=st
  exact⟨o,e,fun v z=>by rw[d] at z;cases z⟩
 keep:=fun i h h' st k=>st.at fun o e=>k it (by simp) o e
 item:=by
  intro X hP hw hK hc i pins s σ H E I hf st hg
  subst hP hw hK
  obtain⟨xs,x,hq,hx⟩:=hg
  obtain⟨its,rv,p,hz⟩:=I.list hq
  obtain⟨u,hu,ru⟩:=rv.get hx
  obtain⟨f0,f1,f2,f3,f4,f5⟩:=hf it (by simp)
  refine wpAny_pyNext_list_item st p.isList (x:=u) (by simpa using hu) fun h' st' sb=>?_
  have I1:Inv X pins σ H { s with heap:=h' }:=I.turned (t':=s.toks) (fun b o hb e=>(sb.2 b hb).trans e) f0 f1 f3 f4 f5
  obtain⟨o,e,c,d⟩:=id st'
  exact⟨u,rfl,zMf (s:={ s with heap:=h' }) e c d (by decide) ⟨x,H,I1,ru,⟨rfl,fun ys hy=>by rw[I.list_inj hy hq];exact hx⟩,st',fun b hb=>(hf b hb).1⟩⟩
 done:=by
  intro X hP hw hK hc i pins s σ H E I hf st hg
  subst hP hw hK
  obtain⟨xs,hq,hx⟩:=hg
  obtain⟨its,rv,p,hz⟩:=I.list hq
  obtain⟨f0,f1,f2,f3,f4,f5⟩:=hf it (by simp)
  have hl:=rv.length
  exact wpAny_pyNext_list_end (I.ok.hd hc) st p.isList (by simp;omega) fun h' eb=>⟨rfl,I.turned (t':=s.toks) (fun b o hb e=>eb b o hb e) f0 f1 f3 f4 f5⟩
 self:=fun _ _ _ _ _ st h=>wpAny_pyIter_listiter st h
theorem zHQ (a it:Addr):Turn P w K tg (Itt K a) [it] it (fun i h=>h.IsTupleIter it a i) where
 mem:=by simp
 obj:=fun i h st b hb=>by
  have e:b=it:=by simpa using hb
  subst e
  obtain⟨o,e,c,d⟩:=st
  exact⟨o,e,fun v z=>by rw[d] at z;cases z⟩
 keep:=fun i h h' st k=>st.at fun o e=>k it (by simp) o e
 item:=by
  intro X hP hw hK hc i pins s σ H E I hf st hg
  subst hP hw hK
  obtain⟨xs,x,hq,hx⟩:=hg
  obtain⟨its,rv,p,hz⟩:=I.tuple hq
  obtain⟨u,hu,ru⟩:=rv.get hx
  obtain⟨f0,f1,f2,f3,f4,f5⟩:=hf it (by simp)
  refine wpAny_pyNext_tuple_item st (show s.heap.IsTuple a its.toArray from p) (x:=u) (by simpa using hu) fun h' st' sb=>?_
  have I1:Inv X pins σ H { s with heap:=h' }:=I.turned (t':=s.toks) (fun b o hb e=>(sb.2 b hb).trans e) f0 f1 f3 f4 f5
  obtain⟨o,e,c,d⟩:=id st'
  exact⟨u,rfl,zMf (s:={ s with heap:=h' }) e c d (by decide) ⟨x,H,I1,ru,⟨rfl,fun ys hy=>by rw[I.tuple_inj hy hq];exact hx⟩,st',fun b hb=>(hf b hb).1⟩⟩
 done:=by
  intro X hP hw hK hc i pins s σ H E I hf st hg
  subst hP hw hK
  obtain⟨xs,hq,hx⟩:=hg
  obtain⟨its,rv,p,hz⟩:=I.tuple hq
  obtain⟨f0,f1,f2,f3,f4,f5⟩:=hf it (by simp)
  have hl:=rv.length
  exact wpAny_pyNext_tuple_end (I.ok.hd hc) st (show s.heap.IsTuple a its.toArray from p) (by simp;omega) fun h' eb=>⟨rfl,I.turned (t':=s.toks) (fun b o hb e=>eb b o hb e) f0 f1 f3 f4 f5⟩
 self:=fun _ _ _ _ _ st h=>wpAny_pyIter_tupleiter st h
theorem zHR (it:Addr)(lo:Int)(n:Nat):Turn P w K tg (Itr lo n) [it] it (fun i h=>IsRangeIter h it (lo+(i:Nat)*1) ((n:Int)-(i:Nat)) 1) where
 mem:=by simp
 obj:=fun i h st b hb=>by
  have e:b=it:=by simpa using hb
  subst e
  exact⟨_,st,fun v z=>by
   have z':Data.fields _=Data.cell v:=z
   cases z'⟩
 keep:=fun i h h' st k=>k it (by simp) _ st
 item:=by
  intro X hP hw hK hc i pins s σ H E I hf st hg
  subst hP hw hK
  obtain⟨f0,f1,f2,f3,f4,f5⟩:=hf it (by simp)
  have W:=Walks.range (prog:=X.prog) (w:=X.w) (I.ok.hd hc) it lo 1 n
  refine W.item i s _ _ hg st fun v h' tk hv st' kk=>?_
  obtain⟨t,rfl⟩:=hv
  have I1:Inv X pins σ H { s with heap:=h',toks:=tk }:=I.turned (fun b o hb e=>kk b o (by simpa using hb) e) f0 f1 f3 f4 f5
  refine⟨_,rfl,zMf (s:={ s with heap:=h',toks:=tk }) (n := "range_iterator") st' rfl rfl (by decide) ⟨.int (lo+i),H,I1,⟨t,?_⟩,⟨rfl,rfl⟩,st',fun b hb=>(hf b hb).1⟩⟩
  rw[Int.mul_one]
 done:=by
  intro X hP hw hK hc i pins s σ H E I hf st hg
  subst hP hw hK
  obtain⟨f0,f1,f2,f3,f4,f5⟩:=hf it (by simp)
  exact wpAny_pyNext_range_end (I.ok.hd hc) st (by have:n<=i:=hg;omega) fun h' eb=>⟨rfl,I.turned (t':=s.toks) (fun b o hb e=>eb b o hb e) f0 f1 f3 f4 f5⟩
 self:=fun _ _ _ _ _ st h=>wpAny_pyIter_rangeiter st h
variable {fp:List Addr}
section
variable {X:Cx}{tg:Expr}
noncomputable def iList (K:PySem.W.Frag)(tl:TE):TI:=fun σ H R=>tl σ H fun x H1=>∃a,x = .ref a/\(∃xs,SqL K H1 a xs)/\R (Itl K a) H1
noncomputable def iTup (K:PySem.W.Frag)(tl:TE):TI:=fun σ H R=>tl σ H fun x H1=>∃a,x = .ref a/\(∃xs,SqT K H1 a xs)/\R (Itt K a) H1
theorem zCa {l:Expr}{tl:TE}(hl:PE X l tl):PI X tg l (iList X.K tl):=by
 intro pins s σ H R I h
 refine thn (hl pins s σ H _ I h) fun v s1 ⟨x,H1,I1,r1,q1⟩=>?_
 obtain⟨a,e,⟨xs,hq⟩,q⟩:=q1
 subst e
 cases r1
 obtain⟨its,rv,p,hz⟩:=I1.list hq
 refine wpAny_pyIter_list p.isList ?_
 refine⟨s1.heap.objs.size,[s1.heap.objs.size],_,_,H1,rfl,I1.kept (t':=s1.toks) fun b o e=>zG _ e,zHu a _,⟨_,zL _ rfl,rfl,rfl⟩,fun b hb=>?_,q⟩
 have e:b=s1.heap.objs.size:=by simpa using hb
 subst e
 exact I1.fpOk (zI _) (I1.hok.fresh (zI _))
theorem zB9 {l:Expr}{tl:TE}(hl:PE X l tl):PI X tg l (iTup X.K tl):=by
 intro pins s σ H R I h
 refine thn (hl pins s σ H _ I h) fun v s1 ⟨x,H1,I1,r1,q1⟩=>?_
 obtain⟨a,e,⟨xs,hq⟩,q⟩:=q1
 subst e
 cases r1
 obtain⟨its,rv,p,hz⟩:=I1.tuple hq
 refine wpAny_pyIter_tuple (show s1.heap.IsTuple a its.toArray from p) ?_
 refine⟨s1.heap.objs.size,[s1.heap.objs.size],_,_,H1,rfl,I1.kept (t':=s1.toks) fun b o e=>zG _ e,zHQ a _,⟨_,zL _ rfl,rfl,rfl⟩,fun b hb=>?_,q⟩
 have e:b=s1.heap.objs.size:=by simpa using hb
 subst e
 exact I1.fpOk (zI _) (I1.hok.fresh (zI _))
theorem zHB {pins:lPO}{R:It->Hp->Prop}{E:vSP}{lo hi:Int}{t u v:Tok}{tk:Nat}(I:Inv X pins σ H s)(h1 : -(2 ^ 62)<=lo)(h2:lo<2 ^ 62)(h3 : -(2 ^ 62)<=hi)(h4:hi<2 ^ 62)
 (q:R (Itr lo (hi-lo).toNat) H):wpAny (model X.prog X.w) X.A (pyIter (.ref s.heap.objs.size)) (PIE X pins σ tg R) E { s with heap:=s.heap.push { cls:=.type "range",data:=.fields #[.int lo t,.int hi u,.int 1 v] },toks:=tk }:=by
 refine wpAny_pyIter_range (IsRange.new ..) (small_one h1 h2 h3 h4) ?_
 have I1:Inv X pins σ H { s with heap:=s.heap.push { cls:=.type "range",data:=.fields #[.int lo t,.int hi u,.int 1 v] },toks:=tk }:=I.kept fun b o e=>zG _ e
 refine⟨(s.heap.push { cls:=.type "range",data:=.fields #[.int lo t,.int hi u,.int 1 v] }).objs.size,[(s.heap.push { cls:=.type "range",data:=.fields #[.int lo t,.int hi u,.int 1 v] }).objs.size],_,_,H,rfl,
  I1.kept (t':=tk) fun b o e=>zG _ e,zHR _ lo (hi-lo).toNat,?_,fun b hb=>?_,q⟩
 . have e1:lo+((0:Nat):Int)*1=lo:=by simp
   have e2:(((hi-lo).toNat:Nat):Int)-((0:Nat):Int)=Builtin.Range.rangeSize lo hi 1:=by rw[rangeSize_one];split <;> omega
   show IsRangeIter _ _ (lo+((0:Nat):Int)*1) ((((hi-lo).toNat:Nat):Int)-((0:Nat):Int)) 1
   rw[e1,e2]
   exact zL _ rfl
 . have e:b=(s.heap.push { cls:=.type "range",data:=.fields #[.int lo t,.int hi u,.int 1 v] }).objs.size:=by simpa using hb
   subst e
   exact I1.fpOk (zI _) (I1.hok.fresh (zI _))
noncomputable def iRng1 (ta:TA):TI:=fun σ H R=>ta σ H fun vs H1=>∃j:Int,vs=[.int j] /\ -(2 ^ 62)<=j/\j<2 ^ 62/\R (Itr 0 j.toNat) H1
noncomputable def iRng2 (ta:TA):TI:=fun σ H R=>ta σ H fun vs H1=>∃i j:Int,vs=[.int i,.int j]/\(-(2 ^ 62)<=i/\i<2 ^ 62 /\ -(2 ^ 62)<=j/\j<2 ^ 62)/\R (Itr i (j-i).toNat) H1
theorem zA5 {a:Expr}{ta:TA}{p:Pos}(hg:Gl X "range") (hm:X.mg "range" = none) (ha:PA X [a] ta)(hs:starEach [a] X.env=[(false,eval a X.env)]:=by rfl):PI X tg (.Call (.Name "range" p) [a] [] pos) (iRng1 ta):=by
 intro pins s σ H R I h
 refine Call_ (zCp I hg hm boot_range (PyProof.Rows.callWith_type1 (thn (ha pos pins s σ H _ I h) fun us s1 ⟨vs,H1,I1,r1,q1⟩=>?_) hs rfl))
 obtain⟨j,e,q1,q2,q⟩:=q1
 subst e
 cases r1 with
 | cons r rr=>
  cases rr
  obtain⟨t,rfl⟩:=r
  exact call_range_1 (zHB I1 (by omega) (by omega) q1 q2 (by simpa using q))
theorem zFw {a b:Expr}{ta:TA}{p pos:Pos}(hg:Gl X "range") (hm:X.mg "range" = none) (ha:PA X [a,b] ta)(hs:starEach [a,b] X.env=[(false,eval a X.env),(false,eval b X.env)]:=by rfl)(hs2:starEach [b] X.env=[(false,eval b X.env)]:=by rfl) :
 PI X tg (.Call (.Name "range" p) [a,b] [] pos) (iRng2 ta):=by
 intro pins s σ H R I h
 refine Call_ (zCp I hg hm boot_range (PyProof.Rows.callWith_type1 (thn (ha pos pins s σ H _ I h) fun us s1 ⟨vs,H1,I1,r1,q1⟩=>?_) (by rw[hs,hs2]) (by rw[hs2];rfl)))
 obtain⟨i,j,e,⟨q1,q2,q3,q4⟩,q⟩:=q1
 subst e
 cases r1 with
 | cons r rr=>
  cases rr with
  | cons r' rr=>
   cases rr
   obtain⟨t,rfl⟩:=r
   obtain⟨t',rfl⟩:=r'
   exact call_range_2 (zHB I1 q1 q2 q3 q4 q)
noncomputable def tFor (wi:TI)(g:TG)(tb:TS):TS:=fun D σ H=>wi σ H fun J H1=>∃W:Nat->Nat->St->Hp->Prop,(∃m,W 0 m σ H1)/\∀i m σ H,W i m σ H ->
 (J.stop i H/\D.nx σ H)\/(J.go i H/\∃N:St->Hp->Prop,(∀ σ' H',N σ' H'->∃m',m'<m/\W (i+1) m' σ' H')/\∀x H',J.yld i H x H'->g x σ H' fun σ2 H2=>tb { D with nx:=N,ct:=N,bk:=D.nx } σ2 H2)
noncomputable def zEq (fp:List Addr)(h:Heap):List (Addr×Obj):=fp.filterMap fun b=>(h.get? b).map fun o=>(b,o)
theorem zCP (hb:b∈fp)(e:h.get? b=some o):(b,o)∈zEq fp h:=zA4.mpr ⟨b,hb,by rw[e];rfl⟩
theorem zIi {p:Addr×Obj}(hp:p∈zEq fp h):p.1∈fp/\h.get? p.1=some p.2:=by
 obtain⟨b,hb,e⟩:=zA4.mp hp
 cases q:h.get? b with
 | none=>rw[q] at e;cases e
 | some o=>
  rw[q] at e
  have e':(b,o)=p:=zX e
  subst e'
  exact⟨hb,q⟩
theorem Inv.pinned {pins:lPO}(I:Inv X pins σ H s)(hf:∀b∈fp,zGY X pins H b)(ho:∀b∈fp,∃o,s.heap.get? b=some o/\∀v,o.data ≠ .cell v):Inv X (pins++zEq fp s.heap) σ H s:=
 I.pins_of fun p hp=>(zm.mp hp).elim (fun z=>I.pin p (ze _ z)) fun z=>by
  obtain⟨hb,e⟩:=zIi z
  obtain⟨f0,f1,f2,_⟩:=hf p.1 hb
  obtain⟨o,e',d⟩:=ho p.1 hb
  rw[e] at e';cases e'
  exact⟨e,f0,f1,f2,d⟩
theorem Inv.unpinned {pins pl:lPO}(I:Inv X (pins++pl) σ H s):Inv X pins σ H s:=I.pins_of fun p hp=>I.pin p (ze _ (zAe _ hp))
theorem zB3 {iter:Expr}{wi:TI}{g:TG}(hp:PassesOwn (model X.prog X.w) X.A X.env X.xe)(hc:X.calm=true)(hi:PI X tg iter wi)(hg:PG X tg g)(hb:PSs X body tb)
 (hs:∀x,foldedSetIterable iter X.env x=pure x:=by intro _;rfl):PS X (.For tg iter body [] pos) (tFor wi g tb):=by
 intro pins s σ H D I h
 refine wpAny_For (thn (hi pins s σ H _ I h) fun v s1 h1=>thn h1 fun itv s2 h2=>?_) hs
 obtain⟨it,fp,tn,J,H2,e,I2,T,st2,f2,W,⟨m0,w0⟩,turn⟩:=h2
 subst e
 have stat:∀{H':Hp},(∀b∈fp,H' b=none)->∀b∈fp,zGY X pins H' b:=fun hn b hb=>⟨hn b hb,(f2 b hb).2⟩
 refine codeAny_forLoop_any (fun n s'=>∃i σ' H',Inv X pins σ' H' s'/\tn i s'.heap/\(∀b∈fp,H' b=none)/\W i n σ' H') ?_ m0 ⟨0,σ,H2,I2,st2,fun b hb=>(f2 b hb).1,w0⟩
 rintro n s3 ⟨i,σ3,H3,I3,st3,fr3,w3⟩
 rcases turn i n σ3 H3 w3 with ⟨stop,qn⟩ | ⟨go,N,hN,step⟩
 . refine wpAny_passesOwn hp (thn (T.done X rfl rfl rfl hc i pins s3 σ3 H3 X.xe I3 (stat fr3) st3 stop) fun r s4 ⟨hr,I4⟩=>?_)
   subst hr
   exact wpAny_execs_nil ⟨σ3,H3,I4,qn⟩
 . refine wpAny_passesOwn hp (thn (T.item X rfl rfl rfl hc i pins s3 σ3 H3 X.xe I3 (stat fr3) st3 go) fun r s4 ⟨u,hr,h4⟩=>?_)
   subst hr
   refine wpAny_passesOwn hp (thn h4 fun _ s5 ⟨x,H5,I5,r5,y5,st5,fr5⟩=>?_)
   have I5':=I5.pinned (stat fr5) (T.obj _ _ st5)
   refine wpAny_passesOwn hp (thn (hg _ s5 σ3 H5 x u _ I5' r5 (step x H5 y5)) fun _ s6 ⟨σ6,H6,I6,q6⟩=>?_)
   refine wpAny_passesOwn hp (thn (hb _ s6 σ6 H6 _ I6 q6) fun f s7 q7=>?_)
   have again:∀{σ7:St}{H7:Hp},Inv X (pins++zEq fp s5.heap) σ7 H7 s7->N σ7 H7->∃m,m<n/\∃i σ' H',Inv X pins σ' H' s7/\tn i s7.heap/\(∀b∈fp,H' b=none)/\W i m σ' H':=fun {σ7 H7} I7 n7=>by
    obtain⟨m',hm,w7⟩:=hN σ7 H7 n7
    refine⟨m',hm,i+1,σ7,H7,I7.unpinned,T.keep _ _ _ st5 fun b hb o e=>(I7.pin (b,o) (ze _ (ze _ (zCP hb e)))).1,fun b hb=>?_,w7⟩
    obtain⟨o,e,d⟩:=T.obj _ _ st5 b hb
    exact (I7.pin (b,o) (ze _ (ze _ (zCP hb e)))).2.1
   cases f with
   | next=>obtain⟨σ7,H7,I7,n7⟩:=q7;exact again I7 n7
   | cont=>obtain⟨σ7,H7,I7,n7⟩:=q7;exact again I7 n7
   | brk=>obtain⟨σ7,H7,I7,q7⟩:=q7;exact⟨σ7,H7,I7.unpinned,q7⟩
   | ret v=>obtain⟨x7,σ7,H7,I7,r7,q7⟩:=q7;exact⟨x7,σ7,H7,I7.unpinned,r7,q7⟩
end
variable {D:zJb}
theorem zDu {xs:List V}{g:TG}(Pv:Nat->St->Hp->Prop)(h0:Pv 0 σ H)(hl:∀i σ H,i<=xs.length->Pv i σ H->SqL K H a xs)
 (hs:∀i x σ H,xs[i]? = some x->Pv i σ H->g x σ H fun σ2 H2=>tb { D with nx:=Pv (i+1),ct:=Pv (i+1),bk:=D.nx } σ2 H2)(hd:∀ σ H,Pv xs.length σ H->D.nx σ H) :
 ∃W:Nat->Nat->St->Hp->Prop,(∃m,W 0 m σ H)/\∀i m σ H,W i m σ H ->
  ((Itl K a).stop i H/\D.nx σ H)\/((Itl K a).go i H/\∃N:St->Hp->Prop,(∀ σ' H',N σ' H'->∃m',m'<m/\W (i+1) m' σ' H')/\∀x H',(Itl K a).yld i H x H'->g x σ H' fun σ2 H2=>tb { D with nx:=N,ct:=N,bk:=D.nx } σ2 H2):=by
 refine⟨fun i m σ H=>m=xs.length-i/\i<=xs.length/\Pv i σ H,⟨xs.length,by simp,zg _,h0⟩,?_⟩
 rintro i m σ H ⟨rfl,hi,p⟩
 have q:=hl i σ H hi p
 by_cases hlt:i<xs.length
 . refine .inr ⟨⟨xs,xs[i],q,by simp[hlt]⟩,Pv (i+1),fun σ' H' p'=>⟨xs.length-(i+1),by omega,rfl,hlt,p'⟩,fun x H' y=>?_⟩
   obtain⟨e,y⟩:=y
   subst e
   exact hs i x σ _ (y xs q) p
 . have e:i=xs.length:=by omega
   subst e
   exact .inl ⟨⟨xs,q,zI _⟩,hd σ H p⟩
theorem zCk {xs:List V}{g:TG}(Pv:Nat->St->Hp->Prop)(h0:Pv 0 σ H)(hl:∀i σ H,i<=xs.length->Pv i σ H->SqT K H a xs)
 (hs:∀i x σ H,xs[i]? = some x->Pv i σ H->g x σ H fun σ2 H2=>tb { D with nx:=Pv (i+1),ct:=Pv (i+1),bk:=D.nx } σ2 H2)(hd:∀ σ H,Pv xs.length σ H->D.nx σ H) :
 ∃W:Nat->Nat->St->Hp->Prop,(∃m,W 0 m σ H)/\∀i m σ H,W i m σ H ->
  ((Itt K a).stop i H/\D.nx σ H)\/((Itt K a).go i H/\∃N:St->Hp->Prop,(∀ σ' H',N σ' H'->∃m',m'<m/\W (i+1) m' σ' H')/\∀x H',(Itt K a).yld i H x H'->g x σ H' fun σ2 H2=>tb { D with nx:=N,ct:=N,bk:=D.nx } σ2 H2):=by
 refine⟨fun i m σ H=>m=xs.length-i/\i<=xs.length/\Pv i σ H,⟨xs.length,by simp,zg _,h0⟩,?_⟩
 rintro i m σ H ⟨rfl,hi,p⟩
 have q:=hl i σ H hi p
 by_cases hlt:i<xs.length
 . refine .inr ⟨⟨xs,xs[i],q,by simp[hlt]⟩,Pv (i+1),fun σ' H' p'=>⟨xs.length-(i+1),by omega,rfl,hlt,p'⟩,fun x H' y=>?_⟩
   obtain⟨e,y⟩:=y
   subst e
   exact hs i x σ _ (y xs q) p
 . have e:i=xs.length:=by omega
   subst e
   exact .inl ⟨⟨xs,q,zI _⟩,hd σ H p⟩
theorem zCU {lo:Int}{g:TG}(Pv:Nat->St->Hp->Prop)(h0:Pv 0 σ H)
 (hs:∀i σ H,i<n->Pv i σ H->g (.int (lo+i)) σ H fun σ2 H2=>tb { D with nx:=Pv (i+1),ct:=Pv (i+1),bk:=D.nx } σ2 H2)(hd:∀ σ H,Pv n σ H->D.nx σ H) :
 ∃W:Nat->Nat->St->Hp->Prop,(∃m,W 0 m σ H)/\∀i m σ H,W i m σ H ->
  ((Itr lo n).stop i H/\D.nx σ H)\/((Itr lo n).go i H/\∃N:St->Hp->Prop,(∀ σ' H',N σ' H'->∃m',m'<m/\W (i+1) m' σ' H')/\∀x H',(Itr lo n).yld i H x H'->g x σ H' fun σ2 H2=>tb { D with nx:=N,ct:=N,bk:=D.nx } σ2 H2):=by
 refine⟨fun i m σ H=>m=n-i/\i<=n/\Pv i σ H,⟨n,by simp,zg _,h0⟩,?_⟩
 rintro i m σ H ⟨rfl,hi,p⟩
 by_cases hlt:i<n
 . refine .inr ⟨hlt,Pv (i+1),fun σ' H' p'=>⟨n-(i+1),by omega,rfl,hlt,p'⟩,fun x H' y=>?_⟩
   obtain⟨e,y⟩:=y
   subst e y
   exact hs i σ _ hlt p
 . have e:i=n:=by omega
   subst e
   exact .inl ⟨zI _,hd σ H p⟩
noncomputable abbrev R2:=V->V->Hp->VK->Prop
noncomputable def OpR (X:Cx)(f:Value->Value->Sem Value)(r:R2):Prop:=
 ∀(pins:lPO)(s:Shared)(σ:St)(H:Hp)(x y:V)(v u:Value)(Q:VK),Inv X pins σ H s->zBy x v->zBy y u->r x y H Q ->
  wpAny (model X.prog X.w) X.A (f v u) (EP X pins σ Q) X.xe s
noncomputable def UnR (X:Cx)(f:Value->Sem Value)(r:V->Hp->VK->Prop):Prop:=
 ∀(pins:lPO)(s:Shared)(σ:St)(H:Hp)(x:V)(v:Value)(Q:VK),Inv X pins σ H s->zBy x v->r x H Q ->
  wpAny (model X.prog X.w) X.A (f v) (EP X pins σ Q) X.xe s
noncomputable def zCg (X:Cx)(f:Value)(r:List V->Hp->VK->Prop):Prop:=
 ∀(pins:lPO)(s:Shared)(σ:St)(H:Hp)(xs:List V)(us:List Value)(Q:VK),Inv X pins σ H s->zBL xs us->r xs H Q ->
  wpAny (model X.prog X.w) X.A (call f us) (EP X pins σ Q) X.xe s
noncomputable def TruR (X:Cx)(r:V->Hp->(Bool->Hp->Prop)->Prop):Prop:=
 ∀(pins:lPO)(s:Shared)(σ:St)(H:Hp)(x:V)(v:Value)(Q:Bool->Hp->Prop),Inv X pins σ H s->zBy x v->r x H Q ->
  wpAny (model X.prog X.w) X.A (truthy v) (TP X pins σ Q) X.xe s
noncomputable def tOp (r:R2)(ta tb:TE):TE:=fun σ H Q=>ta σ H fun x H1=>tb σ H1 fun y H2=>r x y H2 Q
noncomputable def tUn (r:V->Hp->VK->Prop)(ta:TE):TE:=fun σ H Q=>ta σ H fun x H1=>r x H1 Q
noncomputable def rI (C:Int->Int->Prop)(g:Int->Int->V):R2:=fun x y H Q=>∃i j,x = .int i/\y = .int j/\C i j/\Q (g i j) H
noncomputable def rI0 (g:Int->Int->V):R2:=fun x y H Q=>∃i j,x = .int i/\y = .int j/\Q (g i j) H
noncomputable def rU (g:Int->V):V->Hp->VK->Prop:=fun x H Q=>∃i,x = .int i/\Q (g i) H
variable {f:Value->Value->Sem Value}
section
variable {X:Cx}{a b c:Expr}{ta tb tc:TE}{pos:Pos}
theorem binT (ha:PE X a ta)(hb:PE X b tb){pins:lPO}{R:V->V->Hp->Prop}(I:Inv X pins σ H s)
 (h:ta σ H fun x H1=>tb σ H1 fun y H2=>R x y H2){Q:vSP}
 (hf:∀v u s2 x y H2,Inv X pins σ H2 s2->zBy x v->zBy y u->R x y H2->wpAny (model X.prog X.w) X.A (f v u) Q X.xe s2) :
 wpAny (model X.prog X.w) X.A (eval a X.env) (fun v s₁=>wpAny (model X.prog X.w) X.A (eval b X.env) (fun u s₂=>wpAny (model X.prog X.w) X.A (f v u) Q X.xe s₂) X.xe s₁) X.xe s:=by
 refine thn (ha pins s σ H _ I h) fun v s1 ⟨x,H1,I1,r1,q1⟩=>?_
 refine thn (hb pins s1 σ H1 _ I1 q1) fun u s2 ⟨y,H2,I2,r2,q2⟩=>?_
 exact hf v u s2 x y H2 I2 r1 r2 q2
theorem zA3 {op:Operator}{r:R2}(ho:OpR X (binaryOp op) r)(ha:PE X a ta)(hb:PE X b tb):PE X (.BinOp a op b pos) (tOp r ta tb):=by
 intro pins s σ H Q I h
 exact wpAny_BinOp (binT ha hb I h fun v u s2 x y H2 I2 rx ry q=>ho pins s2 σ H2 x y v u Q I2 rx ry q)
theorem zL0 {op:UnaryOp}{r:V->Hp->VK->Prop}(ho:UnR X (unaryOp op) r)(ha:PE X a ta):PE X (.UnaryOp op a pos) (tUn r ta):=by
 intro pins s σ H Q I h
 exact UnaryOp_ (thn (ha pins s σ H _ I h) fun v s1 ⟨x,H1,I1,r1,q1⟩=>ho pins s1 σ H1 x v Q I1 r1 q1)
theorem opI {C:Int->Int->Prop}{g:Int->Int->Int}
 (rule:∀(i j:Int)(t u:Tok)(s:Shared)(Q:vSP)(E:vSP),C i j->Q (.int (g i j) s.toks) { s with toks:=s.toks+1 }->wpAny (model X.prog X.w) X.A (f (.int i t) (.int j u)) Q E s) :
 OpR X f (rI C fun i j=>.int (g i j)):=by
 intro pins s σ H x y v u Q I rx ry h
 obtain⟨i,j,rfl,rfl,hc,q⟩:=h
 obtain⟨t,rfl⟩:=rx
 obtain⟨t',rfl⟩:=ry
 exact rule i j t t' s _ _ hc ⟨.int (g i j),H,I.tok _,⟨_,rfl⟩,q⟩
theorem opI0 {g:Int->Int->Int}
 (rule:∀(i j:Int)(t u:Tok)(s:Shared)(Q:vSP)(E:vSP),Q (.int (g i j) s.toks) { s with toks:=s.toks+1 }->wpAny (model X.prog X.w) X.A (f (.int i t) (.int j u)) Q E s) :
 OpR X f (rI0 fun i j=>.int (g i j)):=by
 intro pins s σ H x y v u Q I rx ry h
 obtain⟨i,j,rfl,rfl,q⟩:=h
 obtain⟨t,rfl⟩:=rx
 obtain⟨t',rfl⟩:=ry
 exact rule i j t t' s _ _ ⟨.int (g i j),H,I.tok _,⟨_,rfl⟩,q⟩
theorem opB0 {g:Int->Int->Bool}
 (rule:∀(i j:Int)(t u:Tok)(s:Shared)(Q:vSP)(E:vSP),Q (.bool (g i j)) s->wpAny (model X.prog X.w) X.A (f (.int i t) (.int j u)) Q E s) :
 OpR X f (rI0 fun i j=>.bl (g i j)):=by
 intro pins s σ H x y v u Q I rx ry h
 obtain⟨i,j,rfl,rfl,q⟩:=h
 obtain⟨t,rfl⟩:=rx
 obtain⟨t',rfl⟩:=ry
 exact rule i j t t' s _ _ ⟨.bl (g i j),H,I,rfl,q⟩
noncomputable def CDiv (i j:Int):Prop:=0<j/\j<1073741824
noncomputable def CPow (i j:Int):Prop:=0<=j/\j<=1000000/\i.natAbs<2 ^ 64
noncomputable def CMul (i j:Int):Prop:=(-(2 ^ 64)<i/\i<2 ^ 64)\/(-(2 ^ 64)<j/\j<2 ^ 64)
theorem CMul.ok {i j:Int}(h:CMul i j):IntMulOk i j:=by
 rcases h with ⟨h1,h2⟩ | ⟨h1,h2⟩
 . exact .of_left (intBits_le_64 h1 h2)
 . exact .of_right (intBits_le_64 h1 h2)
theorem zCL:OpR X (binaryOp .Add) (rI0 fun i j=>.int (i+j)):=opI0 fun _ _ _ _ _ _ _ q=>add_int q
theorem zLC:OpR X (binaryOp .Sub) (rI0 fun i j=>.int (i-j)):=opI0 fun _ _ _ _ _ _ _ q=>sub_int q
theorem zDd:OpR X (binaryOp .Mult) (rI CMul fun i j=>.int (i*j)):=opI fun _ _ _ _ _ _ _ hc q=>mul_int q hc.ok
theorem zIa:OpR X (binaryOp .FloorDiv) (rI CDiv fun i j=>.int (i/j)):=opI fun i j _ _ _ _ _ hc q=>by
 have h1:(0:Int)<j:=hc.1
 have h2:j<1073741824:=hc.2
 exact floordiv_int (by omega) (by rw[Int.fdiv_eq_ediv_of_nonneg i (by omega)];exact q) (.inl (PyProof.noPylong_small (by omega)))
theorem zDe:OpR X (binaryOp .Mod) (rI (fun _ j=>0<j) fun i j=>.int (i%j)):=opI fun i j _ _ _ _ _ hc q=>by
 have h1:(0:Int)<j:=hc
 exact mod_int' (by omega) (by rw[Int.fmod_eq_emod_of_nonneg i (by omega)];exact q)
theorem zFx:OpR X (binaryOp .Pow) (rI CPow fun i j=>.int (i ^ j.toNat)):=opI fun _ _ _ _ _ _ _ hc q=>pow_int_small hc.1 hc.2.1 hc.2.2 q
theorem unI {f:Value->Sem Value}{g:Int->Int}
 (rule:∀(i:Int)(t:Tok)(s:Shared)(Q:vSP)(E:vSP),Q (.int (g i) s.toks) { s with toks:=s.toks+1 }->wpAny (model X.prog X.w) X.A (f (.int i t)) Q E s) :
 UnR X f (rU fun i=>.int (g i)):=by
 intro pins s σ H x v Q I rx h
 obtain⟨i,rfl,q⟩:=h
 obtain⟨t,rfl⟩:=rx
 exact rule i t s _ _ ⟨.int (g i),H,I.tok _,⟨_,rfl⟩,q⟩
theorem zHs:UnR X (unaryOp .USub) (rU fun i=>.int (-i)):=unI fun _ _ _ _ _ q=>neg_int q
end
noncomputable def scal:V->V->Bool
 | .non,.non=>true | .non,.int _=>true | .int _,.non=>true | .non,.bl _=>true | .bl _,.non=>true | .non,.str _=>true | .str _,.non=>true
 | .int _,.int _=>true | .bl _,.bl _=>true | .str _,.str _=>true | .byt _,.byt _=>true
 | .int _,.str _=>true | .str _,.int _=>true | .bl _,.str _=>true | .str _,.bl _=>true
 | _,_=>false
noncomputable def rEq:R2:=fun x y H Q=>scal x y=true/\Q (.bl (decide (x=y))) H
noncomputable def rNe:R2:=fun x y H Q=>scal x y=true/\Q (.bl (!decide (x=y))) H
theorem zJE {i j:Int}:decide (V.int i=V.int j)=(i==j):=by
 rw[Bool.eq_iff_iff]
 simp
theorem zLU {i j:Bool}:decide (V.bl i=V.bl j)=(i==j):=by
 rw[Bool.eq_iff_iff]
 simp
theorem zJD {i j:Str}:decide (V.str i=V.str j)=(i==j):=by
 rw[Bool.eq_iff_iff]
 simp
theorem zJF {i j:Array UInt8}:decide (V.byt i=V.byt j)=(i.toList==j.toList):=by
 rw[Bool.eq_iff_iff]
 cases i
 cases j
 simp
variable {op:CmpOp}
section
variable {X:Cx}{a b c:Expr}{ta tb tc:TE}{pos:Pos}
theorem zA8 {pins:lPO}{Q:VK}{k k':Bool}(I:Inv X pins σ H s)(q:Q (.bl k) H)(e:k=k'):EP X pins σ Q (.bool k') s:=by
 subst e
 exact⟨.bl k,H,I,rfl,q⟩
theorem zCr:OpR X (compareOp .Eq) rEq:=by
 intro pins s σ H x y v u Q I rx ry h
 obtain⟨hs,q⟩:=h
 cases x with
 | non=>
  cases rx
  cases y with
  | non=>cases ry;exact PySem.EqNone.eq_none_none (zA8 I q (by simp))
  | bl j=>cases ry;exact PySem.EqNone.eq_none_bool (zA8 I q (by simp))
  | int j=>obtain⟨t',rfl⟩:=ry;exact PySem.EqNone.eq_none_int (zA8 I q (by simp))
  | str j=>obtain⟨t',rfl⟩:=ry;exact PySem.EqNone.eq_none_str (zA8 I q (by simp))
  | _=>exact absurd (show false=true from hs) zb
 | bl i=>
  cases rx
  cases y with
  | non=>cases ry;exact PySem.EqNone.eq_bool_none (zA8 I q (by simp))
  | bl j=>cases ry;exact eq_bool (zA8 I q zLU)
  | str j=>obtain⟨t',rfl⟩:=ry;exact PySem.EqMixed.eq_bool_str (zA8 I q (by simp))
  | _=>exact absurd (show false=true from hs) zb
 | int i=>
  obtain⟨t,rfl⟩:=rx
  cases y with
  | non=>cases ry;exact PySem.EqNone.eq_int_none (zA8 I q (by simp))
  | int j=>obtain⟨t',rfl⟩:=ry;exact eq_int (zA8 I q zJE)
  | str j=>obtain⟨t',rfl⟩:=ry;exact PySem.EqMixed.eq_int_str (zA8 I q (by simp))
  | _=>exact absurd (show false=true from hs) zb
 | str i=>
  obtain⟨t,rfl⟩:=rx
  cases y with
  | non=>cases ry;exact PySem.EqNone.eq_str_none (zA8 I q (by simp))
  | bl j=>cases ry;exact PySem.EqMixed.eq_str_bool (zA8 I q (by simp))
  | int j=>obtain⟨t',rfl⟩:=ry;exact PySem.EqMixed.eq_str_int (zA8 I q (by simp))
  | str j=>obtain⟨t',rfl⟩:=ry;exact eq_str (zA8 I q zJD)
  | _=>exact absurd (show false=true from hs) zb
 | byt i=>
  obtain⟨t,rfl⟩:=rx
  cases y with
  | byt j=>obtain⟨t',rfl⟩:=ry;exact PySem.W.eq_bytes (zA8 I q zJF)
  | _=>exact absurd (show false=true from hs) zb
 | _=>cases y <;> exact absurd (show false=true from hs) zb
theorem zFJ:OpR X (compareOp .NotEq) rNe:=by
 intro pins s σ H x y v u Q I rx ry h
 obtain⟨hs,q⟩:=h
 cases x with
 | non=>
  cases rx
  cases y with
  | non=>cases ry;exact PySem.EqNone.ne_none_none (zA8 I q (by simp))
  | bl j=>cases ry;exact PySem.EqNone.ne_none_bool (zA8 I q (by simp))
  | int j=>obtain⟨t',rfl⟩:=ry;exact PySem.EqNone.ne_none_int (zA8 I q (by simp))
  | str j=>obtain⟨t',rfl⟩:=ry;exact PySem.EqNone.ne_none_str (zA8 I q (by simp))
  | _=>exact absurd (show false=true from hs) zb
 | bl i=>
  cases rx
  cases y with
  | non=>cases ry;exact PySem.EqNone.ne_bool_none (zA8 I q (by simp))
  | bl j=>cases ry;exact ne_bool (zA8 I q (congrArg not zLU))
  | str j=>obtain⟨t',rfl⟩:=ry;exact PySem.EqMixed.ne_bool_str (zA8 I q (by simp))
  | _=>exact absurd (show false=true from hs) zb
 | int i=>
  obtain⟨t,rfl⟩:=rx
  cases y with
  | non=>cases ry;exact PySem.EqNone.ne_int_none (zA8 I q (by simp))
  | int j=>obtain⟨t',rfl⟩:=ry;exact ne_int (zA8 I q (congrArg not zJE))
  | str j=>obtain⟨t',rfl⟩:=ry;exact PySem.EqMixed.ne_int_str (zA8 I q (by simp))
  | _=>exact absurd (show false=true from hs) zb
 | str i=>
  obtain⟨t,rfl⟩:=rx
  cases y with
  | non=>cases ry;exact PySem.EqNone.ne_str_none (zA8 I q (by simp))
  | bl j=>cases ry;exact PySem.EqMixed.ne_str_bool (zA8 I q (by simp))
  | int j=>obtain⟨t',rfl⟩:=ry;exact PySem.EqMixed.ne_str_int (zA8 I q (by simp))
  | str j=>obtain⟨t',rfl⟩:=ry;exact ne_str (zA8 I q (congrArg not zJD))
  | _=>exact absurd (show false=true from hs) zb
 | byt i=>
  obtain⟨t,rfl⟩:=rx
  cases y with
  | byt j=>obtain⟨t',rfl⟩:=ry;exact PySem.W.ne_bytes (zA8 I q (congrArg not zJF))
  | _=>exact absurd (show false=true from hs) zb
 | _=>cases y <;> exact absurd (show false=true from hs) zb
theorem zIZ:OpR X (compareOp .Lt) (rI0 fun i j=>.bl (decide (i<j))):=opB0 fun _ _ _ _ _ _ _ q=>lt_int q
theorem zKE:OpR X (compareOp .LtE) (rI0 fun i j=>.bl (decide (i<=j))):=opB0 fun _ _ _ _ _ _ _ q=>le_int q
theorem zL5:OpR X (compareOp .Gt) (rI0 fun i j=>.bl (decide (j<i))):=opB0 fun _ _ _ _ _ _ _ q=>gt_int q
theorem op_ge:OpR X (compareOp .GtE) (rI0 fun i j=>.bl (decide (j<=i))):=opB0 fun _ _ _ _ _ _ _ q=>ge_int q
theorem zHC:OpR X (compareOp .Is) (fun x y H Q=>y = .non/\Q (.bl (decide (x = .non))) H):=by
 intro pins s σ H x y v u Q I rx ry h
 obtain⟨rfl,q⟩:=h
 cases ry
 refine is_none_gen (zA8 I q ?_)
 cases x <;> first
  | (cases rx;rfl)
  | (obtain⟨t,rfl⟩:=rx;rfl)
theorem zL4:OpR X (compareOp .IsNot) (fun x y H Q=>y = .non/\Q (.bl (!decide (x = .non))) H):=by
 intro pins s σ H x y v u Q I rx ry h
 obtain⟨rfl,q⟩:=h
 cases ry
 refine isnot_none_gen (zA8 I q ?_)
 cases x <;> first
  | (cases rx;rfl)
  | (obtain⟨t,rfl⟩:=rx;rfl)
theorem zAd (b:Expr)(h:op ≠ .In:=by decide)(h2:op ≠ .NotIn:=by decide):behindInMarks op b=false:=by
 have e1:(op==CmpOp.In)=false:=by cases op <;> first | rfl | exact absurd rfl h
 have e2:(op==CmpOp.NotIn)=false:=by cases op <;> first | rfl | exact absurd rfl h2
 cases b <;> simp[behindInMarks,e1,e2]
theorem zBq {r:R2}(ho:OpR X (compareOp op) r)(ha:PE X a ta)(hb:PE X b tb)(hm:behindInMarks op b=false):PE X (.Compare a [op] [b] pos) (tOp r ta tb):=by
 intro pins s σ H Q I h
 exact wpAny_Compare1 (binT ha hb I h fun v u s2 x y H2 I2 rx ry q=>ho pins s2 σ H2 x y v u Q I2 rx ry q) hm
noncomputable def tTest (t:TE):TT:=fun σ H Q=>t σ H fun x H'=>∃k,x = .bl k/\Q k H'
theorem zAN {r:R2}(ho:OpR X (compareOp op) r)(ha:PE X a ta)(hb:PE X b tb)(hm:behindInMarks op b=false):PT X (.Compare a [op] [b] pos) (tTest (tOp r ta tb)):=by
 intro pins s σ H Q I h
 refine wpAny_isTrue_Compare1 (thn (ha pins s σ H _ I h) fun v s1 ⟨x,H1,I1,r1,q1⟩=>thn (hb pins s1 σ H1 _ I1 q1) fun u s2 ⟨y,H2,I2,r2,q2⟩=>
  thn (ho pins s2 σ H2 x y v u _ I2 r1 r2 q2) fun c s3 ⟨z,H3,I3,r3,k,e,q3⟩=>?_) hm
 subst e
 cases r3
 exact zBA ⟨H3,I3,q3⟩
noncomputable def tChain (r r':R2)(ta tb tc:TE):TE:=fun σ H Q=>ta σ H fun x H1=>tb σ H1 fun y H2=>r x y H2 fun z H3=>∃k,z = .bl k /\
 (if k=true then tc σ H3 fun w' H4=>r' y w' H4 Q else Q (.bl false) H3)
theorem zJ3 {op':CmpOp}{r r':R2}(ho:OpR X (compareOp op) r)(ho':OpR X (compareOp op') r')(ha:PE X a ta)(hb:PE X b tb)(hc:PE X c tc)
 (hm:lastMarks [op,op'] [b,c]=false:=by with_unfolding_all rfl):PT X (.Compare a [op,op'] [b,c] pos) (tTest (tChain r r' ta tb tc)):=by
 intro pins s σ H Q I h
 refine isTrue_chain (thn (ha pins s σ H _ I h) fun v s1 ⟨x,H1,I1,r1,q1⟩=>test_link (thn (hb pins s1 σ H1 _ I1 q1) fun u s2 ⟨y,H2,I2,r2,q2⟩=>
  thn (ho pins s2 σ H2 x y v u _ I2 r1 r2 q2) fun d s3 ⟨z,H3,I3,r3,k,e,q3⟩=>?_)) hm
 subst e
 cases r3
 refine zBA ?_
 cases k with
 | false=>
  obtain⟨k',e',q'⟩:=q3
  cases e'
  exact ite_ff ⟨H3,I3,q'⟩
 | true=>
  refine ite_tt (test_last (thn (hc pins s3 σ H3 _ I3 q3) fun w' s4 ⟨z',H4,I4,r4,q4⟩=>thn (ho' pins s4 σ H4 y z' u w' _ I4 r2 r4 q4) fun d' s5 ⟨z2,H5,I5,r5,k2,e2,q5⟩=>?_))
  subst e2
  cases r5
  exact zBA ⟨H5,I5,q5⟩
noncomputable def TruV (K:PySem.W.Frag)(x:V)(H:Hp)(k:Bool):Prop:=
 match x with
 | .non=>k=false
 | .bl b=>k=b
 | .int i=>k=(i != 0)
 | .str y=>y.length<=sizeLine/\k=((y.length:Int) != 0)
 | .byt y=>y.size<=sizeLine/\k=((y.size:Int) != 0)
 | .ref p=>(∃xs,SqL K H p xs/\k = !xs.isEmpty)\/(∃xs,SqT K H p xs/\k = !xs.isEmpty)\/∃kvs,H p=some (.dK kvs)/\k = !kvs.isEmpty
 | _=>False
theorem zHg {κ:Type}{kvs:List (κ×V)}{vs:List (κ×Value)}(r:KV kvs vs):(!vs.isEmpty) = !kvs.isEmpty:=by
 cases r <;> rfl
theorem zEz {xs:List V}{its:List Value}(r:zBL xs its):(!its.toArray.isEmpty) = !xs.isEmpty:=by
 cases r <;> simp
theorem zF0:(sizeLine:Nat)<2 ^ 63:=by rw[sizeLine_eq];decide
theorem zKn:TruR X (fun x H Q=>∃k,TruV X.K x H k/\Q k H):=by
 intro pins s σ H x v Q I rx h
 obtain⟨k,e,q⟩:=h
 have hl:=zF0
 have hs:sizeLine=16777216:=sizeLine_eq
 cases x with
 | non=>
  cases rx
  have e':k=false:=e
  subst e'
  exact truthy_none ⟨H,I,q⟩
 | bl b=>
  cases rx
  have e':k=b:=e
  subst e'
  exact zBA ⟨H,I,q⟩
 | int i=>
  obtain⟨t,rfl⟩:=rx
  have e':k=(i != 0):=e
  subst e'
  exact PySem.P.truthy_int ⟨H,I,q⟩
 | str y=>
  obtain⟨t,rfl⟩:=rx
  obtain⟨hy,e'⟩:y.length<=sizeLine/\k=((y.length:Int) != 0):=e
  subst e'
  exact PySem.P.truthy_str (by omega) ⟨H,I.tok _,q⟩
 | byt y=>
  obtain⟨t,rfl⟩:=rx
  obtain⟨hy,e'⟩:y.size<=sizeLine/\k=((y.size:Int) != 0):=e
  subst e'
  exact PySem.W.truthy_bytes (by omega) ⟨H,I.tok _,q⟩
 | ref p=>
  cases rx
  have e':(∃xs,SqL X.K H p xs/\k = !xs.isEmpty)\/(∃xs,SqT X.K H p xs/\k = !xs.isEmpty)\/∃kvs,H p=some (.dK kvs)/\k = !kvs.isEmpty:=e
  rcases e' with ⟨xs,hx,e'⟩ | ⟨xs,hx,e'⟩ | ⟨kvs,hx,e'⟩
  . subst e'
    obtain⟨its,r,pl,hz⟩:=I.list hx
    have hlen:=r.length
    exact wpAny_truthy_list pl.isList (by simp only[zN];omega) ⟨H,I.tok _,by rw[zEz r];exact q⟩
  . subst e'
    obtain⟨its,r,pl,hz⟩:=I.tuple hx
    have hlen:=r.length
    exact truthy_tuple pl (by simp only[zN];omega) ⟨H,I.tok _,by rw[zEz r];exact q⟩
  . subst e'
    obtain⟨hz,hS,vs,r,m⟩:kvs.length<=sizeLine/\(p==sysModules)=false/\∃vs,KV kvs vs/\s.heap.DictOf (zBN X.prog X.w) p vs:=I.hok p _ hx
    have hlen:kvs.length=vs.length:=Paired.length r
    exact wpAny_truthy_dict hS m (by omega) ⟨H,I.tok _,by rw[zHg r];exact q⟩
 | _=>exact (show False from e).elim
theorem zJ2 (ha:PE X a ta)(he:∀whole,isTrue a X.env whole=(do let v <-whole;standAt a.pos;holding [v] (truthy v))) :
 PT X a (fun σ H Q=>ta σ H fun x H'=>∃k,TruV X.K x H' k/\Q k H'):=by
 intro pins s σ H Q I h
 exact isTrue_plain (thn (ha pins s σ H _ I h) fun v s1 ⟨x,H1,I1,r1,q1⟩=>zKn pins s1 σ H1 x v Q I1 r1 q1) (he _)
theorem zC3 {x:V}(r:zBL [x] us):∃u,us=[u]/\zBy x u:=by
 cases r with
 | cons r1 r2=>cases r2;exact⟨_,rfl,r1⟩
theorem zGZ {x:V}(r:zBL [x,y] us):∃u w',us=[u,w']/\zBy x u/\zBy y w':=by
 cases r with
 | cons r1 r2=>
  cases r2 with
  | cons r3 r4=>cases r4;exact⟨_,_,rfl,r1,r3⟩
theorem zGN (hc:X.calm=true):zCg X (.builtin "min") (fun xs H Q=>∃i j,xs=[.int i,.int j]/\Q (.int (if j<i then j else i)) H):=by
 intro pins s σ H xs us Q I r h
 obtain⟨i,j,rfl,q⟩:=h
 obtain⟨u,w',rfl,⟨t,rfl⟩,⟨t',rfl⟩⟩:=zGZ r
 refine min_two_ints (I.ok.hd hc) fun h' tk k=>⟨_,H,I.kept k,?_,q⟩
 by_cases hj:j<i
 . rw[if_pos hj,if_pos hj];exact⟨_,rfl⟩
 . rw[if_neg hj,if_neg hj];exact⟨_,rfl⟩
theorem zER:zCg X (.type "int") (fun xs H Q=>(∃i,xs=[.int i]/\Q (.int i) H)\/∃k,xs=[.bl k]/\Q (.int (if k then 1 else 0)) H):=by
 intro pins s σ H xs us Q I r h
 rcases h with ⟨i,rfl,q⟩ | ⟨k,rfl,q⟩
 . obtain⟨u,rfl,t,rfl⟩:=zC3 r
   exact call_int_int ⟨.int i,H,I,⟨_,rfl⟩,q⟩
 . obtain⟨u,rfl,r1⟩:=zC3 r
   cases r1
   exact call_int_bool ⟨.int (if k then 1 else 0),H,I.tok _,⟨_,rfl⟩,q⟩
end
structure ObjM (h:Heap)(x dx C:Addr)(mA:sOV):Prop where
 obj:h.get? x=some (PySem.W.instObj C dx)
 ns:h.Ns1 dx mA
 ne:dx≠x
theorem zIp {dx:Addr}{mA:sOV}(n:h.Ns1 dx mA):∃od,h.get? dx=some od/\∀name,PySem.W.lookIn name od=some (mA name):=by
 obtain⟨o,es,ep,ho,hd,hk,_,hm⟩:=n
 refine⟨o,ho,fun name=>?_⟩
 have e:=hm name
 unfold nsFind findBy at e
 rw[<-Array.find?_toList] at e
 unfold PySem.W.lookIn
 rw[hd]
 dsimp only
 split
 . rename_i y q
   rw[q] at e
   exact congrArg some e
 . rename_i q
   rw[q] at e
   have a:es.toList.any (·.refKey)=false:=by
    rw[List.any_eq_false]
    intro y hy
    obtain⟨z,t,hkey⟩:=hk y (Array.mem_toList_iff.mp hy)
    simp[DictEntry.refKey,hkey]
   have a':¬ es.toList.any (·.refKey)=true:=by rw[a];exact zb
   rw[if_neg a']
   exact congrArg some e
theorem ObjM.look {x dx C:Addr}{mA:sOV}(I:ObjM h x dx C mA):∃od,PySem.W.InstAt h x (PySem.W.instObj C dx) C (some od)/\∀name,PySem.W.lookIn name od=some (mA name):=
 let ⟨od,ho,hl⟩:=zIp I.ns
 ⟨od,⟨I.obj,rfl,rfl,ho⟩,hl⟩
theorem zHo.some_of {o:Option Value}(r:zHo (some v) o):∃u,o=some u/\zBy v u:=by
 cases o with
 | none=>exact (show False from r).elim
 | some u=>exact⟨u,rfl,r⟩
section
variable {P:Program}{w:World}{H H':Hp}{h h':Heap}{a C dx:Addr}{fs fs':List (Str×V)}
theorem zI2 (hok:HOk P w H h)(e:H a=some (.ins C dx fs)):∃mA,ObjM h a dx C mA/\(∀f,zHo (fs.lookup f) (mA f))/\PySem.Within mA (fs.map (·.1))/\fs.length<=1000/\H dx=some (.own a):=by
 obtain⟨d,z,ne,ob,mA,n,r,q⟩:=(show zBK P w H h a (.ins C dx fs) from hok a _ e)
 exact⟨mA,⟨ob,n,ne⟩,r,q,z,d⟩
end
structure Cls (K:PySem.W.Frag)(C:Addr):Prop where
 pg:PySem.W.plainGet K C Str.empty=true
 hd:PySem.W.hasDictIn K C=true
 po:PySem.W.plainOver K C=true
 sa:PySem.W.findIn K (.ref C) "__setattr__" = some (some (.builtin "object.__setattr__"))
theorem Cls.get {C:Addr}(c:Cls K C)(f:Str):PySem.W.plainGet K C f=true:=c.pg
section
variable {X:Cx}{pins:lPO}{σ:St}{H:Hp}{s:Shared}{A:Around}{E:vSP}{Q:vSP}{c:Value}{b:Bool}
inductive zGT (K:PySem.W.Frag)(H:Hp):V->Value->Prop where
 | non:zGT K H .non (.type "NoneType")
 | bl (x:Bool):zGT K H (.bl x) (.type "bool")
 | int (i:Int):zGT K H (.int i) (.type "int")
 | str (x:Str):zGT K H (.str x) (.type "str")
 | flt (x:UInt64):zGT K H (.flt x) (.type "float")
 | lst {a:Addr}{xs:List V}(e:H a=some (.lst xs)):zGT K H (.ref a) (.type "list")
 | frz {a:Addr}{o:Obj}{xs:List V}(e:H a=some (.frz o (.lst xs))):zGT K H (.ref a) (.type "list")
 | tup {a:Addr}{xs:List V}(e:H a=some (.tup xs)):zGT K H (.ref a) (.type "tuple")
 | dK {a:Addr}{kvs:List (Key×V)}(e:H a=some (.dK kvs)):zGT K H (.ref a) (.type "dict")
 | dT {a:Addr}{kvs:List (List Key×V)}(e:H a=some (.dT kvs)):zGT K H (.ref a) (.type "dict")
 | ins {a C dx:Addr}{fs:List (Str×V)}(e:H a=some (.ins C dx fs))(cl:Cls K C)(ha:PySem.W.findIn K (.ref C) "__class__" = some (some (.builtin "object.__class__")))
  (hn:PySem.W.specialIn K (.builtin "object.__class__") "__get__" = some (some (.builtin "getset_descriptor.__get__"))) (htk:PySem.W.takesIn K (.builtin "object.__class__")=some true)
  (hm:PySem.W.mroIn K C (.type "object")=some true):zGT K H (.ref a) (.ref C)
theorem zIy {x:V}{t:Value}(I:Inv X pins σ H s)(rx:zBy x u)(ty:zGT X.K H x t)(e:PySem.W.kitOne X.K t c=some b)(h:∀tk,Q (.bool b) { s with toks:=tk }) :
 wpAny (model X.prog X.w) A (call (.builtin "isinstance") [u,c]) Q E s:=by
 cases ty with
 | non=>cases (show u=Value.none from rx);exact PySem.W.kia_one PySem.W.kitx_none I.kIn True.intro e (fun z=>nomatch z) h
 | bl y=>cases (show u=Value.bool y from rx);exact PySem.W.kia_one PySem.W.kitx_bool I.kIn True.intro e (fun z=>nomatch z) h
 | int i=>obtain⟨t,q⟩:=(show ∃t,u=Value.int i t from rx);cases q;exact PySem.W.kia_one PySem.W.kitx_int I.kIn True.intro e (fun z=>nomatch z) h
 | str y=>obtain⟨t,q⟩:=(show ∃t,u=Value.str y t from rx);cases q;exact PySem.W.kia_one PySem.W.kitx_str I.kIn True.intro e (fun z=>nomatch z) h
 | flt y=>obtain⟨t,q⟩:=(show ∃t,u=Value.float y t from rx);cases q;exact PySem.W.kia_one PySem.W.kitx_float I.kIn True.intro e (fun z=>nomatch z) h
 | @lst a xs ea=>
  cases (show u=Value.ref a from rx)
  obtain⟨_,_,n,_,h1⟩:=(show zBK X.prog X.w H s.heap a (.lst xs) from I.hok a _ ea)
  exact PySem.W.kia_one PySem.W.kitx_list I.kIn ⟨_,h1,rfl⟩ e (fun z=>nomatch z) h
 | @frz a ob xs ea=>
  cases (show u=Value.ref a from rx)
  obtain⟨_,_,_,n,_,h1⟩:=(show zBK X.prog X.w H s.heap a (.frz ob (.lst xs)) from I.hok a _ ea)
  exact PySem.W.kia_one PySem.W.kitx_list I.kIn ⟨_,h1,rfl⟩ e (fun z=>nomatch z) h
 | @tup a xs ea=>
  cases (show u=Value.ref a from rx)
  obtain⟨_,_,_,p⟩:=(show zBK X.prog X.w H s.heap a (.tup xs) from I.hok a _ ea)
  obtain⟨o,h1,h2,_⟩:=p
  exact PySem.W.kia_one PySem.W.kitx_tuple I.kIn ⟨o,h1,h2⟩ e (fun z=>nomatch z) h
 | @dK a kvs ea=>
  cases (show u=Value.ref a from rx)
  obtain⟨_,_,vs,_,p⟩:=(show zBK X.prog X.w H s.heap a (.dK kvs) from I.hok a _ ea)
  obtain⟨o,es,ep,h1,h2,_⟩:=p
  exact PySem.W.kia_one PySem.W.kitx_dict I.kIn ⟨o,h1,h2.1⟩ e (fun z=>nomatch z) h
 | @dT a kvs ea=>
  cases (show u=Value.ref a from rx)
  obtain⟨_,_,xs,_,o,es,ep,h1,h2,_⟩:=(show zBK X.prog X.w H s.heap a (.dT kvs) from I.hok a _ ea)
  exact PySem.W.kia_one PySem.W.kitx_dict I.kIn ⟨o,h1,h2.1⟩ e (fun z=>nomatch z) h
 | @ins a C dx fs ea cl ha hn htk hm=>
  cases (show u=Value.ref a from rx)
  obtain⟨mA,O,_⟩:=zI2 I.hok ea
  obtain⟨od,J,_⟩:=O.look
  exact PySem.W.kia_one (PySem.W.kitx_own (cl.get _) cl.hd ha hn htk hm) I.kIn J e (fun z=>nomatch z) h
end
structure zDM (k:Nat)(A:Around):Prop where
 hd:A.handled=none
 dp:A.depth+3*k+5<recursionLimit
 un:A.units+16*k+200<cLine
 gd:A.guards=some []
theorem zDM.mono {j k:Nat}(r:zDM k A)(h:j<=k):zDM j A:=⟨r.hd,by have:=r.dp;omega,by have:=r.un;omega,r.gd⟩
theorem zDM.deeper {k:Nat}(r:zDM (k+1) A)(env:Env):zDM k (A.deeper env):=
 ⟨r.hd,by have:=r.dp;show A.depth+1+3*k+5<_;omega,by have:=r.un;show A.units+3+16*k+200<_;omega,r.gd⟩
theorem zDM.in1 {k:Nat}(r:zDM (k+1) A):zDM k A.in1:=
 ⟨r.hd,by have:=r.dp;show A.depth+3*k+5<_;omega,by have:=r.un;show A.units+1+16*k+200<_;omega,r.gd⟩
theorem zDM.depth {k:Nat}(r:zDM k A):A.depth<recursionLimit:=by have:=r.dp;omega
theorem zDM.units {k:Nat}(r:zDM k A):A.units+64<cLine:=by have:=r.un;omega
theorem zDM.units0 {k:Nat}(r:zDM k A):A.units<cLine:=by have:=r.un;omega
noncomputable def tNil:TA:=fun _ H Q=>Q [] H
noncomputable def zLc (ta:TE)(tr:TA):TA:=fun σ H Q=>ta σ H fun x H1=>tr σ H1 fun xs H2=>Q (x::xs) H2
section
variable {X:Cx}{e:Expr}{es:List Expr}{te:TE}{t:TA}{pos:Pos}
theorem zM:PA X [] tNil:=fun _ _ _ _ H Q I h=>Calls.spliced_nil ⟨[],H,I,.nil,h⟩
theorem zE (ha:PE X e te)(hr:PA X es t)(hs:starEach (e::es) X.env=(false,eval e X.env)::starEach es X.env:=by rfl):PA X (e::es) (zLc te t):=by
 intro pos pins s σ H Q I h
 rw[hs]
 show wpAny _ _ (spliced ((false,eval e X.env)::backTo pos (starEach es X.env))) _ _ s
 refine Calls.spliced_cons (thn (ha pins s σ H _ I h) fun u s1 ⟨x,H1,I1,r1,q1⟩=>?_)
 exact thn (hr pos pins s1 σ H1 _ I1 q1) fun us s2 ⟨xs,H2,I2,r2,q2⟩=>⟨x::xs,H2,I2,.cons r1 r2,q2⟩
noncomputable def tTup (t:TA):TE:=fun σ H Q=>t σ H fun xs H1=>xs.length<=sizeLine/\∀p,H1 p=none->Q (.ref p) (upd H1 p (.tup xs))
noncomputable def tLst (t:TA):TE:=fun σ H Q=>t σ H fun xs H1=>xs.length<=sizeLine/\∀p,H1 p=none->Q (.ref p) (upd H1 p (.lst xs))
theorem zBQ {x1} (h:PA X es t):PE X (.Tuple es x1 pos) (tTup t):=by
 intro pins s σ H Q I hq
 refine wpAny_Tuple_spliced (thn (h pos pins s σ H _ I hq) fun us s1 ⟨xs,H1,I1,r,z,q⟩=>⟨by rw[<-r.length];exact z,?_⟩)
 have hf:H1 s1.heap.objs.size=none:=I1.hok.fresh (zI _)
 refine⟨.ref s1.heap.objs.size,upd H1 s1.heap.objs.size (.tup xs),I1.laid (t':=s1.toks) (fun b u e=>zG _ e) (zI _) ?_,rfl,q _ hf⟩
 exact⟨⟨z,_,zL _ rfl,rfl⟩,us,r,⟨_,zL _ rfl,rfl,_,rfl⟩⟩
theorem zBh (h:PA X es t):PE X (.List es pos) (tLst t):=by
 intro pins s σ H Q I hq
 refine wpAny_List_spliced (thn (h pos pins s σ H _ I hq) fun us s1 ⟨xs,H1,I1,r,z,q⟩=>⟨by rw[<-r.length];exact z,?_⟩)
 have hf:H1 s1.heap.objs.size=none:=I1.hok.fresh (zI _)
 refine⟨.ref s1.heap.objs.size,upd H1 s1.heap.objs.size (.lst xs),I1.laid (t':=s1.toks) (fun b u e=>zG _ e) (zI _) ?_,rfl,q _ hf⟩
 exact⟨z,us,0,r,zL _ rfl⟩
end
noncomputable abbrev Sp:=List V->Hp->VK->XK->Prop
noncomputable abbrev CXT:=List Env->Hp->Shared->XK->Value->Shared->Prop
structure Env0 (P:Program)(w:World)(K:PySem.W.Frag)(mg:sOV)(base:Heap)(A:Around)(outer:List Env)(s:Shared)(H:Hp):Prop where
 frames:A.frames=some outer
 mod:Mod K mg base
 bs:∀b o,base.get? b=some o->s.heap.get? b=some o/\H b=none
 bsz:base.objs.size<=s.heap.objs.size
 funs:s.heap.FunFrames base outer
 frf:∀b∈frs outer,H b=none
 hok:HOk P w H s.heap
 bare:AllBare s.gens
noncomputable def CE (outer:List Env)(P:Program)(w:World)(H:Hp)(s:Shared)(Q:VK)(u:Value)(s':Shared):Prop:=
 ∃v H',s'.os=s.os/\AllBare s'.gens/\Un (frs outer) [] H H' s.heap s'.heap/\HOk P w H' s'.heap/\zBy v u/\Q v H'
noncomputable def CR (CX:CXT)(outer:List Env)(P:Program)(w:World)(H:Hp)(s:Shared)(Q:VK)(E:XK)(r:Result)(s':Shared):Prop:=
 match r with
 | .ok (.ret u)=>CE outer P w H s Q u s'
 | .ok _=>False
 | .error e=>CX outer H s E e s'
structure zAg (P:Program)(w:World)(K:PySem.W.Frag)(mg:sOV)(base:Heap)(CX:CXT)(k:Nat)(f:Addr)(fd:FuncData)(ps:List Str)(sp:Sp):Prop where
 len:∀vs H Q E,sp vs H Q E->vs.length=ps.length
 run:∀(A:Around)(outer:List Env)(s:Shared)(H:Hp)(args:Args)(us:List Value)(vs:List V)(Q:VK)(E:XK),zDM k A->Env0 P w K mg base A outer s H->BindsTo s fd args (ps.zip us)->zBL vs us->sp vs H Q E ->
  codeAny (model P w) A (.call (.ref f) args) (CR CX outer P w H s Q E) s
theorem zAg.mono {P:Program}{w:World}{K:PySem.W.Frag}{mg:sOV}{base:Heap}{CX:CXT}{j k:Nat}{f:Addr}{fd:FuncData}{ps:List Str}{sp:Sp}(F:zAg P w K mg base CX j f fd ps sp)(h:j<=k) :
 zAg P w K mg base CX k f fd ps sp:=⟨F.len,fun A outer s H args us vs Q E hr=>F.run A outer s H args us vs Q E (hr.mono h)⟩
variable {base:Heap}{CX:CXT}{ps:List Str}
theorem zAg.imp {mg:sOV}{k:Nat}{f:Addr}{fd:FuncData}{sp sp':Sp}(F:zAg P w K mg base CX k f fd ps sp)
 (h:∀vs H Q E,sp' vs H Q E->sp vs H Q E):zAg P w K mg base CX k f fd ps sp':=
 ⟨fun vs H Q E q=>F.len vs H Q E (h _ _ _ _ q),fun A outer s H args us vs Q E hr he hb hv hs=>F.run A outer s H args us vs Q E hr he hb hv (h _ _ _ _ hs)⟩
section
variable {X:Cx}{pins:lPO}{σ:St}{H:Hp}{s s':Shared}
theorem Inv.env0 (I:Inv X pins σ H s):Env0 X.prog X.w X.K X.mg X.base X.A X.stack s H:=
 ⟨I.ok.frames,I.ok.mod,I.bs,zAP I.ok.bsz I.sz,I.stack,I.stkFree,I.hok,I.bare⟩
theorem Inv.after {Q:VK}(I:Inv X pins σ H s)(h:CE X.stack X.prog X.w H s Q u s'):EP X pins σ Q u s':=by
 obtain⟨v,H',os,bare,un,hok,r,q⟩:=h
 obtain⟨hh,g,d,t,os'⟩:=s'
 obtain rfl:os'=s.os:=os
 exact⟨v,H',I.call (h':=hh) (g':=g) (d':=d) (t':=t) (ch:=[]) un hok bare (fun b z=>absurd z (by simp)),r,q⟩
end
noncomputable def tCall (sp:Sp)(dvs:List V)(E:XK)(t:TA):TE:=fun σ H Q=>t σ H fun vs H1=>sp (vs++dvs) H1 Q E
noncomputable def zAU (K:PySem.W.Frag)(fd:FuncData)(ps:List Str)(ds:List Value):Prop:=
 ∀(s:Shared)(us:List Value),K.In s.heap->(us++ds).length=ps.length->BindsTo s fd ⟨us,[]⟩ (ps.zip (us++ds))
theorem zAU.all {fd:FuncData}(h:∀us:List Value,us.length=ps.length->bindArgs fd ⟨us,[]⟩=pure (ps.zip us)):zAU K fd ps []:=fun s us _ hl=>by
 rw[zt] at hl ⊢
 exact .of_eq (h us hl)
noncomputable def zJW (CX:CXT)(X:Cx)(E:XK):Prop:=∀(pins:lPO)(σ:St)(H:Hp)(s:Shared)(e:Value)(s':Shared),Inv X pins σ H s->CX X.stack H s E e s'->X.xe e s'
section
variable {X:Cx}{CX:CXT}{k:Nat}{f C:Addr}{fd:FuncData}{ps:List Str}{sp:Sp}{dvs:List V}{ds:List Value}{E:XK}{x m:Str}{p pos apos:Pos}{e o:Expr}{es:List Expr}{ta:TE}{t:TA}
theorem run_fn {pins:lPO}{Q:VK}{vs:List V}(F:zAg X.prog X.w X.K X.mg X.base CX k f fd ps sp)(hr:zDM k X.A)(hb:zAU X.K fd ps ds)(hd:zBL dvs ds)(hx:zJW CX X E)
 (I:Inv X pins σ H s)(r:zBL vs us)(h:sp (vs++dvs) H Q E):wpAny (model X.prog X.w) X.A (call (.ref f) us) (EP X pins σ Q) X.xe s:=by
 have r2:zBL (vs++dvs) (us++ds):=r.append hd
 have hl:(us++ds).length=ps.length:=by rw[<-r2.length];exact F.len _ _ _ _ h
 refine zBb (codeAny_mono (F.run X.A X.stack s H ⟨us,[]⟩ (us++ds) (vs++dvs) Q E hr I.env0 (hb s us I.kIn hl) r2 h) fun r s' hq=>?_)
 cases r with
 | error e=>exact hx pins σ H s e s' I hq
 | ok fl=>
  cases fl with
  | ret u=>exact I.after hq
  | next=>exact False.elim hq
  | brk=>exact False.elim hq
  | cont=>exact False.elim hq
theorem zy (F:zAg X.prog X.w X.K X.mg X.base CX k f fd ps sp)(hr:zDM k X.A)(hg:Gl X x)(hm:X.mg x=some (.ref f))(hk:PySem.W.keepIn X.K (.ref f)=true)(hb:zAU X.K fd ps ds)(hd:zBL dvs ds)(hx:zJW CX X E)
 (ha:PA X (e::es) t)(hdb:(x==("__debug__" : Str))=false:=by decide) (he:starEach (e::es) X.env=(false,eval e X.env)::starEach es X.env:=by rfl)(hpl:(backTo pos (starEach es X.env)).any (·.1)=false:=by rfl) :
 PE X (.Call (.Name x p) (e::es) [] pos) (tCall sp dvs E t):=by
 intro pins s σ H Q I h
 refine zBM (zEI I hg hm ?_ hdb)
 refine PySem.W.callWith_K (h₀:=X.base) I.ok.mod.kin hk (thn (ha pos pins s σ H _ I h) fun us s1 ⟨vs,H1,I1,r,q⟩=>⟨I1.kIn,?_⟩) he hpl
 exact run_fn F hr hb hd hx I1 r q
end
structure zAO (N P:List Str)(sc:Scope):Prop where
 kind:sc.kind = .function
 co:sc.isCoroutine=false
 gen:sc.isGenerator=false
 nd:N.Nodup
 pre:N.take P.length=P
 par:∀x∈P,sc.names.lookup x=some .local\/sc.names.lookup x=some .cell
 nofree:∀y∈sc.names,y.2 ≠ .free
theorem fS0 {P:List Str}{sc:Scope}(a:sc.kind = .function:=by rfl)(b:sc.isCoroutine=false:=by rfl)(c:sc.isGenerator=false:=by rfl)(d:N.Nodup:=by decide +kernel)(e:N.take P.length=P:=by rfl)(f:∀x∈P,sc.names.lookup x=some .local\/sc.names.lookup x=some .cell:=by decide +kernel)(g:∀y∈sc.names,y.2 ≠ .free:=by decide +kernel):zAO N P sc:=⟨a,b,c,d,e,f,g⟩
theorem zGP {kindOf:Str->Option NameKind}{x:Str}:∀{binds:List (Str×Value)}{m:sOV},(∀v,(x,v)∉binds)->bindL kindOf binds m x=m x
 | [],_,_=>rfl
 | (n,v)::r,m,h=>by
  unfold bindL
  rw[zGP fun w hw=>h w (zc _ hw)]
  split
  . have:x≠n:=by rintro rfl;exact h v zZ
    simp[this]
  . rfl
theorem zGR {kindOf:Str->Option NameKind}{x:Str}:∀{binds:List (Str×Value)}{m:sOV},(∀v,(x,v)∉binds)->bindC kindOf binds m x=m x
 | [],_,_=>rfl
 | (n,v)::r,m,h=>by
  unfold bindC
  rw[zGR fun w hw=>h w (zc _ hw)]
  split
  . rfl
  . have:x≠n:=by rintro rfl;exact h v zZ
    simp[this]
theorem zGQ {kindOf:Str->Option NameKind}{x:Str}{v:Value}:∀{P:List Str}{vs:List Value}{i:Nat}{m:sOV},P.Nodup->P[i]? = some x->vs[i]? = some v->kindOf x=some .local ->
 bindL kindOf (P.zip vs) m x=some v
 | [],_,_,_,_,h,_,_=>by simp at h
 | _::_,[],_,_,_,_,h,_=>by simp at h
 | p::P,w::vs,0,m,nd,h1,h2,hk=>by
  simp at h1 h2;subst h1;subst h2
  show bindL kindOf ((p,w)::P.zip vs) m p=_
  unfold bindL
  rw[zGP fun v hv=>(zAk.mp nd).1 (List.of_mem_zip hv).1,if_pos hk]
  simp
 | p::P,w::vs,i+1,m,nd,h1,h2,hk=>by
  show bindL kindOf ((p,w)::P.zip vs) m x=_
  unfold bindL
  exact zGQ (i:=i) (zAk.mp nd).2 (by simpa using h1) (by simpa using h2) hk
theorem zGS {kindOf:Str->Option NameKind}{x:Str}{v:Value}:∀{P:List Str}{vs:List Value}{i:Nat}{m:sOV},P.Nodup->P[i]? = some x->vs[i]? = some v->kindOf x≠some .local ->
 bindC kindOf (P.zip vs) m x=some v
 | [],_,_,_,_,h,_,_=>by simp at h
 | _::_,[],_,_,_,_,h,_=>by simp at h
 | p::P,w::vs,0,m,nd,h1,h2,hk=>by
  simp at h1 h2;subst h1;subst h2
  show bindC kindOf ((p,w)::P.zip vs) m p=_
  unfold bindC
  rw[zGR fun v hv=>(zAk.mp nd).1 (List.of_mem_zip hv).1,if_neg hk]
  simp
 | p::P,w::vs,i+1,m,nd,h1,h2,hk=>by
  show bindC kindOf ((p,w)::P.zip vs) m x=_
  unfold bindC
  exact zGS (i:=i) (zAk.mp nd).2 (by simpa using h1) (by simpa using h2) hk
noncomputable def start (N:List Str)(vs:List V):St:=vs.map some++List.replicate (N.length-vs.length) none
noncomputable def zJH (CX:CXT)(P:Program)(w:World)(K:PySem.W.Frag)(mg:sOV)(base:Heap)(N:List Str)(qual:Str)(scope:Scope)(f:Addr)(cd:Value)(A:Around)(outer:List Env)(s:Shared)(H:Hp)(E:XK):Cx where
 prog:=P
 w:=w
 K:=K
 mg:=mg
 base:=base
 A:=A.deeper (envOfC qual scope s.heap.objs.size f cd)
 N:=N
 s₀:=s
 H₀:=H
 env:=envOfC qual scope s.heap.objs.size f cd
 outer:=outer
 stack:=envOfC qual scope s.heap.objs.size f cd::outer
 ex:=[]
 calm:=true
 fn:=fun _=>true
 pn:=[]
 xe:=fun e s'=>wpAny (model P w) (A.deeper (envOfC qual scope s.heap.objs.size f cd)) (leaving (envOfC qual scope s.heap.objs.size f cd) e) (fun _ s''=>CX outer H s E e s'') (fun e' s''=>CX outer H s E e' s'') s'
theorem zHN {sc:Scope}(h:sc.names.lookup x=some .cell):∃c,(cellsFrom n sc.names []).lookup x=some c:=by
 have q:=PySem.W.cellsFrom_some sc.names n [] (.inl h)
 exact zBO.mp q
theorem zIz {mg:sOV}{qual:Str}{scope:Scope}{f:Addr}{cd:Value}{outer:List Env}{s1:Shared}{E:XK}{vs:List V}
 (S:zAO N ps scope)(hd:A.handled=none)(e0:Env0 P w K mg base A outer s H)(hl:vs.length=ps.length)(r:zBL vs us)
 (x:InCallC s s.heap.objs.size (bindL (envOfC qual scope s.heap.objs.size f cd).kindOf (ps.zip us) fun _=>none) (cellsFrom (s.heap.objs.size+1) scope.names []) (bindC (envOfC qual scope s.heap.objs.size f cd).kindOf (ps.zip us) fun _=>none) s1) :
 Inv (zJH CX P w K mg base N qual scope f cd A outer s H E) [] (start N vs) H s1:=by
 have hpl:ps.length<=N.length:=by have:=congrArg List.length S.pre;rw[zw] at this;omega
 obtain⟨h1,tk,rfl,hk⟩:=x.done
 have noA:∀b:Addr,b∉(zJH CX P w K mg base N qual scope f cd A outer s H E).ex:=fun b z=>absurd (show b∈([]:List Addr) from z) (by simp)
 refine⟨⟨e0.mod,S.kind,rfl,rfl,zI _,fun y z c h1 h2=>?_,fun y hy=>?_,fun y c _ h=>?_,fun _=>hd,Around.frames_deeper e0.frames,.inr ⟨rfl,rfl⟩,fun b z=>absurd z (noA b),e0.bs,e0.bsz,fun b _ _=>noA b,fun b z=>absurd z (noA b),e0.funs,e0.frf⟩,
  rfl,e0.bare,Un.kept hk,⟨_,x.toInCall.ns,fun i y v h1 h2 h3=>?_⟩,fun y c h=>⟨_,x.cell y c h⟩,e0.hok.fresh (zI _),fun y c h=>?_,fun p hp=>absurd (show p∈([]:lPO) from hp) (by simp),e0.hok.kept hk,?_⟩
 . exact name_of_addr x.apart (PySem.mem_of_lookup h1) (PySem.mem_of_lookup h2)
 . have hy:scope.names.lookup y=some .cell\/scope.names.lookup y=some .free:=hy
   rcases hy with hy | hy
   . exact zHN hy
   . exact absurd rfl (S.nofree _ (PySem.mem_of_lookup hy))
 . exact zAr (x.above y c (PySem.mem_of_lookup h))
 . have hi:i<vs.length:=by
    unfold start at h2
    by_cases hi:i<vs.length
    . exact hi
    . rw[za (by simpa using hi)] at h2
      rw[zBX] at h2
      split at h2 <;> cases h2
   have ha:vs[i]? = some v:=by
    unfold start at h2
    rw[zh (by simpa using hi),zP] at h2
    cases e:vs[i]? with
    | none=>rw[e] at h2;cases h2
    | some a=>rw[e] at h2;cases h2;rfl
   obtain⟨u,hu,rv⟩:=r.get ha
   have hp:ps[i]? = some y:=by
    rw[<-S.pre,List.getElem?_take_of_lt (by omega)];exact h1
   have ndP:ps.Nodup:=by rw[<-S.pre];exact S.nd.sublist (List.take_sublist _ _)
   refine⟨u,rv,?_⟩
   rcases S.par y (zU hp) with k | k
   . exact .inl ⟨k,zGQ ndP hp hu k⟩
   . obtain⟨c,e⟩:=zHN (n:=s.heap.objs.size+1) k
     refine .inr ⟨.inl k,c,e,?_⟩
     have q:=x.cell y c e
     rw[zGS ndP hp hu (by show scope.names.lookup y≠_;rw[k];decide)] at q
     exact q
 . exact e0.hok.fresh (zAr (x.above y c (PySem.mem_of_lookup h)))
 . unfold start
   show _=N.length
   rw[zO,zB,zAY]
   omega
theorem zMi {mg:sOV}{k:Nat}{f:Addr}{name qual:Str}{params:Arguments}{scope:Scope}{dV kV doc pm cdv ct oc:Value}{an od:Option Addr}
 {osl:Array (Option Value)}{sp:Sp}(lk:K.lookup f=some ⟨oc,od,.func (PySem.W.fnOf name qual params body scope dV kV doc pm an cdv ct),osl⟩)(hcd:PySem.W.codeIn K cdv qual=true)(S:zAO N ps scope)
 (len:∀vs H Q E,sp vs H Q E->vs.length=ps.length)
 (hbody:∀(A:Around)(outer:List Env)(s:Shared)(H:Hp)(vs:List V)(Q:VK)(E:XK),zDM k (A.deeper (envOfC qual scope s.heap.objs.size f cdv))->sp vs H Q E ->
  ∃t,PSs (zJH CX P w K mg base N qual scope f cdv A outer s H E) body t/\t { nx:=fun _ H'=>Q .non H',rt:=Q } (start N vs) H) :
 zAg P w K mg base CX (k+1) f (PySem.W.fnOf name qual params body scope dV kV doc pm an cdv ct) ps sp:=by
 refine⟨len,fun A outer s H args us vs Q E hr e0 hb r hsp=>?_⟩
 have hl:=len _ _ _ _ hsp
 have KX:K.In s.heap:=e0.mod.kin.keeps fun b o e=>(e0.bs b o e).1
 have lim:s.heap.NoLimit:=e0.mod.nolimit.keeps fun b o e=>(e0.bs b o e).1
 have hkind:∀y∈ps.zip us,scope.names.lookup y.1=some .local\/(scope.names.lookup y.1=some .cell/\((cellsFrom (s.heap.objs.size+1) scope.names []).lookup y.1).isSome=true):=fun ⟨n,v⟩ hy=>by
  rcases S.par n (List.of_mem_zip hy).1 with q | q
  . exact .inl q
  . exact .inr ⟨q,PySem.W.cellsFrom_some _ _ _ (.inl q)⟩
 refine codeAny_call_function hr.depth (KX _ _ lk) rfl S.co S.gen rfl (PySem.W.codeRec_of KX hcd) (hb _ _ _ _ ?_)
 refine wpAny_newFunctionEnv_cells S.kind hkind fun env he s1 x=>?_
 subst he
 refine⟨lim.keeps x.toInCall.keep,codeAny_func ?_⟩
 obtain⟨t,ht,hq⟩:=hbody A outer s H vs Q E (hr.deeper _) hsp
 have I:Inv (zJH CX P w K mg base N qual scope f cdv A outer s H E) [] (start N vs) H s1:=zIz S hr.hd e0 hl r x
 refine zAz (ht [] s1 (start N vs) H _ I hq) (fun fl s' hs=>?_) fun e s' hs=>hs
 have fin:∀{σ':St}{H':Hp}{v:V}{u:Value},Inv (zJH CX P w K mg base N qual scope f cdv A outer s H E) [] σ' H' s'->zBy v u->Q v H'->CE outer P w H s Q u s':=
  fun {σ' H' v u} J rv q=>⟨v,H',J.os,J.bare,J.base,J.hok,rv,q⟩
 cases fl with
 | ret u=>
  obtain⟨v,σ',H',J,rv,q⟩:=hs
  exact fin J rv q
 | next=>
  obtain⟨σ',H',J,q⟩:=hs
  exact fin (v:=V.non) (u:=Value.none) J rfl q
 | brk=>
  obtain⟨_,_,_,q⟩:=hs
  exact False.elim q
 | cont=>
  obtain⟨_,_,_,q⟩:=hs
  exact False.elim q
section
variable {X:Cx}{x:Str}{p pos:Pos}{e:Expr}{es:List Expr}{t:TA}{id T:String}{r:List V->Hp->VK->Prop}
noncomputable def tCB (r:List V->Hp->VK->Prop)(t:TA):TE:=fun σ H Q=>t σ H fun vs H1=>r vs H1 Q
theorem zj (hc:zCg X (.builtin id) r)(hm:X.mg x=none)(ha:PA X (e::es) t)(hg:Gl X x:=by rfl)(hv:bootBuiltins x=some (.builtin id):=by decide +kernel)(hn:x ≠ "__name__" := by decide) (hdb:(x==("__debug__" : Str))=false:=by decide)
 (he:starEach (e::es) X.env=(false,eval e X.env)::starEach es X.env:=by rfl)(hpl:(backTo pos (starEach es X.env)).any (·.1)=false:=by rfl):PE X (.Call (.Name x p) (e::es) [] pos) (tCB r t):=by
 intro pins s σ H Q I h
 refine zBM (zCp I hg hm hv ?_ hn hdb)
 exact PyProof.Rows.callWith_builtin1 (thn (ha pos pins s σ H _ I h) fun us s1 ⟨vs,H1,I1,r1,q1⟩=>hc pins s1 σ H1 vs us Q I1 r1 q1) he hpl
theorem zAc (hc:zCg X (.type T) r)(hm:X.mg x=none)(ha:PA X (e::es) t)(hg:Gl X x:=by rfl)(hv:bootBuiltins x=some (.type T):=by decide +kernel)(hn:x ≠ "__name__" := by decide) (hdb:(x==("__debug__" : Str))=false:=by decide)
 (he:starEach (e::es) X.env=(false,eval e X.env)::starEach es X.env:=by rfl)(hpl:(backTo pos (starEach es X.env)).any (·.1)=false:=by rfl):PE X (.Call (.Name x p) (e::es) [] pos) (tCB r t):=by
 intro pins s σ H Q I h
 refine zBM (zCp I hg hm hv ?_ hn hdb)
 exact PyProof.Rows.callWith_type1 (thn (ha pos pins s σ H _ I h) fun us s1 ⟨vs,H1,I1,r1,q1⟩=>hc pins s1 σ H1 vs us Q I1 r1 q1) he hpl
end
section
variable {κ:Type} [DecidableEq κ]
noncomputable def zCu (kvs:List (κ×V))(k:κ):Option V:=(kvs.find? fun kv=>decide (kv.1=k)).map (·.2)
noncomputable def zDl (kvs:List (κ×V))(k:κ)(v:V):List (κ×V):=
 if (kvs.any fun kv=>decide (kv.1=k))=true then kvs.map (fun kv=>if kv.1=k then (kv.1,v) else kv) else kvs++[(k,v)]
noncomputable def zCV (kvs:List (κ×V))(k:κ):List (κ×V):=kvs.filter fun kv=>decide (kv.1≠k)
theorem zJk {k:κ}:zCu ([]:List (κ×V)) k=none:=rfl
theorem zBk {p:κ×V}{r:List (κ×V)}{k:κ}(e:p.1=k):zCu (p::r) k=some p.2:=by simp[zCu,List.find?_cons,e]
theorem zBd {p:κ×V}{r:List (κ×V)}{k:κ}(e:¬ p.1=k):zCu (p::r) k=zCu r k:=by simp[zCu,List.find?_cons,e]
theorem zCW (k:κ):∀kvs:List (κ×V),(kvs.any fun kv=>decide (kv.1=k))=(zCu kvs k).isSome
 | []=>rfl
 | p::r=>by
  rw[List.any_cons]
  by_cases e:p.1=k
  . simp only[zBk e,zW e,Bool.true_or,Option.isSome_some]
  . rw[zBd e,zu e,Bool.false_or];exact zCW k r
theorem zG1 (k j:κ)(y:V):∀kvs:List (κ×V),zCu (kvs.map fun kv=>if kv.1=k then (kv.1,y) else kv) j=(zCu kvs j).map fun x=>if j=k then y else x
 | []=>rfl
 | p::r=>by
  have ih:=zG1 k j y r
  rw[zAX]
  by_cases h:p.1=k
  . rw[if_pos h]
    by_cases e:p.1=j
    . rw[zBk (p:=(p.1,y)) e,zBk e,zAp,if_pos (e.symm.trans h)]
    . rw[zBd (p:=(p.1,y)) e,zBd e,ih]
  . rw[if_neg h]
    by_cases e:p.1=j
    . rw[zBk (p:=p) e,zBk e,zAp,if_neg (fun z=>h (e.trans z))]
    . rw[zBd (p:=p) e,zBd e,ih]
theorem zFc (k j:κ)(y:V):∀kvs:List (κ×V),zCu kvs k=none->zCu (kvs++[(k,y)]) j=if j=k then some y else zCu kvs j
 | [],_=>by
  by_cases e:k=j
  . rw[if_pos e.symm];exact zBk (p:=(k,y)) e
  . rw[if_neg (fun z=>e z.symm)];exact zBd (p:=(k,y)) e
 | p::r,hn=>by
  rw[List.cons_append]
  have hk:¬ p.1=k:=fun z=>by rw[zBk z] at hn;cases hn
  rw[zBd hk] at hn
  have ih:=zFc k j y r hn
  by_cases e:p.1=j
  . rw[zBk e,zBk e,if_neg (fun z=>hk (e.trans z))]
  . rw[zBd e,zBd e,ih]
theorem zJj (kvs:List (κ×V))(k j:κ)(y:V):zCu (zDl kvs k y) j=if j=k then some y else zCu kvs j:=by
 unfold zDl
 by_cases a:(kvs.any fun kv=>decide (kv.1=k))=true
 . rw[if_pos a,zG1]
   rw[zCW] at a
   by_cases e:j=k
   . obtain⟨x,hx⟩:=zBO.mp a
     rw[if_pos e,e,hx,zAp,if_pos rfl]
   . rw[if_neg e]
     cases zCu kvs j with
     | none=>rfl
     | some x=>rw[zAp,if_neg e]
 . rw[if_neg a]
   refine zFc k j y kvs ?_
   rw[zCW] at a
   cases q:zCu kvs k with
   | none=>rfl
   | some x=>rw[q] at a;exact (a rfl).elim
theorem zC9 (kvs:List (κ×V))(k:κ)(v:V):(zDl kvs k v).length<=kvs.length+1:=by
 unfold zDl
 split
 . rw[zB];omega
 . rw[zO,zn,List.length_nil];omega
theorem zJ1 {kvs:List (κ×V)}{k:κ}(v:V)(h:zCu kvs k=none):zDl kvs k v=kvs++[(k,v)]:=by
 unfold zDl
 rw[zCW,h]
 exact if_neg (by decide)
theorem zHo.isSome_eq {o:Option V}{u:Option Value}(r:zHo o u):o.isSome=u.isSome:=by
 cases o with
 | none=>cases u with
  | none=>rfl
  | some _=>exact (show False from r).elim
 | some _=>cases u with
  | none=>exact (show False from r).elim
  | some _=>rfl
theorem zHo.getD {o:Option V}{u:Option Value}{d:V}{d':Value}(r:zHo o u)(rd:zBy d d'):zBy (o.getD d) (u.getD d'):=by
 cases o with
 | none=>cases u with
  | none=>exact rd
  | some _=>exact (show False from r).elim
 | some _=>cases u with
  | none=>exact (show False from r).elim
  | some _=>exact r
theorem KV.val {kvs:List (κ×V)}{vs:List (κ×Value)}(r:KV kvs vs)(k:κ):zHo (zCu kvs k) (valueAt vs k):=by
 unfold KV at r
 induction r with
 | nil=>exact True.intro
 | @cons p q ps qs h t ih=>
  obtain⟨h1,h2⟩:=h
  by_cases e:p.1=k
  . have e':q.1=k:=h1.symm.trans e
    have b:valueAt (q::qs) k=some q.2:=by simp[valueAt,List.find?_cons,e']
    rw[zBk e,b];exact h2
  . have e':¬ q.1=k:=fun z=>e (h1.trans z)
    have b:valueAt (q::qs) k=valueAt qs k:=by simp[valueAt,List.find?_cons,e']
    rw[zBd e,b];exact ih
theorem KV.any {kvs:List (κ×V)}{vs:List (κ×Value)}(r:KV kvs vs)(k:κ):(kvs.any fun kv=>decide (kv.1=k))=vs.any fun kv=>decide (kv.1=k):=by
 unfold KV at r
 induction r with
 | nil=>rfl
 | cons h t ih=>rw[List.any_cons,List.any_cons,ih,h.1]
theorem KV.repl {kvs:List (κ×V)}{vs:List (κ×Value)}(r:KV kvs vs)(k:κ)(ry:zBy y u) :
 KV (kvs.map fun kv=>if kv.1=k then (kv.1,y) else kv) (vs.map fun kv=>if kv.1=k then (kv.1,u) else kv):=by
 unfold KV at r ⊢
 induction r with
 | nil=>exact .nil
 | @cons p q ps qs h t ih=>
  rw[zAX,zAX]
  refine .cons ?_ ih
  obtain⟨h1,h2⟩:=h
  by_cases e:p.1=k
  . rw[if_pos e,if_pos (h1.symm.trans e)];exact⟨h1,ry⟩
  . rw[if_neg e,if_neg (fun z=>e (h1.trans z))];exact⟨h1,h2⟩
theorem KV.put {kvs:List (κ×V)}{vs:List (κ×Value)}(r:KV kvs vs)(k:κ)(ry:zBy y u):KV (zDl kvs k y) (stored vs k u):=by
 unfold zDl stored
 rw[r.any k]
 by_cases e:(vs.any fun kv=>decide (kv.1=k))=true
 . rw[if_pos e,if_pos e];exact r.repl k ry
 . rw[if_neg e,if_neg e];exact Paired.snoc r ⟨rfl,ry⟩
theorem KV.drop {kvs:List (κ×V)}{vs:List (κ×Value)}(r:KV kvs vs)(k:κ):KV (zCV kvs k) (without vs k):=by
 unfold KV at r ⊢
 unfold zCV without
 induction r with
 | nil=>exact .nil
 | @cons p q ps qs h t ih=>
  obtain⟨h1,h2⟩:=h
  rw[zB6,zB6]
  by_cases e:p.1=k
  . have a:¬ decide (p.1≠k)=true:=by simp[e]
    have b:¬ decide (q.1≠k)=true:=by simp[h1.symm.trans e]
    rw[if_neg a,if_neg b];exact ih
  . have e':¬ q.1=k:=fun z=>e (h1.trans z)
    have a:decide (p.1≠k)=true:=by simp[e]
    have b:decide (q.1≠k)=true:=by simp[e']
    rw[if_pos a,if_pos b];exact .cons ⟨h1,h2⟩ ih
theorem KV.length {kvs:List (κ×V)}{vs:List (κ×Value)}(r:KV kvs vs):kvs.length=vs.length:=Paired.length r
theorem zKc (kvs:List (κ×V))(k:κ):(zCV kvs k).length<=kvs.length:=zo _ _
end
theorem zHf {k:Key}(r:zBy (kV k) u):(zBN P w).is k u=true:=by
 cases k with
 | inl i=>obtain⟨t,e⟩:=(show ∃t,u=Value.int i t from r);subst e;exact zGm P w i t
 | inr x=>obtain⟨t,e⟩:=(show ∃t,u=Value.str x t from r);subst e;exact zGl P w x t
theorem zF5 {P:Program}{w:World}:∀{ks:List Key}{us:List Value},zBL (ks.map kV) us->ItemsAre (zBN P w) ks us
 | [],_,r=>by rw[List.map_nil] at r;cases r;exact .nil
 | k::ks,_,r=>by
  rw[zAX] at r
  cases r with
  | cons h t=>exact .cons (zHf h) (zF5 t)
noncomputable abbrev KT (H:Hp):List (List Key×V)->List (List Key×Addr×Value)->Prop:=Paired fun p q=>p.1=q.1/\H q.2.1=some (.tup (p.1.map kV))/\zBy p.2 q.2.2
variable {xs:List (List Key×Addr×Value)}
theorem KT.val {kvs:List (List Key×V)}(r:KT H kvs xs)(k:List Key):zHo (zCu kvs k) ((atKey xs k).map (·.2)):=by
 induction r with
 | nil=>exact True.intro
 | @cons p q ps qs h t ih=>
  obtain⟨h1,_,h2⟩:=h
  by_cases e:p.1=k
  . have e':q.1=k:=h1.symm.trans e
    have b:atKey (q::qs) k=some q.2:=by simp[atKey,List.find?_cons,e']
    rw[zBk e,b];exact h2
  . have e':¬ q.1=k:=fun z=>e (h1.trans z)
    have b:atKey (q::qs) k=atKey qs k:=by simp[atKey,List.find?_cons,e']
    rw[zBd e,b];exact ih
theorem KT.repl {kvs:List (List Key×V)}(r:KT H kvs xs)(k:List Key)(ry:zBy y u) :
 KT H (kvs.map fun kv=>if kv.1=k then (kv.1,y) else kv) (xs.map (putAt k u)):=by
 induction r with
 | nil=>exact .nil
 | @cons p q ps qs h t ih=>
  rw[zAX,zAX]
  refine .cons ?_ ih
  obtain⟨h1,h2,h3⟩:=h
  unfold putAt
  by_cases e:p.1=k
  . rw[if_pos e,if_pos (h1.symm.trans e)];exact⟨h1,h2,ry⟩
  . rw[if_neg e,if_neg (fun z=>e (h1.trans z))];exact⟨h1,h2,h3⟩
theorem KT.put {kvs:List (List Key×V)}(r:KT H kvs xs)(k:List Key)(hb:H b=some (.tup (k.map kV)))(ry:zBy y u) :
 KT H (zDl kvs k y) (storedH xs k b u):=by
 have e:(kvs.any fun kv=>decide (kv.1=k))=(atKey xs k).isSome:=by
  rw[zCW,(r.val k).isSome_eq,Option.isSome_map]
 unfold zDl storedH
 rw[e]
 by_cases q:(atKey xs k).isSome=true
 . rw[if_pos q,if_pos q];exact r.repl k ry
 . rw[if_neg q,if_neg q];exact Paired.snoc r ⟨rfl,hb,ry⟩
theorem KT.keeps {kvs:List (List Key×V)}(r:KT H kvs xs)(ht:∀b ys,H b=some (.tup ys)->H' b=some (.tup ys)):KT H' kvs xs:=
 Paired.mapP r fun _ _ z=>⟨z.1,ht _ _ z.2.1,z.2.2⟩
section
variable {P:Program}{w:World}{H:Hp}{h:Heap}{a:Addr}
theorem rd_of {u:HO}(ok:HOk P w H h)(e:Rd H a u):zBK P w H h a u:=e.ok ok
theorem zMl {kvs:List (Key×V)}(ok:HOk P w H h)(e:Rd H a (.dK kvs)):kvs.length<=sizeLine/\(a==sysModules)=false/\∃vs,KV kvs vs/\h.DictOf (zBN P w) a vs:=
 show zBK P w H h a (.dK kvs) from rd_of ok e
theorem zJB {kvs:List (Key×V)}(ok:HOk P w H h)(e:H a=some (.dK kvs)):kvs.length<=sizeLine/\(a==sysModules)=false/\∃vs,KV kvs vs/\h.DictOf (zBN P w) a vs:=zMl ok (.inl e)
theorem zIt {ks:List Key}(ok:HOk P w H h)(e:H a=some (.tup (ks.map kV))):(tupleKind (zBN P w)).is h ks a:=by
 obtain⟨_,its,r,o,h1,h2,n,h3⟩:=(show zBK P w H h a (.tup (ks.map kV)) from ok a _ e)
 exact⟨o,its.toArray,n,h1,h2,h3,by simpa using zF5 r⟩
theorem zMk {kvs:List (List Key×V)}(ok:HOk P w H h)(e:Rd H a (.dT kvs)):kvs.length<=sizeLine/\(a==sysModules)=false /\
 ∃xs,KT H kvs xs/\h.DictOfH (tupleKind (zBN P w)) a xs:=by
 obtain⟨z,y,xs,r,o,es,ep,h1,h2,h3,h4,h5⟩:=(show zBK P w H h a (.dT kvs) from rd_of ok e)
 refine⟨z,y,xs,r,o,es,ep,h1,h2,h3,h4,fun x hx=>?_,h5⟩
 have all:∀{l:List (List Key×V)}{m:List (List Key×Addr×Value)},KT H l m->∀x∈m,(tupleKind (zBN P w)).is h x.1 x.2.1:=by
  intro l m q
  induction q with
  | nil=>intro x hx;exact nomatch hx
  | @cons p q ps qs hq t ih=>
   intro x hx
   rcases zV.mp hx with e | hx
   . subst e
     exact zIt ok (by rw[<-hq.1];exact hq.2.1)
   . exact ih x hx
 exact all r x hx
theorem dt_of {kvs:List (List Key×V)}(ok:HOk P w H h)(e:H a=some (.dT kvs)):kvs.length<=sizeLine/\(a==sysModules)=false /\
 ∃xs,KT H kvs xs/\h.DictOfH (tupleKind (zBN P w)) a xs:=zMk ok (.inl e)
end
noncomputable def DGet (H:Hp)(a:Addr)(y:V)(r:Option V):Prop:=
 (∃kvs k,Rd H a (.dK kvs)/\y=kV k/\r=zCu kvs k)\/∃kvs k b,Rd H a (.dT kvs)/\y = .ref b/\H b=some (.tup (k.map kV))/\r=zCu kvs k
noncomputable def DPut (H:Hp)(a:Addr)(y v:V)(H':Hp):Prop:=
 (∃kvs k,H a=some (.dK kvs)/\y=kV k/\kvs.length<sizeLine/\H'=upd H a (.dK (zDl kvs k v))) \/
 ∃kvs k b,H a=some (.dT kvs)/\y = .ref b/\H b=some (.tup (k.map kV))/\kvs.length<sizeLine/\H'=upd H a (.dT (zDl kvs k v))
theorem DGet.k {kvs:List (Key×V)}{k:Key}(e:H a=some (.dK kvs)):DGet H a (kV k) (zCu kvs k):=.inl ⟨kvs,k,.inl e,rfl,rfl⟩
theorem DPut.k {kvs:List (Key×V)}{k:Key}(e:H a=some (.dK kvs))(hl:kvs.length<sizeLine):DPut H a (kV k) v (upd H a (.dK (zDl kvs k v))):=.inl ⟨kvs,k,e,rfl,hl,rfl⟩
section
variable {X:Cx}{pins:lPO}{σ:St}{H:Hp}{s:Shared}{a:Addr}{y v:V}{u r:Value}{o:Option V}{A:Around}{E:vSP}
theorem Inv.big (I:Inv X pins σ H s):sysModules<s.heap.objs.size:=by
 have h:mainGlobals<s.heap.objs.size:=(I.mod.glob.keeps I.bk).lt
 exact zAq (by decide) h
theorem zFQ {h':Heap}{ob:HO}(I:Inv X pins σ H s)(mu:Mut (H a))(hs:Heap.SameBut a s.heap h')(he:∃q,h'.get? a=some q)(new:zBK X.prog X.w (upd H a ob) h' a ob) :
 Inv X pins σ (upd H a ob) { s with heap:=h',toks:=t' }:=
 I.write (x:=a) (e:=a) mu (.inl rfl) (fun b q hb z=>(hs.2 b hb).trans z) he new
theorem zJC {h':Heap}{kvs:List (Key×V)}{vs:List (Key×Value)}(z:kvs.length<=sizeLine)(hd:(a==sysModules)=false)(rel:KV kvs vs)(dd:h'.DictOf (zBN P w) a vs) :
 zBK P w H' h' a (.dK kvs):=⟨z,hd,vs,rel,dd⟩
theorem zJG (hu:A.units+1<cLine)(I:Inv X pins σ H s)(g:DPut H a y v H')(ry:zBy y u)(rv:zBy v r)(h:∀s',Inv X pins σ H' s'->Q () s') :
 wpAny (model X.prog X.w) A (setItem (.ref a) u r) Q E s:=by
 rcases g with ⟨kvs,k,e,ey,l,eH⟩ | ⟨kvs,k,b,e,ey,eb,l,eH⟩
 . subst ey eH
   obtain⟨z,hd,vs,rel,dd⟩:=zJB I.hok e
   have hz:vs.length<=sizeLine:=by rw[<-rel.length];exact z
   have hl:(zDl kvs k v).length<=sizeLine:=by have:=zC9 kvs k v;omega
   refine wpAny_setItem_pairs (hsz:=hz) (zHf ry) dd fun h' dd' hs=>h _ ?_
   have he:∃q,h'.get? a=some q:=let ⟨q,_,_,hq,_⟩:=dd';⟨q,hq⟩
   exact zFQ I (by rw[e];exact True.intro) hs he (zJC hl hd (rel.put k rv) dd')
 . subst ey eH
   cases (show u=Value.ref b from ry)
   obtain⟨z,hd,xs,rel,dd⟩:=dt_of I.hok e
   have hz:xs.length<=sizeLine:=by rw[<-Paired.length rel];exact z
   have hl:(zDl kvs k v).length<=sizeLine:=by have:=zC9 kvs k v;omega
   refine wpAny_setItem_heap (hsz:=hz) (tupleKind_room_in1 hu) (zIt I.hok eb) dd fun h' dd' hs=>h _ ?_
   obtain⟨q,es,ep,hq,h2,h3,h4,_,h5⟩:=dd'
   refine zFQ I (by rw[e];exact True.intro) hs ⟨q,hq⟩ ⟨hl,hd,_,(rel.put k eb rv).keeps fun c ys ec=>?_,q,es,ep,hq,h2,h3,h4,h5⟩
   rw[zk (zBu ec e (fun z=>nomatch z))]
   exact ec
end
section
variable {X:Cx}{pins:lPO}{σ:St}{H:Hp}{s:Shared}{a:Addr}{kvs:List (Key×V)}{k:Key}{u:Value}{A:Around}{E:vSP}
theorem d_pop {more:List Value}{Q:vSP}(I:Inv X pins σ H s)(e:H a=some (.dK kvs))(ry:zBy (kV k) u)(l:zCu kvs k=some v)(hm:more=[]\/∃x,more=[x])
 (h:∀w' s',Inv X pins σ (upd H a (.dK (zCV kvs k))) s'->zBy v w'->Q w' s'):wpAny (model X.prog X.w) A (call (.builtin "dict.pop") (.ref a::u::more)) Q E s:=by
 obtain⟨z,hd,vs,rel,dd⟩:=zJB I.hok e
 obtain⟨w',hw,rw'⟩:=zHo.some_of (v:=v) (o:=valueAt vs k) (by rw[<-l];exact rel.val k)
 have hp:(keyPart u).isSome=true:=by
  cases k with
  | inl i=>obtain⟨t,q⟩:=(show ∃t,u=Value.int i t from ry);subst q;rfl
  | inr x=>obtain⟨t,q⟩:=(show ∃t,u=Value.str x t from ry);subst q;rfl
 have ha:argsOk "dict.pop" ⟨.ref a::u::more,[]⟩:=by
  rcases hm with q | ⟨x,q⟩
  . subst q;exact PySem.F.args_dict_pop_2 _ _
  . subst q;exact PySem.F.args_dict_pop_3 _ _ _
 refine call_meetsIn PySem.F.slot_dict_pop dd.typeIs PySem.F.entry_dict_pop ha (meets_dict_pop_there (zBN X.prog X.w) a (zHf ry) more hm hp)
  ⟨vs,w',dd,by rw[<-rel.length];exact z,hw,fun h' dd' hs=>h w' _ ?_ rw'⟩
 have he:∃q,h'.get? a=some q:=let ⟨q,_,_,hq,_⟩:=dd';⟨q,hq⟩
 exact zFQ I (by rw[e];exact True.intro) hs he (zJC (zAP (zKc kvs k) z) hd (rel.drop k) dd')
end
noncomputable def NoSl (i:Expr):Prop:=∀ov iv,subscripted i false ov iv=operate [ov,iv] (getItem ov iv)
theorem zLd {prog:Program}{E:vSP}{env:Env}{value slice:Expr}{T id:String}{Q:vSP}
 (hl:typeLookup (.type T) "__getitem__" = pure (some (.builtin id))) (hs:NoSl slice)
 (h:wpAny (model prog w) A (eval value env) (fun o s₁=>wpAny (model prog w) A (eval slice env) (fun i s₂=>s₂.TypeIs o T/\wpAny (model prog w) A (getItem o i) Q E s₂) E s₁) E s) :
 wpAny (model prog w) A (eval (.Subscript value slice pos) env) Q E s:=by
 refine Subscript_ (zAz h (fun o s₁ h₁=>zAz h₁ (fun i s₂ h₂=>?_) fun _ _ x=>x) fun _ _ x=>x)
 obtain⟨hT,h₂⟩:=h₂
 unfold subscriptTail
 refine zA ?_
 rw[getitemInPython_of_ne hT.not_modules]
 refine zA (wpAny_specialOf hT hl ?_)
 have fin:wpAny (model prog w) A (subscripted slice false o i) (fun r s₃=>wpAny (model prog w) A (letTemporaryGo value o r >>= fun _=>pure r) Q E s₃) E s₂:=by
  rw[hs o i]
  exact wpAny_operating (zAz h₂ (fun r s₃ h₃=>zA (wpAny_letTemporaryGo (zC h₃))) fun _ _ x=>x)
 first
  | exact zC (zA fin)
  | exact zA (zC (zA fin))
  | exact zA fin
noncomputable def sDPut (td ty tv:TE):TS:=fun D σ H=>tv σ H fun v H1=>td σ H1 fun x H2=>ty σ H2 fun y H3=>∃a H4,x = .ref a/\DPut H3 a y v H4/\D.nx σ H4
section
variable {X:Cx}{o i e value:Expr}{pos pos' tpos:Pos}{td ty tv:TE}
theorem zLx (hu:X.A.units+1<cLine)(ho:PE X o td)(hi:PE X i ty)(hv:PE X value tv)(hs:swapsWith value (some (.Subscript o i pos')) pos.line X.env=pure false) :
 PS X (.Assign [.Subscript o i pos'] value pos) (sDPut td ty tv):=by
 intro pins s σ H D I h
 refine wpAny_Assign_Subscript (thn (hv pins s σ H _ I h) fun r s1 ⟨v,H1,I1,rv,q1⟩=>thn (ho pins s1 σ H1 _ I1 q1) fun u s2 ⟨x,H2,I2,rx,q2⟩=>thn (hi pins s2 σ H2 _ I2 q2) fun iv s3 ⟨y,H3,I3,ry,a,H4,ex,g,q3⟩=>?_) hs
 subst ex
 obtain rfl:u=Value.ref a:=rx
 exact zJG hu I3 g ry rv fun s4 I4=>⟨σ,H4,I4,q3⟩
end
theorem zKd (h:Heap)(hb:sysModules<h.objs.size):zBK P w H (h.push { cls:=.type "dict",data:=.dict #[] }) h.objs.size (.dK []):=
 ⟨zg _,beq_eq_false_iff_ne.mpr (Ne.symm (zT hb)),[],.nil,Heap.DictOf.new h⟩
noncomputable def zHw:List (TE×TE)->St->Hp->(List (V×V)->Hp->Prop)->Prop
 | [],_,H,Q=>Q [] H
 | (tk,tv)::r,σ,H,Q=>tk σ H fun x H1=>tv σ H1 fun y H2=>zHw r σ H2 fun ps H3=>Q ((x,y)::ps) H3
noncomputable abbrev VV:List (V×V)->List (Value×Value)->Prop:=Paired fun p q=>zBy p.1 q.1/\zBy p.2 q.2
noncomputable def PPs (X:Cx)(pos:Pos)(keys:List (Option Expr))(values:List Expr)(trs:List (TE×TE)):Prop:=
 ∀(pins:lPO)(s:Shared)(σ:St)(H:Hp)(Q:List (V×V)->Hp->Prop),Inv X pins σ H s->zHw trs σ H Q ->
  wpAny (model X.prog X.w) X.A (evalPairs (pairTrees keys values X.env pos)) (fun vs s'=>∃ps H',Inv X pins σ H' s'/\VV ps vs/\Q ps H') X.xe s
theorem zLy:PPs X pos [] [] []:=fun pins s σ H Q I h=>pairTrees_nil_walk ⟨[],H,I,.nil,h⟩
theorem zJ7 {k v:Expr}{ks:List (Option Expr)}{vs:List Expr}{tk tv:TE}{trs:List (TE×TE)}(hk:PE X k tk)(hv:PE X v tv)(hr:PPs X pos ks vs trs) :
 PPs X pos (some k::ks) (v::vs) ((tk,tv)::trs):=fun pins s σ H Q I h=>
 pairTrees_cons_walk (thn (hk pins s σ H _ I h) fun u s1 ⟨x,H1,I1,rx,q1⟩=>thn (hv pins s1 σ H1 _ I1 q1) fun w2 s2 ⟨y,H2,I2,ry,q2⟩=>
  thn (hr pins s2 σ H2 _ I2 q2) fun ws s3 ⟨ps,H3,I3,rel,q3⟩=>⟨(x,y)::ps,H3,I3,.cons ⟨rx,ry⟩ rel,q3⟩)
noncomputable def zEv (kvs more:List (Key×V)):List (Key×V):=more.foldl (fun acc kv=>zDl acc kv.1 kv.2) kvs
theorem KV.merge:∀{more:List (Key×V)}{rs:List (Key×Value)}{kvs:List (Key×V)}{vs:List (Key×Value)},KV more rs->KV kvs vs->KV (zEv kvs more) (merged vs rs):=by
 intro more rs kvs vs r
 unfold KV at r
 induction r generalizing kvs vs with
 | nil=>intro q;exact q
 | @cons p q ps qs h t ih=>
  intro r0
  have e:KV (zDl kvs p.1 p.2) (stored vs q.1 q.2):=by
   have:=r0.put p.1 h.2
   rw[<-h.1];exact this
  exact ih e
theorem zDI:∀(more kvs:List (Key×V)),(zEv kvs more).length<=kvs.length+more.length
 | [],kvs=>by show kvs.length<=kvs.length+0;omega
 | p::r,kvs=>by
  have h1:=zDI r (zDl kvs p.1 p.2)
  have h2:=zC9 kvs p.1 p.2
  show (zEv (zDl kvs p.1 p.2) r).length<=_
  rw[zn];omega
theorem zE3 {P:Program}{w:World}:∀{kvs:List (Key×V)}{ws:List (Value×Value)},VV (kvs.map fun kv=>(kV kv.1,kv.2)) ws->∃rs,Carries (zBN P w) ws rs/\KV kvs rs
 | [],_,r=>by rw[List.map_nil] at r;cases r;exact⟨[],True.intro,.nil⟩
 | p::kvs,_,r=>by
  rw[zAX] at r
  cases r with
  | @cons a b as bs h t=>
   obtain⟨rs,c,q⟩:=zE3 (P:=P) (w:=w) t
   obtain⟨b1,b2⟩:=b
   exact⟨(p.1,b2)::rs,⟨zHf h.1,rfl,c⟩,.cons ⟨rfl,h.2⟩ q⟩
noncomputable def tDisp (trs:List (TE×TE)):TE:=fun σ H Q=>∀p,H p=none->zHw trs σ (upd H p (.dK [])) fun ps H2=>H2 p=some (.dK [])/\∃kvs:List (Key×V),ps=kvs.map (fun kv=>(kV kv.1,kv.2))/\kvs.length<=15/\Q (.ref p) (upd H2 p (.dK (zEv [] kvs)))
theorem zL1 {keys:List (Option Expr)}{values:List Expr}{trs:List (TE×TE)}(h:PPs X pos keys values trs)(hall:keys.all (·.isSome)=true)(hl:keys.length=values.length)(h0:keys≠[])
 (h15:keys.length<=15):PE X (.Dict keys values pos) (tDisp trs):=by
 intro pins s σ H Q I q
 have hn:=I.hok.fresh (zI s.heap.objs.size)
 have I1:=I.laid (a:=s.heap.objs.size) (o:=.dK []) (h':=s.heap.push { cls:=.type "dict",data:=.dict #[] }) (t':=s.toks) (fun _ _ q=>zG _ q) (zI _) (zKd s.heap I.big)
 refine wpAny_Dict_walk (knd:=zBN X.prog X.w) hall hl h0 h15 (thn (h pins _ σ _ _ I1 (q _ hn)) fun ws s2 ⟨ps,H2,I2,rel,e,kvs,ep,lk,q2⟩=>?_)
 subst ep
 obtain⟨rs,c,rk⟩:=zE3 (P:=X.prog) (w:=X.w) rel
 obtain⟨z,hd,vs0,r0,dd⟩:=zJB I2.hok e
 cases r0
 refine⟨rs,c,dd,fun h' dd' hs=>⟨.ref s.heap.objs.size,_,?_,rfl,q2⟩⟩
 have hz:(zEv [] kvs).length<=sizeLine:=by
  have h1:=zDI kvs []
  rw[List.length_nil] at h1
  rw[sizeLine_eq];omega
 have he:∃q,h'.get? s.heap.objs.size=some q:=let ⟨q,_,_,hq,_⟩:=dd';⟨q,hq⟩
 exact zFQ I2 (by rw[e];exact True.intro) hs he (zJC hz hd (rk.merge .nil) dd')
structure M1 (X:Cx)(o:Expr)(m:Str)(apos:Pos)(e:Expr)(cpos:Pos):Prop where
 base:attributeBase o m X.env (eval o X.env)=eval o X.env
 few:((backTo cpos (starEach [e] X.env)).all (fun x=>!x.1) && (backToKw cpos (keywordEach [] X.env)).all (fun x=>x.1.isSome)
  && decide (([e]:List Expr).length+([]:List Keyword).length+(if ([]:List Keyword).isEmpty then 0 else 1)<30))=true
 line:(apos.endLine==cpos.line)=true
 trees:backTo cpos (starEach [e] X.env)=[(false,eval e X.env)]
structure M2 (X:Cx)(o:Expr)(m:Str)(apos:Pos)(e f:Expr)(cpos:Pos):Prop where
 base:attributeBase o m X.env (eval o X.env)=eval o X.env
 few:((backTo cpos (starEach [e,f] X.env)).all (fun x=>!x.1) && (backToKw cpos (keywordEach [] X.env)).all (fun x=>x.1.isSome)
  && decide (([e,f]:List Expr).length+([]:List Keyword).length+(if ([]:List Keyword).isEmpty then 0 else 1)<30))=true
 line:(apos.endLine==cpos.line)=true
 trees:backTo cpos (starEach [e,f] X.env)=[(false,eval e X.env),(false,eval f X.env)]
noncomputable def IsD (H:Hp)(a:Addr):Prop:=(∃kvs,Rd H a (.dK kvs))\/∃kvs,Rd H a (.dT kvs)
theorem zLM {pins:lPO}(I:Inv X pins σ H s)(d:IsD H a) :
 s.TypeIs (.ref a) "dict" /\ (∀b,Value.ref a = .ref b->∃ob,s.heap.get? b=some ob/\ob.dict=none)/\(a==sysModules)=false:=by
 rcases d with ⟨kvs,e⟩ | ⟨kvs,e⟩
 . obtain⟨_,hd,vs,_,dd⟩:=zMl I.hok e
   refine⟨dd.typeIs,fun b q=>?_,hd⟩
   cases q
   obtain⟨ob,_,_,h1,h2,_⟩:=dd
   exact⟨ob,h1,h2.2.1⟩
 . obtain⟨_,hd,xs,_,dd⟩:=zMk I.hok e
   refine⟨dd.typeIs,fun b q=>?_,hd⟩
   cases q
   obtain⟨ob,_,_,h1,h2,_⟩:=dd
   exact⟨ob,h1,h2.2.1⟩
section
variable {X:Cx}{pins:lPO}{σ:St}{H:Hp}{s:Shared}{a:Addr}{y d:V}{u r:Value}{o:Option V}{A:Around}{E:vSP}
theorem d_get2 {Q:vSP}(hu:A.units+1<cLine)(I:Inv X pins σ H s)(g:DGet H a y o)(ry:zBy y u)(rd:zBy d r)(h:∀w' s',Inv X pins σ H s'->zBy (o.getD d) w'->Q w' s') :
 wpAny (model X.prog X.w) A (call (.builtin "dict.get") [.ref a,u,r]) Q E s:=by
 rcases g with ⟨kvs,k,e,ey,l⟩ | ⟨kvs,k,b,e,ey,eb,l⟩
 . subst ey
   obtain⟨z,hd,vs,rel,dd⟩:=zMl I.hok e
   refine call_meetsIn PySem.F.slot_dict_get dd.typeIs PySem.F.entry_dict_get (PySem.F.args_dict_get_3 _ _ _) (meets_dict_get_default (zBN X.prog X.w) a (zHf ry) hd r) ⟨_,dd.mapOf,h _ _ (I.tok _) ?_⟩
   rw[l]
   exact (rel.val k).getD rd
 . subst ey
   cases (show u=Value.ref b from ry)
   obtain⟨z,hd,xs,rel,dd⟩:=zMk I.hok e
   refine call_meetsIn PySem.F.slot_dict_get dd.typeIs PySem.F.entry_dict_get (PySem.F.args_dict_get_3 _ _ _) (meetsH_dict_get_default (tupleKind (zBN X.prog X.w)) a b hd r) ⟨tupleKind_room_in1 hu,k,xs,zIt I.hok eb,dd,h _ _ (I.tok _) ?_⟩
   rw[l]
   exact (rel.val k).getD rd
end
noncomputable def tDGet2 (td ty tx:TE):TE:=fun σ H Q=>td σ H fun x H1=>∃a,x = .ref a/\IsD H1 a/\ty σ H1 fun y H2=>tx σ H2 fun z H3=>∃o,DGet H3 a y o/\Q (o.getD z) H3
noncomputable def tDPop1 (td ty:TE):TE:=fun σ H Q=>td σ H fun x H1=>∃a,x = .ref a/\IsD H1 a/\ty σ H1 fun y H2=>∃kvs k v,H2 a=some (.dK kvs)/\y=kV k/\zCu kvs k=some v/\Q v (upd H2 a (.dK (zCV kvs k)))
section
variable {X:Cx}{o e f:Expr}{apos cpos:Pos}{td ty tx:TE}
theorem zKC (hu:X.A.units+1<cLine)(ho:PE X o td)(he:PE X e ty)(hf:PE X f tx)(m:M2 X o "get" apos e f cpos):PE X (.Call (.Attribute o "get" apos) [e,f] [] cpos) (tDGet2 td ty tx):=by
 intro pins s σ H Q I h
 refine wpAny_Call_method m.base m.few m.line PySem.F.plainAttrs_dict PySem.F.slot_dict_get PySem.F.type_dict_get (thn (ho pins s σ H _ I h) fun u s1 ⟨x,H1,I1,rx,a,ex,d,q1⟩=>?_)
 subst ex
 obtain rfl:u=Value.ref a:=rx
 obtain⟨t1,t2,_⟩:=zLM I1 d
 refine⟨t1,t2,?_⟩
 rw[m.trees]
 refine Calls.callWith_builtin rfl (Calls.evalArgs_plain (Calls.spliced_cons (thn (he pins s1 σ H1 _ I1 q1) fun iv s2 ⟨y,H2,I2,ry,q2⟩=>
  Calls.spliced_cons (thn (hf pins s2 σ H2 _ I2 q2) fun fv s3 ⟨z,H3,I3,rz,ov,g,q3⟩=>Calls.spliced_nil ?_))))
 exact d_get2 hu I3 g ry rz fun w' s4 I4 rw'=>⟨_,H3,I4,rw',q3⟩
theorem zKB (ho:PE X o td)(he:PE X e ty)(m:M1 X o "pop" apos e cpos):PE X (.Call (.Attribute o "pop" apos) [e] [] cpos) (tDPop1 td ty):=by
 intro pins s σ H Q I h
 refine wpAny_Call_method m.base m.few m.line PySem.F.plainAttrs_dict PySem.F.slot_dict_pop PySem.F.type_dict_pop (thn (ho pins s σ H _ I h) fun u s1 ⟨x,H1,I1,rx,a,ex,d,q1⟩=>?_)
 subst ex
 obtain rfl:u=Value.ref a:=rx
 obtain⟨t1,t2,_⟩:=zLM I1 d
 refine⟨t1,t2,?_⟩
 rw[m.trees]
 refine Calls.callWith_builtin rfl (Calls.evalArgs_plain (Calls.spliced_cons (thn (he pins s1 σ H1 _ I1 q1) fun iv s2 ⟨y,H2,I2,ry,kvs,k,v,ea,ey,l,q2⟩=>Calls.spliced_nil ?_)))
 subst ey
 exact d_pop I2 ea ry l (.inl rfl) fun w' s3 I3 rw'=>⟨v,_,I3,rw',q2⟩
end
end L2
namespace HT
open PySem PyProof.Rows
noncomputable def lexLt:List Int->List Int->Bool
 | [],[]=>false
 | [],_::_=>true
 | _::_,[]=>false
 | x::xs,y::ys=>if x=y then lexLt xs ys else decide (x<y)
theorem lexLt_cons (x y:Int)(xs ys:List Int):lexLt (x::xs) (y::ys)=if x=y then lexLt xs ys else decide (x<y):=rfl
theorem zFM:lexLt [] []=false:=rfl
theorem zEe (y:Int)(ys:List Int):lexLt [] (y::ys)=true:=rfl
theorem zEf (x:Int)(xs:List Int):lexLt (x::xs) []=false:=rfl
theorem zKa (A:Around)(s:Shared)(a:Int)(t:Tok)(c:Int)(u:Tok):∃e,SeqAt.EqAt A s (.int a t) (.int c u) e/\(e=true↔a=c):=
 ⟨(a==c),SeqAt.EqAt.int_int a t c u,by simp⟩
theorem zJz (A:Around)(s:Shared)(a:Int)(t:Tok)(c:Int)(u:Tok)(prog:Program)(w:World)(E:vSP)(Q:vSP)(h:Q (.bool (decide (a<c))) s) :
 wpAny (model prog w) A (richCompare .Lt (.int a t) (.int c u)) Q E s:=
 (PyProof.Rows.lt_int h:wpAny (model prog w) A (compareOp .Lt (.int a t) (.int c u)) Q E s)
section
open PySem.SeqAt
open PySem.AutoSeq1 (wpAny_loadPart')
open PySem.MeetsSeq PySem.MeetsSeq2 PySem.MeetsSeq3
theorem zE6 (l b:Addr)(items items2:Array Value)(n n2:Nat)(dd dd2:Option Addr)(sl sl2:Array (Option Value))(ns ms:List Int)(hi:IntsAre items.toList ns)(hj:IntsAre items2.toList ms) :
 Meets (Builtin.«tuple.__lt__» ⟨[.ref l,.ref b],[]⟩)
  (fun _ R s=>s.heap.get? l=some { cls:=.type "tuple",dict:=dd,data:=.seq items n,slots:=sl }/\s.heap.get? b=some { cls:=.type "tuple",dict:=dd2,data:=.seq items2 n2,slots:=sl2 } /\
   R (.ok (.ret (.bool (lexLt ns ms)))) s):=
 .of_wp fun prog w A R s h=>by
  obtain⟨hp,g,d,tk,os⟩:=s;obtain⟨hl,hb,h⟩:=h
  have f2:=AutoSeq1.sub_tuple_tuple
  have z1:items.size=ns.length:=by rw[<-hi.length];simp
  have z2:items2.size=ms.length:=by rw[<-hj.length];simp
  wp_walk using wpAny_loadPart' hl,wpAny_loadPart' hb,wpAny_forIn_list _ (fun rest b s'=>b.1=none/\s'=⟨hp,g,d,tk,os⟩/\∃(vs ws:List Value)(ns' ms':List Int),rest=vs.zip ws /\
   IntsAre vs ns'/\IntsAre ws ms'/\ns'.length+items2.size=ms'.length+items.size/\R (.ok (.ret (.bool (lexLt ns' ms')))) ⟨hp,g,d,tk,os⟩) _
  case turn=>
   rintro ⟨y,x⟩ rest b s' ⟨hb',rfl,vs,ws,ns',ms',hz,hvi,hwi,hlen,hR⟩
   cases hvi with
   | nil=>rw[List.zip_nil_left] at hz;cases hz
   | cons a t hvi'=>
    cases hwi with
    | nil=>rw[List.zip_nil_right] at hz;cases hz
    | cons c u hwi'=>
     rw[List.zip_cons_cons] at hz
     injection hz with hyx hrest
     injection hyx with hy hx
     subst hy hx
     rw[lexLt_cons] at hR
     simp only[zn] at hlen
     obtain⟨e,he,hiff⟩:=zKa A.in1 ⟨hp,g,d,tk,os⟩ a t c u
     refine zA (he prog w _ _ ?_)
     cases e with
     | true=>
      rw[if_pos (hiff.mp rfl)] at hR
      wp_walk
      exact⟨rfl,rfl,_,_,_,_,hrest,hvi',hwi',by omega,hR⟩
     | false=>
      rw[if_neg (fun q=>absurd (hiff.mpr q) zb)] at hR
      have hri:=zJz A.in1 ⟨hp,g,d,tk,os⟩ a t c u prog w
      wp_walk using hri
      exact⟨_,rfl,by simpa using hR⟩
  case fin=>
   rintro ⟨b1,b2⟩ s' ⟨hb',rfl,vs,ws,ns',ms',hz,hvi,hwi,hlen,hR⟩
   simp only at hb'
   subst hb'
   have hv:lexLt ns' ms'=decide (items.size<items2.size):=by
    cases hvi with
    | nil=>
     cases hwi with
     | nil=>
      simp only[List.length_nil] at hlen
      rw[zFM]
      exact (zu (by omega)).symm
     | cons c u hw=>
      simp only[List.length_nil,zn] at hlen
      rw[zEe]
      exact (zW (by omega)).symm
    | cons a t hv=>
     cases hwi with
     | nil=>
      simp only[List.length_nil,zn] at hlen
      rw[zEf]
      exact (zu (by omega)).symm
     | cons c u hw=>
      rw[List.zip_cons_cons] at hz
      cases hz
   rw[hv] at hR
   wp_walk
   exact⟨_,rfl,by simpa [Builtin.Tuple.tupleCompareSizes] using hR⟩
  case h=>
   exact⟨rfl,rfl,items.toList,items2.toList,ns,ms,rfl,hi,hj,by omega,h⟩
end
section
variable {prog:Program}{w:World}{A:Around}{E:vSP}{s:Shared}
theorem lt_tupInts {l b:Addr}{items items2:Array Value}{ns ms:List Int}{Q:vSP}(hl:IsTup s.heap l items)(hb:IsTup s.heap b items2)(hi:IntsAre items.toList ns)(hj:IntsAre items2.toList ms)
 (hu:A.units<cLine)(h:Q (.bool (lexLt ns ms)) s):wpAny (model prog w) A (compareOp .Lt (.ref l) (.ref b)) Q E s:=by
 obtain⟨⟨cls,dd,data,sl⟩,ho,hc,n,hd⟩:=id hl
 obtain⟨⟨cls2,dd2,data2,sl2⟩,ho2,hc2,n2,hd2⟩:=id hb
 simp only at hc hd hc2 hd2
 subst hc hd hc2 hd2
 exact richCompare_meets_room (op:=.Lt) ⟨_,ho,rfl⟩ ⟨_,ho2,rfl⟩ PySem.F.slot_tuple_lt PySem.F.entry_tuple_lt (PySem.F.args_tuple_lt_2 _ _) (zE6 l b items items2 n n2 dd dd2 sl sl2 ns ms hi hj)
  ⟨ho,ho2,show Value.bool (lexLt ns ms)≠Value.notImplemented/\Q (.bool (lexLt ns ms)) s from ⟨(fun x=>nomatch x),h⟩⟩ hu
theorem cat_tup {t b:Addr}{vs ws:List Value}{Q:vSP}(ht:IsTup s.heap t vs.toArray)(hb:IsTup s.heap b ws.toArray)(hv:vs≠[])
 (h1:ws=[]->Q (.ref t) s)(h2:ws≠[]->Q (.ref s.heap.objs.size) { s with heap:=s.heap.push { cls:=.type "tuple",data:=.seq (vs++ws).toArray } })
 (hsz:vs.length+ws.length<=sizeLine):wpAny (model prog w) A (binaryOp .Add (.ref t) (.ref b)) Q E s:=by
 obtain⟨⟨cls,dd,data,sl⟩,ho,hc,n,hd⟩:=id ht
 obtain⟨⟨cls2,dd2,data2,sl2⟩,ho2,hc2,n2,hd2⟩:=id hb
 simp only at hc hd hc2 hd2
 subst hc hd hc2 hd2
 have e:vs.toArray++ws.toArray=(vs++ws).toArray:=by simp
 by_cases hw:ws=[]
 . exact concat_meets ⟨_,ho,rfl⟩ ⟨_,ho2,rfl⟩ noFill_tuple_add seq_tuple_add PySem.F.slot_tuple_add PySem.F.entry_tuple_add (PySem.F.args_tuple_add_2 _ _)
    (tuple_addW1 t b vs.toArray ws.toArray n n2 dd dd2 sl sl2 (by simpa using hv) (by simp[hw])) ⟨ho,ho2,h1 hw⟩
 . refine concat_meets ⟨_,ho,rfl⟩ ⟨_,ho2,rfl⟩ noFill_tuple_add seq_tuple_add PySem.F.slot_tuple_add PySem.F.entry_tuple_add (PySem.F.args_tuple_add_2 _ _)
    (tuple_addW2 t b vs.toArray ws.toArray n n2 dd dd2 sl sl2 (by simpa using hv) (by simpa using hw) (by rw[zN,zN];exact hsz)) ⟨ho,ho2,?_⟩
   rw[e]
   exact h2 hw
noncomputable def sIx (n d:Nat):Option Int->Nat
 | none=>d
 | some v=>if v<0 then (v+(n:Int)).toNat else min v.toNat n
theorem sIx_none (n d:Nat):sIx n d none=d:=rfl
theorem sIx_nat (n d k:Nat):sIx n d (some (k:Int))=min k n:=by
 show (if (k:Int)<0 then ((k:Int)+(n:Int)).toNat else min (k:Int).toNat n)=min k n
 rw[if_neg (by omega),zAB]
theorem sIx_le (n d:Nat)(hd:d<=n)(o:Option Int):sIx n d o<=n:=by
 cases o with
 | none=>exact hd
 | some v=>
  show (if v<0 then (v+(n:Int)).toNat else min v.toNat n)<=n
  by_cases hv:v<0
  . rw[if_pos hv];omega
  . rw[if_neg hv];exact Nat.min_le_right _ _
theorem zJM (v:Int)(n d:Nat):(if v<0 then max (v+(n:Int)) 0 else min v (n:Int))=((sIx n d (some v):Nat):Int):=by
 show (if v<0 then max (v+(n:Int)) 0 else min v (n:Int))=(((if v<0 then (v+(n:Int)).toNat else min v.toNat n):Nat):Int)
 by_cases hv:v<0
 . simp only[if_pos hv];omega
 . simp only[if_neg hv];omega
theorem zHn (lo hi:Option Int) (n:Nat):Builtin.Slice.sliceAdjust lo hi 1 (n:Int)=(((sIx n 0 lo:Nat):Int),((sIx n n hi:Nat):Int)):=by
 have h1:¬ ((1:Int)<0):=by omega
 unfold Builtin.Slice.sliceAdjust
 simp only[h1,if_false]
 refine Prod.ext ?_ ?_
 . cases lo with
   | none=>rfl
   | some v=>exact zJM v n 0
 . cases hi with
   | none=>rfl
   | some v=>exact zJM v n n
theorem zHW (i j:Nat):Builtin.Slice.slicePlaces (i:Int) (j:Int) 1=j-i:=by
 unfold Builtin.Slice.slicePlaces
 have h1:(1:Int) > 0:=by omega
 simp only[h1,if_true,Int.ediv_one]
 split <;> omega
theorem zDR {v:Value} {o:Option Int} {Q:Option Int->Shared->Prop} (p:IsPart v o) (h:Q o s):wpAny (model prog w) A (Builtin.Slice.slicePartIndex v) Q E s:=by
 cases p with
 | none=>exact slicePart_none h
 | int i t=>exact slicePart_int h
theorem zCo {sl:Addr}{vl vu:Value}{lo hi:Option Int}{n:Nat}{Q:Int×Int×Nat->Shared->Prop}(hs:s.heap.IsSliceOf sl vl vu .none)(pl:IsPart vl lo)(pu:IsPart vu hi)
 (h:Q (((sIx n 0 lo:Nat):Int),1,sIx n n hi-sIx n 0 lo) s):wpAny (model prog w) A (Builtin.Slice.sliceApplied (.ref sl) (pure (n:Int))) Q E s:=by
 obtain⟨os,hos,hcs,hds⟩:=id hs
 unfold Builtin.Slice.sliceApplied Builtin.Slice.sliceFields
 refine zA (zA (zAx hos hds (x:=vl) rfl (zA (zAx hos hds (x:=vu) rfl (zA (zAx hos hds (x:=.none) rfl (zC ?_)))))))
 refine zA (slicePart_none ?_)
 show wpAny _ _ (if ((1:Int)==0)=true then _ else _) _ _ s
 rw[if_neg (by decide)]
 refine zA (zDR pl (zA (zDR pu (zA (zC ?_)))))
 show wpAny _ _ (match Builtin.Slice.sliceAdjust lo hi 1 (n:Int) with | (lo,hi)=>pure (lo,(1:Int),Builtin.Slice.slicePlaces lo hi 1)) _ _ s
 rw[zHn lo hi n]
 show wpAny _ _ (pure (((sIx n 0 lo:Nat):Int),(1:Int),Builtin.Slice.slicePlaces ((sIx n 0 lo:Nat):Int) ((sIx n n hi:Nat):Int) 1)) _ _ s
 rw[zHW]
 exact zC h
theorem zJ9 (xs:Array Value)(i k:Nat):((List.range k).filterMap fun (m:Nat)=>xs[((i:Int)+(m:Int)*1).toNat]?).toArray=((xs.toList.drop i).take k).toArray:=by
 have e:(fun (m:Nat)=>xs[((i:Int)+(m:Int)*1).toNat]?)=fun m=>xs[i+m]?:=by
  funext m
  have:((i:Int)+(m:Int)*1).toNat=i+m:=by omega
  rw[this]
 rw[e]
 have:=pick_run xs i k
 rw[List.filterMap_map] at this
 have e2:((fun x=>xs[x]?)∘fun x=>i+x)=fun m=>xs[i+m]?:=rfl
 rw[e2] at this
 rw[this]
theorem getItem_tuple_cut {t sl:Addr}{items:Array Value}{vl vu:Value}{lo hi:Option Int}{Q:vSP}(ht:IsTup s.heap t items)(hs:s.heap.IsSliceOf sl vl vu .none)(pl:IsPart vl lo)(pu:IsPart vu hi)
 (hw:¬ (sIx items.size 0 lo=0/\sIx items.size items.size hi=items.size))
 (h:Q (.ref s.heap.objs.size) { s with heap:=s.heap.push { cls:=.type "tuple",data:=.seq ((items.toList.drop (sIx items.size 0 lo)).take (sIx items.size items.size hi-sIx items.size 0 lo)).toArray } })
 (hsz:items.size<=sizeLine):wpAny (model prog w) A (getItem (.ref t) (.ref sl)) Q E s:=by
 have htake:sizeOk (.seq ((items.toList.drop (sIx items.size 0 lo)).take (sIx items.size items.size hi-sIx items.size 0 lo)).toArray):=by
  show ((items.toList.drop (sIx items.size 0 lo)).take (sIx items.size items.size hi-sIx items.size 0 lo)).toArray.size<=sizeLine
  rw[zN,zw,List.length_drop,Array.length_toList]
  omega
 have hj:sIx items.size items.size hi<=items.size:=sIx_le _ _ (zI _) hi
 obtain⟨os,hos,hcs,hds⟩:=id hs
 have hTs:s.TypeIs (.ref sl) "slice" := ⟨os,hos,hcs⟩
 unfold getItem
 try with_reducible refine zx ?_
 first | refine zA (zC ?_) | skip
 refine zA (wpAny_sequenceKey ht.typeIs (by decide) ?_)
 refine zA (zAD (name:=Str.ofString "__getitem__") ht.typeIs PyProof.Rows.slot_tuple_getitem
  (zAE PyProof.Rows.slot_tuple_getitem ht.typeIs entry_tuple_getitem ?_ (args_tuple_getitem _ _)))
 show wpAny _ _ (Builtin.Tuple.tupleItemsOf (.ref t) >>= _) _ _ s
 refine zA (tupleItemsOf_ ht ?_)
 refine zA (zBY hTs ?_)
 rw[if_pos (by decide)]
 refine zA (zCo hs pl pu ?_)
 have hno:¬ ((((sIx items.size 0 lo:Nat):Int)==0 && (1:Int)==1 && (sIx items.size items.size hi-sIx items.size 0 lo)==items.size)=true):=by
  intro q
  rw[zAf,zAf] at q
  have q1:((sIx items.size 0 lo:Nat):Int)=0:=eq_of_beq q.1.1
  have q2:sIx items.size items.size hi-sIx items.size 0 lo=items.size:=eq_of_beq q.2
  exact hw ⟨by omega,by omega⟩
 show wpAny _ _ (if (((sIx items.size 0 lo:Nat):Int)==0 && (1:Int)==1 && (sIx items.size items.size hi-sIx items.size 0 lo)==items.size)=true then _ else _) _ _ s
 rw[if_neg hno,zJ9]
 first
  | exact zA (m:=Builtin.Tuple.tupleExact _) (zv (zC ⟨_,rfl,zC h⟩) htake)
  | exact zA (m:=Builtin.Tuple.tupleExact _) (zv (zA (zC (zC ⟨_,rfl,zC h⟩))) htake)
  | exact zA (zA (m:=Builtin.Tuple.tupleExact _) (zv (zC (zC ⟨_,rfl,zC h⟩)) htake))
  | exact zA (zA (m:=Builtin.Tuple.tupleExact _) (zv (zC ⟨_,rfl,zC h⟩) htake))
end
end HT
namespace L2
open PySem PySem.Spec PyProof.Rows
noncomputable abbrev TO:=St->Hp->(Option Int->Hp->Prop)->Prop
noncomputable def PO (X:Cx)(e:Option Expr)(t:TO):Prop:=
 ∀(pins:lPO)(s:Shared)(σ:St)(H:Hp)(Q:Option Int->Hp->Prop),Inv X pins σ H s->t σ H Q ->
  wpAny (model X.prog X.w) X.A (evalPart e X.env) (fun u s'=>∃o H',Inv X pins σ H' s'/\IsPart u o/\Q o H') X.xe s
noncomputable def zLZ:TO:=fun _ H Q=>Q none H
noncomputable def tPart (t:TE):TO:=fun σ H Q=>t σ H fun x H1=>∃i,x = .int i/\Q (some i) H1
theorem zBU {ns:List Int}:∀{us:List Value},zBL (ns.map V.int) us->IntsAre us ns:=by
 induction ns with
 | nil=>intro us r;rw[List.map_nil] at r;cases r;exact .nil
 | cons n ns ih=>
  intro us r
  rw[zAX] at r
  cases r with
  | cons r1 r2=>
   obtain⟨t,e⟩:=r1
   subst e
   exact .cons n t (ih r2)
variable {xs:List V}
section
variable {X:Cx}{e:Expr}{te:TE}{lo hi:Option Expr}{tl th:TO}{pos p2:Pos}
theorem zD9:PO X none zLZ:=by
 intro pins s σ H Q I h
 rw[evalPart_none]
 exact zC ⟨none,H,I,.none,h⟩
theorem zD8 (h:PE X e te):PO X (some e) (tPart te):=by
 intro pins s σ H Q I hw
 rw[evalPart_some]
 refine thn (h pins s σ H _ I hw) fun u s1 ⟨x,H1,I1,r1,q1⟩=>?_
 obtain⟨i,rfl,q⟩:=q1
 obtain⟨t,rfl⟩:=r1
 exact⟨some i,H1,I1,.int i t,q⟩
noncomputable def SlR (X:Cx)(r:V->Option Int->Option Int->Hp->VK->Prop):Prop:=
 ∀(pins:lPO)(s:Shared)(σ:St)(H:Hp)(x:V)(v vl vu:Value)(lo hi:Option Int)(sl:Addr)(Q:VK),Inv X pins σ H s->zBy x v->s.heap.IsSliceOf sl vl vu .none->IsPart vl lo->IsPart vu hi->r x lo hi H Q ->
  ∃T id,typeLookup (.type T) "__getitem__" = pure (some (.builtin id))/\s.TypeIs v T/\wpAny (model X.prog X.w) X.A (getItem v (.ref sl)) (EP X pins σ Q) X.xe s
noncomputable def tSl (r:V->Option Int->Option Int->Hp->VK->Prop)(te:TE)(tl th:TO):TE:=fun σ H Q=>te σ H fun x H1=>tl σ H1 fun l H2=>th σ H2 fun u H3=>r x l u H3 Q
theorem zDE {r:V->Option Int->Option Int->Hp->VK->Prop}(hr:SlR X r)(he:PE X e te)(hl:PO X lo tl)(hu:PO X hi th):PE X (.Subscript e (.Slice lo hi none p2) pos) (tSl r te tl th):=by
 intro pins s σ H Q I h
 refine Subscript_ (thn (he pins s σ H _ I h) fun v s1 ⟨x,H1,I1,r1,q1⟩=>?_)
 refine wpAny_Slice (thn (hl pins s1 σ H1 _ I1 q1) fun vl s2 ⟨l,H2,I2,pl,q2⟩=>thn (hu pins s2 σ H2 _ I2 q2) fun vu s3 ⟨u,H3,I3,pu,q3⟩=>?_)
 rw[evalPart_none]
 refine zC ?_
 have I4:Inv X pins σ H3 { s3 with heap:=s3.heap.push { cls:=.type "slice",data:=.fields #[vl,vu,.none] } }:=I3.kept (t':=s3.toks) fun b ob q=>zG _ q
 obtain⟨T,id,hT,ht,hg⟩:=hr pins { s3 with heap:=s3.heap.push { cls:=.type "slice",data:=.fields #[vl,vu,.none] } } σ H3 x v vl vu l u s3.heap.objs.size Q I4 r1 (Heap.IsSliceOf.new ..) pl pu q3
 show wpAny (model X.prog X.w) X.A (subscriptTail e (.Slice lo hi none p2) v (.ref s3.heap.objs.size)) (EP X pins σ Q) X.xe { s3 with heap:=s3.heap.push { cls:=.type "slice",data:=.fields #[vl,vu,.none] } }
 exact tail_any (ops:=[.ref s3.heap.objs.size,v]) ht hT hg (by with_unfolding_all rfl)
noncomputable def zFR (xs:List V)(lo hi:Option Int):List V:=(xs.drop (HT.sIx xs.length 0 lo)).take (HT.sIx xs.length xs.length hi-HT.sIx xs.length 0 lo)
theorem zDA (xs:List V)(lo hi:Option Int):(zFR xs lo hi).length<=xs.length:=by
 unfold zFR
 rw[zw,List.length_drop]
 omega
noncomputable def rSlT (K:PySem.W.Frag):V->Option Int->Option Int->Hp->VK->Prop:=fun x lo hi H Q=>∃a xs,x = .ref a/\SqT K H a xs /\
 ¬ (HT.sIx xs.length 0 lo=0/\HT.sIx xs.length xs.length hi=xs.length)/\∀p,H p=none->Q (.ref p) (upd H p (.tup (zFR xs lo hi)))
theorem sl_tup:SlR X (rSlT X.K):=by
 intro pins s σ H x v vl vu lo hi sl Q I rx hs pl pu h
 obtain⟨a,xs,rfl,hx,hw,q⟩:=h
 cases rx
 obtain⟨its,r,ht,hz⟩:=I.tuple hx
 have hlen:its.toArray.size=xs.length:=by rw[zN];exact r.length.symm
 refine⟨"tuple",_,PyProof.Rows.slot_tuple_getitem.lookup,ht.typeIs,?_⟩
 refine HT.getItem_tuple_cut ht hs pl pu (by rw[hlen];exact hw) ?_ (by rw[hlen];exact hz)
 rw[hlen]
 refine⟨.ref s.heap.objs.size,_,I.laid (t':=s.toks) (o:=.tup (zFR xs lo hi)) (fun b ob q=>zG _ q) (zI _) ?_,rfl,q _ (I.hok.fresh (zI _))⟩
 exact⟨⟨zAP (zDA xs lo hi) hz,_,zL _ rfl,rfl⟩,_,(r.drop (HT.sIx xs.length 0 lo)).take (HT.sIx xs.length xs.length hi-HT.sIx xs.length 0 lo),IsTup.new _ _⟩
noncomputable def rCatT (K:PySem.W.Frag):R2:=fun x y H Q=>∃a b xs ys,x = .ref a/\y = .ref b/\SqT K H a xs/\SqT K H b ys/\xs≠[]/\xs.length+ys.length<=sizeLine /\
 (ys=[]->Q (.ref a) H)/\(ys≠[]->∀p,H p=none->Q (.ref p) (upd H p (.tup (xs++ys))))
theorem zBL.nil_iff {us:List Value}(r:zBL xs us):us=[]↔xs=[]:=by
 cases r with
 | nil=>simp
 | cons _ _=>simp
theorem zL7:OpR X (binaryOp .Add) (rCatT X.K):=by
 intro pins s σ H x y v u Q I rx ry h
 obtain⟨a,b,xs,ys,rfl,rfl,ha,hb,hx,hz,q1,q2⟩:=h
 cases rx
 cases ry
 obtain⟨its,r1,p1,_⟩:=I.tuple ha
 obtain⟨its2,r2,p2,_⟩:=I.tuple hb
 refine HT.cat_tup p1 p2 (fun z=>hx (r1.nil_iff.mp z)) (fun z=>⟨.ref a,H,I,rfl,q1 (r2.nil_iff.mp z)⟩) (fun z=>?_) (by rw[<-r1.length,<-r2.length];exact hz)
 refine⟨.ref s.heap.objs.size,_,I.laid (t':=s.toks) (o:=.tup (xs++ys)) (fun b ob q=>zG _ q) (zI _) ?_,rfl,q2 (fun w=>z (r2.nil_iff.mpr w)) _ (I.hok.fresh (zI _))⟩
 exact⟨⟨by rw[zO];exact hz,_,zL _ rfl,rfl⟩,_,r1.append r2,IsTup.new _ _⟩
end
noncomputable def ixN (n:Nat)(i:Int):Option Nat:=if 0<=i then (if i<n then some i.toNat else none) else if -(n:Int)<=i then some (i+n).toNat else none
noncomputable def atI {α:Type}(xs:List α)(i:Int):Option α:=(ixN xs.length i).bind fun j=>xs[j]?
variable {n:Nat}
theorem zIx {i:Int}{j:Nat}(h:ixN n i=some j):seqIndex? i n=some j/\j<n /\ -(n:Int)<=i/\i<n:=by
 unfold ixN at h
 by_cases h0:0<=i
 . rw[if_pos h0] at h
   by_cases h1:i<n
   . rw[if_pos h1] at h
     have e:i.toNat=j:=zX h
     exact⟨by rw[seqIndex_of h0 h1,e],by omega,by omega,h1⟩
   . rw[if_neg h1] at h;cases h
 . rw[if_neg h0] at h
   by_cases h1 : -(n:Int)<=i
   . rw[if_pos h1] at h
     have e:(i+n).toNat=j:=zX h
     exact⟨by rw[seqIndex_neg (by omega) h1,e],by omega,h1,by omega⟩
   . rw[if_neg h1] at h;cases h
theorem zJS {α:Type}{xs:List α}{i:Int}{v:α}(h:atI xs i=some v):∃j,seqIndex? i xs.length=some j/\xs[j]? = some v/\j<xs.length /\ -(xs.length:Int)<=i/\i<xs.length:=by
 unfold atI at h
 cases e:ixN xs.length i with
 | none=>rw[e] at h;cases h
 | some j=>
  rw[e] at h
  obtain⟨h1,h2,h3,h4⟩:=zIx e
  exact⟨j,h1,h,h2,h3,h4⟩
theorem zGv {α:Type}{xs:List α}{j:Nat}{v:α}(h:xs[j]? = some v):atI xs (j:Int)=some v:=by
 have hj:j<xs.length:=(zK.mp h).1
 have e:ixN xs.length (j:Int)=some j:=by
  unfold ixN
  rw[if_pos (by omega),if_pos (by omega)];simp
 unfold atI;rw[e];exact h
noncomputable def zMr (b:Expr):Prop:=∀o i,subscripted b false o i=operate [o,i] (getItem o i)
noncomputable def IxR (X:Cx)(r:R2):Prop:=
 ∀(value slice:Expr)(pins:lPO)(s:Shared)(σ:St)(H:Hp)(x y:V)(v u:Value)(Q:VK),Inv X pins σ H s->zBy x v->zBy y u->r x y H Q ->
  subscripted slice false v u=operate [v,u] (getItem v u)->wpAny (model X.prog X.w) X.A (subscriptTail value slice v u) (EP X pins σ Q) X.xe s
noncomputable def MtR (X:Cx)(id:String)(r:V->List V->Hp->VK->Prop):Prop:=
 ∀(pins:lPO)(s:Shared)(σ:St)(H:Hp)(x:V)(xs:List V)(v:Value)(us:List Value)(Q:VK),Inv X pins σ H s->zBy x v->zBL xs us->r x xs H Q ->
  wpAny (model X.prog X.w) X.A (call (.builtin id) (v::us)) (EP X pins σ Q) X.xe s
variable {σ:St}{H:Hp}{s:Shared}{its:List Value}{x:V}
section
variable {X:Cx}{a b:Expr}{ta tb:TE}{pos:Pos}
theorem zAT {r:R2}(hr:IxR X r)(ha:PE X a ta)(hb:PE X b tb)(hs:zMr b):PE X (.Subscript a b pos) (tOp r ta tb):=by
 intro pins s σ H Q I h
 exact Subscript_ (binT ha hb I h fun v u s2 x y H2 I2 rx ry q=>hr a b pins s2 σ H2 x y v u Q I2 rx ry q (hs _ _))
noncomputable def rIxL (K:PySem.W.Frag):R2:=fun x y H Q=>∃p xs i v,x = .ref p/\y = .int i/\SqL K H p xs/\atI xs i=some v/\Q v H
noncomputable def rIxT (K:PySem.W.Frag):R2:=fun x y H Q=>∃p xs i v,x = .ref p/\y = .int i/\SqT K H p xs/\atI xs i=some v/\Q v H
theorem zAi:IxR X (rIxL X.K):=by
 intro value slice pins s σ H x y v u Q I rx ry h hs
 obtain⟨p,xs,i,z,rfl,rfl,hq,he,q⟩:=h
 cases rx
 obtain⟨t,rfl⟩:=ry
 obtain⟨its,r,pl,hz⟩:=I.list hq
 obtain⟨j,h1,h2,h3,h4,h5⟩:=zJS he
 obtain⟨w,ew,rw'⟩:=r.get h2
 have hl:=r.length
 have hn:=zF0
 have fin:EP X pins σ Q w s:=⟨z,H,I,rw',q⟩
 by_cases h0:0<=i
 . have hj:i.toNat=j:=by
    rw[seqIndex_of h0 h5] at h1
    exact zX h1
   exact item_listR pl.isList h0 (by omega) (by rw[hj];simpa using ew) fin hs
 . have hj:(i+(its.toArray.size:Int)).toNat=j:=by
    rw[seqIndex_neg (by omega) h4] at h1
    rw[zN,<-hl]
    exact zX h1
   exact subscriptTail_builtinR (x:=w) pl.isList.typeIs slot_list_getitem.lookup
    (wpAny_getItem_list_neg (Q:=fun r s'=>r=w/\EP X pins σ Q r s') pl.isList (by omega) (by rw[zN] <;> omega) (by omega) (by rw[hj];simpa using ew) ⟨rfl,fin⟩) hs
theorem zAy:IxR X (rIxT X.K):=by
 intro value slice pins s σ H x y v u Q I rx ry h hs
 obtain⟨p,xs,i,z,rfl,rfl,hq,he,q⟩:=h
 cases rx
 obtain⟨t,rfl⟩:=ry
 obtain⟨its,r,pl,hz⟩:=I.tuple hq
 obtain⟨j,h1,h2,h3,h4,h5⟩:=zJS he
 obtain⟨w,ew,rw'⟩:=r.get h2
 have hl:=r.length
 have hn:=zF0
 have fin:EP X pins σ Q w s:=⟨z,H,I,rw',q⟩
 exact subscriptTail_builtinR (x:=w) pl.typeIs slot_tuple_getitem.lookup
  (getItem_tuple (j:=j) (Q:=fun r s'=>r=w/\EP X pins σ Q r s') pl (by omega) (by omega) (by rw[zN,<-hl];exact h1) (by simpa using ew) ⟨rfl,fin⟩) hs
theorem zHc (its:List Value)(n j:Nat)(u:Value):Obj.mapSeq (·.setIfInBounds j u) { cls:=.type "list",data:=.seq its.toArray n }={ cls:=.type "list",data:=.seq (its.set j u).toArray n }:=by
 simp[Obj.mapSeq]
theorem Inv.lst {pins:lPO}{p:Addr}(I:Inv X pins σ H s)(h:H p=some (.lst xs)) :
 ∃(its:List Value)(n:Nat),zBL xs its/\s.heap.get? p=some { cls:=.type "list",data:=.seq its.toArray n }/\xs.length<=sizeLine:=by
 obtain⟨z,its,n,r,e⟩:=I.hok p _ h
 exact⟨its,n,r,e,z⟩
theorem Inv.lstUpd {pins:lPO}{p:Addr}{ys:List V}{its':List Value}{n':Nat}{f:Obj->Obj}(I:Inv X pins σ H s)(h:H p=some (.lst xs))
 (ho:s.heap.get? p=some { cls:=.type "list",data:=.seq its.toArray n }) (hf:f { cls:=.type "list",data:=.seq its.toArray n }={ cls:=.type "list",data:=.seq its'.toArray n' }) (r:zBL ys its')(hz:ys.length<=sizeLine)(t:Nat) :
 Inv X pins σ (upd H p (.lst ys)) { s with heap:=s.heap.update p f,toks:=t }:=by
 have e:(s.heap.update p f).get? p=some { cls:=.type "list",data:=.seq its'.toArray n' }:=by
  rw[zAC f ho (by rw[hf] <;> rfl),hf]
 refine I.write (x:=p) (e:=p) (by rw[h];trivial) (.inl rfl) (fun b u hb q=>(zBi _ _ (Ne.symm hb)).trans q) ⟨_,e⟩ ?_
 exact⟨hz,its',n',r,e⟩
noncomputable def rSetL:V->V->V->Hp->(Hp->Prop)->Prop:=fun o i v H Q=>∃p xs k j,o = .ref p/\i = .int k/\H p=some (.lst xs)/\ixN xs.length k=some j/\Q (upd H p (.lst (xs.set j v)))
theorem zCi:PSet X rSetL:=by
 intro pins s σ H o i v ov iv u Q I ro ri rv h
 obtain⟨p,xs,k,j,rfl,rfl,hp,hj,q⟩:=h
 cases ro
 obtain⟨t,rfl⟩:=ri
 obtain⟨its,n,r,ho,hz⟩:=I.lst hp
 obtain⟨h1,h2,h3,h4⟩:=zIx hj
 have hl:=r.length
 have hn:=zF0
 have I':Inv X pins σ (upd H p (.lst (xs.set j v))) { s with heap:=s.heap.update p (Obj.mapSeq (·.setIfInBounds j u)) }:=
  I.lstUpd hp ho (zHc its n j u) (r.set rv j) (by rw[List.length_set];exact hz) s.toks
 by_cases h0:0<=k
 . have hk:k.toNat=j:=by
    rw[seqIndex_of h0 h4] at h1
    exact zX h1
   exact PySem.W.ki_setAt ho h0 (by omega) (by rw[zN,<-hl];exact h4) (by rw[hk];exact⟨_,I',q⟩)
 . have hk:(k+(its.toArray.size:Int)).toNat=j:=by
    rw[seqIndex_neg (by omega) h3] at h1
    rw[zN,<-hl]
    exact zX h1
   exact PySem.W.ki_setBack ho (by omega) (by rw[zN,<-hl];exact h3) (by omega) (by rw[hk];exact⟨_,I',q⟩)
theorem zFm (lo hi:Option Int)(n:Nat):(sliceBounds lo hi none n).1=((HT.sIx n 0 lo:Nat):Int)/\(sliceBounds lo hi none n).2.1=((HT.sIx n n hi:Nat):Int)/\(sliceBounds lo hi none n).2.2=1:=by
 refine⟨?_,?_,rfl⟩
 . cases lo with
   | none=>simp[sliceBounds,HT.sIx]
   | some i=>
    simp only[sliceBounds,HT.sIx,Option.getD_none,show (1:Int) > 0 by decide,if_true]
    by_cases h:i<0
    . simp only[h,if_true] <;> omega
    . simp only[h,if_false] <;> omega
 . cases hi with
   | none=>simp[sliceBounds,HT.sIx]
   | some i=>
    simp only[sliceBounds,HT.sIx,Option.getD_none,show (1:Int) > 0 by decide,if_true]
    by_cases h:i<0
    . simp only[h,if_true] <;> omega
    . simp only[h,if_false] <;> omega
theorem zE8 (its:List Value)(lo hi:Option Int):slicePick its.toArray lo hi none=((its.drop (HT.sIx its.length 0 lo)).take (HT.sIx its.length its.length hi-HT.sIx its.length 0 lo)).toArray:=by
 obtain⟨h1,h2,h3⟩:=zFm lo hi its.toArray.size
 unfold slicePick
 rw[h1,h2,h3]
 simp only[sliceRange_one,pick_run,zN] <;> rfl
noncomputable def rSlL (K:PySem.W.Frag):V->Option Int->Option Int->Hp->VK->Prop:=fun x lo hi H Q=>∃a xs,x = .ref a/\SqL K H a xs/\∀p,H p=none->Q (.ref p) (upd H p (.lst (zFR xs lo hi)))
theorem zLn:SlR X (rSlL X.K):=by
 intro pins s σ H x v vl vu lo hi sl Q I rx hs pl pu h
 obtain⟨a,xs,rfl,hx,q⟩:=h
 cases rx
 obtain⟨its,r,ht,hz⟩:=I.list hx
 have hlen:=r.length
 refine⟨"list",_,slot_list_getitem.lookup,ht.isList.typeIs,?_⟩
 refine wpAny_getItem_list_slice ht.isList hs pl pu .none (by simp) ?_ (by rw[zN] <;> omega)
 rw[zE8,<-hlen]
 refine⟨.ref s.heap.objs.size,_,I.laid (t':=s.toks) (o:=.lst (zFR xs lo hi)) (fun b ob q=>zG _ q) (zI _) ?_,rfl,q _ (I.hok.fresh (zI _))⟩
 exact⟨zAP (zDA xs lo hi) hz,_,0,(r.drop (HT.sIx xs.length 0 lo)).take (HT.sIx xs.length xs.length hi-HT.sIx xs.length 0 lo),zL _ rfl⟩
noncomputable def zEh:V->Bool
 | .non=>true
 | .bl _=>true
 | .int _=>true
 | .str _=>true
 | _=>false
noncomputable def eqV:V->V->Bool
 | .non,.non=>true
 | .bl a,.bl b=>a==b
 | .bl a,.int b=>(if a then 1 else 0)==b
 | .int a,.bl b=>a==(if b then 1 else 0)
 | .int a,.int b=>a==b
 | .str a,.str b=>a==b
 | _,_=>false
theorem eqAt_V {A:Around}{y:V}{u v:Value}(ry:zBy y u)(rx:zBy x v)(fy:zEh y=true)(fx:zEh x=true):SeqAt.EqAt A s u v (eqV y x):=by
 cases y with
 | non=>
  cases ry
  cases x with
  | non=>cases rx;exact SeqAt.EqAt.same _
  | bl b=>cases rx;exact SeqAt.EqAt.none_bool b
  | int b=>obtain⟨t,rfl⟩:=rx;exact SeqAt.EqAt.none_int b t
  | str b=>obtain⟨t,rfl⟩:=rx;exact SeqAt.EqAt.none_str b t
  | _=>exact absurd (show false=true from fx) zb
 | bl a=>
  cases ry
  cases x with
  | non=>cases rx;exact SeqAt.EqAt.bool_none a
  | bl b=>cases rx;exact SeqAt.EqAt.bool_bool a b
  | int b=>obtain⟨t,rfl⟩:=rx;exact SeqAt.EqAt.bool_int a b t
  | str b=>obtain⟨t,rfl⟩:=rx;exact SeqAt.EqAt.bool_str a b t
  | _=>exact absurd (show false=true from fx) zb
 | int a=>
  obtain⟨t',rfl⟩:=ry
  cases x with
  | non=>cases rx;exact SeqAt.EqAt.int_none a t'
  | bl b=>cases rx;exact SeqAt.EqAt.int_bool a t' b
  | int b=>obtain⟨t,rfl⟩:=rx;exact SeqAt.EqAt.int_int a t' b t
  | str b=>obtain⟨t,rfl⟩:=rx;exact SeqAt.EqAt.int_str a t' b t
  | _=>exact absurd (show false=true from fx) zb
 | str a=>
  obtain⟨t',rfl⟩:=ry
  cases x with
  | non=>cases rx;exact SeqAt.EqAt.str_none a t'
  | bl b=>cases rx;exact SeqAt.EqAt.str_bool a t' b
  | int b=>obtain⟨t,rfl⟩:=rx;exact SeqAt.EqAt.str_int a t' b t
  | str b=>obtain⟨t,rfl⟩:=rx;exact SeqAt.EqAt.str_str a t' b t
  | _=>exact absurd (show false=true from fx) zb
 | _=>exact absurd (show false=true from fy) zb
noncomputable def eqU (x:V)(u:Value):Bool:=match u with
 | .none=>eqV .non x
 | .bool b=>eqV (.bl b) x
 | .int i _=>eqV (.int i) x
 | .str z _=>eqV (.str z) x
 | _=>false
theorem zLT {y:V}{u:Value}(r:zBy y u)(f:zEh y=true):eqU x u=eqV y x:=by
 cases y with
 | non=>cases r;rfl
 | bl b=>cases r;rfl
 | int i=>obtain⟨t,rfl⟩:=r;rfl
 | str z=>obtain⟨t,rfl⟩:=r;rfl
 | _=>exact absurd (show false=true from f) zb
theorem zEU {x:V}:∀{xs:List V}{us:List Value},zBL xs us->xs.all zEh=true->us.any (eqU x)=xs.any fun y=>eqV y x
 | _,_,.nil,_=>rfl
 | y::xs,u::us,.cons r t,f=>by
  rw[List.all_cons,zAf] at f
  rw[List.any_cons,List.any_cons,zLT r f.1,zEU t f.2]
theorem zDH {A:Around}{s:Shared}{x:V}{v:Value}(rx:zBy x v)(fx:zEh x=true):∀{xs:List V}{us:List Value},zBL xs us->xs.all zEh=true->∀u∈us,SeqAt.EqAt A s u v (eqU x u)
 | _,_,.nil,_=>fun u hu=>by cases hu
 | y::xs,u::us,.cons r t,f=>fun u' hu=>by
  rw[List.all_cons,zAf] at f
  rcases zV.mp hu with rfl | hu
  . rw[zLT r f.1];exact eqAt_V r rx f.1 fx
  . exact zDH rx fx t f.2 u' hu
noncomputable def inV (x:V)(xs:List V):Bool:=xs.any fun y=>eqV y x
noncomputable def rIn (K:PySem.W.Frag)(neg:Bool):R2:=fun x y H Q=>∃p xs,y = .ref p/\(SqL K H p xs\/SqT K H p xs)/\zEh x=true/\xs.all zEh=true/\Q (.bl (if neg then !inV x xs else inV x xs)) H
theorem zCv:OpR X (compareOp .In) (rIn X.K false):=by
 intro pins s σ H x y v u Q I rx ry h
 obtain⟨p,xs,rfl,hq,fx,fs,q⟩:=h
 cases ry
 rcases hq with hq | hq
 . obtain⟨its,r,pl,hz⟩:=I.list hq
   refine SeqAt.in_listAt (eqU x) pl.isList (fun w hw=>zDH rx fx r fs w (by simpa using hw)) ⟨.bl _,H,I,rfl,?_⟩
   rw[show its.toArray.any (eqU x)=its.any (eqU x) by simp,zEU r fs]
   exact q
 . obtain⟨its,r,pl,hz⟩:=I.tuple hq
   refine SeqAt.in_tupleAt (eqU x) pl (fun w hw=>zDH rx fx r fs w (by simpa using hw)) ⟨.bl _,H,I,rfl,?_⟩
   rw[show its.toArray.any (eqU x)=its.any (eqU x) by simp,zEU r fs]
   exact q
theorem zDc:OpR X (compareOp .NotIn) (rIn X.K true):=by
 intro pins s σ H x y v u Q I rx ry h
 obtain⟨p,xs,rfl,hq,fx,fs,q⟩:=h
 cases ry
 rcases hq with hq | hq
 . obtain⟨its,r,pl,hz⟩:=I.list hq
   refine SeqAt.notIn_listAt (eqU x) pl.isList (fun w hw=>zDH rx fx r fs w (by simpa using hw)) ⟨.bl _,H,I,rfl,?_⟩
   rw[show its.toArray.any (eqU x)=its.any (eqU x) by simp,zEU r fs]
   exact q
 . obtain⟨its,r,pl,hz⟩:=I.tuple hq
   refine SeqAt.notIn_tupleAt (eqU x) pl (fun w hw=>zDH rx fx r fs w (by simpa using hw)) ⟨.bl _,H,I,rfl,?_⟩
   rw[show its.toArray.any (eqU x)=its.any (eqU x) by simp,zEU r fs]
   exact q
theorem zAS:zCg X (.builtin "len") (fun xs H Q=>∃p ys,xs=[.ref p]/\(SqL X.K H p ys\/SqT X.K H p ys)/\Q (.int ys.length) H):=by
 intro pins s σ H xs us Q I r h
 obtain⟨p,ys,rfl,hq,q⟩:=h
 obtain⟨u,rfl,rx⟩:=zC3 r
 cases rx
 have hn:=zF0
 rcases hq with hq | hq
 . obtain⟨its,r',pl,hz⟩:=I.list hq
   have hlen:=r'.length
   exact Calls.call_len_list pl.isList (by simp only[zN] <;> omega) ⟨.int ys.length,H,I.tok _,⟨s.toks+1,by rw[zN,hlen]⟩,q⟩
 . obtain⟨its,r',pl,hz⟩:=I.tuple hq
   have hlen:=r'.length
   exact len_tuple pl (by simp only[zN] <;> omega) ⟨.int ys.length,H,I.tok _,⟨s.toks+1,by rw[zN,hlen]⟩,q⟩
theorem zDi:zCg X (.type "list") (fun xs H Q=>∃p ys,xs=[.ref p]/\(SqL X.K H p ys\/SqT X.K H p ys)/\∀l,H l=none->Q (.ref l) (upd H l (.lst ys))):=by
 intro pins s σ H xs us Q I r h
 obtain⟨p,ys,rfl,hq,q⟩:=h
 obtain⟨u,rfl,rx⟩:=zC3 r
 cases rx
 have fin:∀(its:List Value),zBL ys its->ys.length<=sizeLine->∀(h':Heap)(c':Nat),(∀b o',s.heap.get? b=some o'->h'.get? b=some o') ->
  h'.get? s.heap.objs.size=some { cls:=.type "list",dict:=none,data:=.seq its.toArray c',slots:=#[] }->EP X pins σ Q (.ref s.heap.objs.size) { s with heap:=h' }:=fun its r' hz h' c' kp e=>
  ⟨.ref s.heap.objs.size,_,I.laid (t':=s.toks) kp (zI _) (show zBK X.prog X.w _ h' _ (.lst ys) from ⟨hz,its,c',r',e⟩),rfl,q _ (I.hok.fresh (zI _))⟩
 rcases hq with hq | hq
 . obtain⟨its,r',pl,hz⟩:=I.list hq
   have hlen:=r'.length
   obtain⟨o,ho,hc,n,hd⟩:=pl.isList
   exact call_list_seq p (.inl rfl) ho hc hd (fun h' c' kp e=>fin its r' hz h' c' kp e) (by simp only[zN] <;> omega)
 . obtain⟨its,r',pl,hz⟩:=I.tuple hq
   have hlen:=r'.length
   obtain⟨o,ho,hc,n,hd⟩:=pl
   exact call_list_seq p (.inr rfl) ho hc hd (fun h' c' kp e=>fin its r' hz h' c' kp e) (by simp only[zN] <;> omega)
theorem zAI:zCg X (.type "tuple") (fun xs H Q=>∃p ys,xs=[.ref p]/\((SqL X.K H p ys/\∀l,H l=none->Q (.ref l) (upd H l (.tup ys)))\/(SqT X.K H p ys/\Q (.ref p) H))):=by
 intro pins s σ H xs us Q I r h
 obtain⟨p,ys,rfl,h⟩:=h
 obtain⟨u,rfl,rx⟩:=zC3 r
 cases rx
 rcases h with ⟨hq,q⟩ | ⟨hq,q⟩
 . obtain⟨its,r',pl,hz⟩:=I.list hq
   have hlen:=r'.length
   refine call_tuple_list pl.isList (fun h' kp=>?_) (by simp only[zN] <;> omega)
   have I1:Inv X pins σ H { s with heap:=h' }:=I.kept (t':=s.toks) kp
   have I2:Inv X pins σ (upd H h'.objs.size (.tup ys)) { s with heap:=h'.push { cls:=.type "tuple",data:=.seq its.toArray } }:=
    I1.laid (t':=s.toks) (fun b o e=>zG _ e) (zI _) (show zBK X.prog X.w _ _ _ (.tup ys) from ⟨⟨hz,_,zL _ rfl,rfl⟩,its,r',IsTup.new _ _⟩)
   exact⟨.ref h'.objs.size,_,I2,rfl,q _ (I1.hok.fresh (zI _))⟩
 . obtain⟨its,r',pl,hz⟩:=I.tuple hq
   exact call_tuple_same pl ⟨.ref p,H,I,rfl,q⟩
noncomputable def tyV (K:PySem.W.Frag)(T:String)(x:V)(H:Hp):Prop:=match x with
 | .str _=>T = "str"
 | .int _=>T = "int"
 | .ref p=>(T = "list" /\ ∃xs,SqL K H p xs)\/(T = "tuple" /\ ∃o,K.lookup p=some o/\o.cls = .type "tuple" /\ o.dict=none) \/
  (T = "dict" /\ ((∃kvs,H p=some (.dK kvs))\/∃kvs,H p=some (.dT kvs)))\/(T = "set" /\ ∃S n,H p=some (.set S n))
 | _=>False
theorem tyV_is {pins:lPO}{T:String}{v:Value}(I:Inv X pins σ H s)(r:zBy x v)(ty:tyV X.K T x H) :
 s.TypeIs v T/\∀a,v = .ref a->∃ob,s.heap.get? a=some ob/\ob.dict=none:=by
 cases x with
 | str z=>
  obtain⟨t,rfl⟩:=r
  cases (show T = "str" from ty)
  exact⟨typeIs_str s z t,fun _ e=>nomatch e⟩
 | int i=>
  obtain⟨t,rfl⟩:=r
  cases (show T = "int" from ty)
  exact⟨typeIs_int s i t,fun _ e=>nomatch e⟩
 | ref p=>
  cases r
  rcases ty with ⟨rfl,xs,hq⟩ | ⟨rfl,o,hk,hc,hd⟩ | ⟨rfl,hk⟩ | ⟨rfl,S,n,hk⟩
  . obtain⟨its,_,pl,_⟩:=I.list hq
    refine⟨pl.isList.typeIs,fun a e=>?_⟩
    cases e
    obtain⟨o,n,e,c,hd,_⟩:=pl
    exact⟨o,e,hd⟩
  . refine⟨⟨o,I.kIn p o hk,hc⟩,fun a e=>?_⟩
    cases e
    exact⟨o,I.kIn _ o hk,hd⟩
  . have z:∃o,s.heap.get? p=some o/\o.ExactDict:=by
     rcases hk with ⟨kvs,hk⟩ | ⟨kvs,hk⟩
     . obtain⟨_,_,_,_,o,_,_,e,ex,_⟩:=I.hok p _ hk
       exact⟨o,e,ex⟩
     . obtain⟨_,_,_,_,o,_,_,e,ex,_⟩:=I.hok p _ hk
       exact⟨o,e,ex⟩
    obtain⟨o,e,ex⟩:=z
    refine⟨⟨o,e,ex.1⟩,fun a e2=>?_⟩
    cases e2
    exact⟨o,e,ex.2.1⟩
  . obtain⟨o,_,_,_,e,ex,_⟩:=I.hok p _ hk
    refine⟨⟨o,e,ex.1⟩,fun a e2=>?_⟩
    cases e2
    exact⟨o,e,ex.2.1⟩
 | _=>exact False.elim ty
noncomputable def tBM (K:PySem.W.Frag)(T:String)(r:V->List V->Hp->VK->Prop)(to:TE)(t:TA):TE:=fun σ H Q=>to σ H fun x H1=>tyV K T x H1/\t σ H1 fun xs H2=>r x xs H2 Q
variable {o e:Expr}{es:List Expr}{to:TE}{t:TA}{name:Str}{apos cpos:Pos}{T id:String}{r:V->List V->Hp->VK->Prop}
theorem zED (pa:PlainAttrs T)(slot:Slot T name id)(hty:typeOf (.builtin id)=pure (.type "method_descriptor")) (hm:MtR X id r)(ho:PE X o to)(ha:PA X (e::es) t)
 (hbase:attributeBase o name X.env (eval o X.env)=eval o X.env:=by rfl)
 (hfew:((backTo cpos (starEach (e::es) X.env)).all (fun x=>!x.1) && (backToKw cpos (keywordEach [] X.env)).all (fun x=>x.1.isSome)
  && decide ((e::es).length+([]:List Keyword).length+(if ([]:List Keyword).isEmpty then 0 else 1)<30))=true:=by rfl)
 (hline:(apos.endLine==cpos.line)=true:=by rfl)(hs:starEach (e::es) X.env=(false,eval e X.env)::starEach es X.env:=by rfl)(hplain:(backTo cpos (starEach es X.env)).any (·.1)=false:=by rfl) :
 PE X (.Call (.Attribute o name apos) (e::es) [] cpos) (tBM X.K T r to t):=by
 intro pins s σ H Q I h
 refine wpAny_Call_method_late hbase hfew hline rfl (thn (ho pins s σ H _ I h) fun v s1 ⟨x,H1,I1,r1,ty,q1⟩=>?_)
 obtain⟨h1,h2⟩:=tyV_is I1 r1 ty
 refine⟨T,id,pa,slot,hty,h1,h2,?_⟩
 have hA:=ha cpos pins s1 σ H1 _ I1 q1
 rw[hs] at hA ⊢
 refine Calls.callWith_builtin (by show (false || (backTo cpos (starEach es X.env)).any (·.1))=false;rw[hplain] <;> rfl) (Calls.evalArgs_plain ?_)
 exact thn hA fun us s2 ⟨vs,H2,I2,r2,q2⟩=>hm pins s2 σ H2 x vs v us Q I2 r1 r2 q2
end
noncomputable def MtM (X:Cx)(id:String)(r:V->List V->Hp->VK->Prop):Prop:=
 ∀(pins:lPO)(s:Shared)(σ:St)(H:Hp)(x:V)(xs:List V)(v:Value)(us:List Value)(Q:VK),Inv X pins σ H s->zBy x v->zBL xs us->r x xs H Q ->
  wpAny (model X.prog X.w) X.A (call (.builtin id) (v::us)) (EP X pins σ Q) X.xe s
theorem zBL.one:∀{x:V}{us:List Value},zBL [x] us->∃u,us=[u]/\zBy x u
 | _,_,.cons r .nil=>⟨_,rfl,r⟩
theorem zBL.eraseIdx:∀{xs:List V}{us:List Value}(i:Nat),zBL xs us->zBL (xs.eraseIdx i) (us.eraseIdx i)
 | _,_,_,.nil=>.nil
 | _,_,0,.cons _ t=>t
 | _,_,i+1,.cons r t=>.cons r (zBL.eraseIdx i t)
theorem zBL.rep {xs:List V}{us:List Value}(h:zBL xs us):∀k:Nat,zBL (List.replicate k xs).flatten (List.replicate k us).flatten
 | 0=>.nil
 | k+1=>by
  rw[zBB,zBB,List.flatten_cons,List.flatten_cons]
  exact zBL.append h (zBL.rep h k)
theorem zF2 {α:Type}:∀(l:List α)(i:Nat),(l.eraseIdx i).length<=l.length
 | [],_=>zI _
 | _::_,0=>zBf _
 | _::r,i+1=>Nat.succ_le_succ (zF2 r i)
theorem zF7 (its:List Value):∀(k:Nat)(acc:List Value),
 List.foldl (fun x1 x2=>x1++x2) acc.toArray (List.replicate k its.toArray)=(acc++(List.replicate k its).flatten).toArray
 | 0,acc=>by simp
 | k+1,acc=>by
  have e:acc.toArray++its.toArray=(acc++its).toArray:=by simp
  have e2:(acc++its)++(List.replicate k its).flatten=acc++(List.replicate (k+1) its).flatten:=by
   rw[zBB,List.flatten_cons,List.append_assoc]
  rw[<-e2,<-zF7 its k (acc++its),<-e,zBB,List.foldl_cons]
section
variable {X:Cx}{pins:lPO}{σ:St}{H:Hp}{s:Shared}{l b:Addr}{xs ys zs:List V}
theorem Inv.lset {its':List Value}{f:Array Value->Array Value}{t':Nat}(I:Inv X pins σ H s)(hH:H l=some (.lst xs))
 (e:s.heap.get? l=some { cls:=.type "list",data:=.seq its.toArray n }) (hf:f its.toArray=its'.toArray)(hv:zBL ys its')(hz:ys.length<=sizeLine) :
 Inv X pins σ (upd H l (.lst ys)) { s with heap:=s.heap.update l (Obj.mapSeq f),toks:=t' }:=by
 have q:=PySem.IsL.update e f
 rw[hf] at q
 refine I.write (x:=l) (e:=l) (by rw[hH];exact trivial) (.inl rfl) (fun b' u hb hu=>(zBi s.heap (Obj.mapSeq f) (Ne.symm hb)).trans hu) ⟨_,q⟩ ?_
 exact⟨hz,its',_,hv,q⟩
theorem Inv.lnew {t':Nat}(I:Inv X pins σ H s)(hv:zBL ys its)(hz:ys.length<=sizeLine) :
 Inv X pins σ (upd H s.heap.objs.size (.lst ys)) { s with heap:=s.heap.push { cls:=.type "list",data:=.seq its.toArray },toks:=t' }:=
 I.laid (fun _ _ q=>zG _ q) (zI _) ⟨hz,its,0,hv,zL _ rfl⟩
theorem Inv.fresh (I:Inv X pins σ H s):H s.heap.objs.size=none:=I.hok.fresh (zI _)
theorem Inv.lstM (I:Inv X pins σ H s)(hH:H l=some (.lst xs)):xs.length<=sizeLine/\∃(its:List Value)(n:Nat),zBL xs its/\xs.length=its.length/\s.heap.get? l=some { cls:=.type "list",data:=.seq its.toArray n }:=by
 obtain⟨z,its,n,r,e⟩:=I.hok l _ hH
 exact⟨z,its,n,r,r.length,e⟩
theorem zHE (h:n<=sizeLine):Builtin.List.listTooLong n=false:=by
 unfold Builtin.List.listTooLong
 exact zu (by omega)
end
section
variable {X:Cx}
noncomputable def zLw:V->List V->Hp->VK->Prop:=fun x vs H Q=>∃l xs y,x = .ref l/\vs=[y]/\H l=some (.lst xs)/\xs.length<sizeLine/\Q .non (upd H l (.lst (xs++[y])))
theorem zBr:MtM X "list.append" zLw:=by
 intro pins s σ H x vs v us Q I rx rv h
 obtain⟨l,xs,y,rfl,rfl,hH,hz,q⟩:=h
 cases rx
 obtain⟨u,rfl,ru⟩:=rv.one
 obtain⟨z,its,n,r,hl,e⟩:=I.lstM hH
 refine call_meets F.slot_list_append ⟨_,e,rfl⟩ F.entry_list_append (F.args_list_append_2 _ _) (PySem.list_append l its.toArray n u (by rw[zN];omega)) ⟨e,?_⟩
 refine⟨.non,_,I.lset (its':=its++[u]) hH e (by simp) (r.append (.cons ru .nil)) ?_,rfl,q⟩
 rw[zO,List.length_singleton]
 omega
noncomputable def zLv:V->List V->Hp->VK->Prop:=fun x vs H Q=>∃l b xs zs,x = .ref l/\vs=[.ref b]/\H l=some (.lst xs)/\H b=some (.lst zs)/\xs.length+zs.length<=sizeLine/\Q .non (upd H l (.lst (xs++zs)))
theorem zIl:MtM X "list.extend" zLv:=by
 intro pins s σ H x vs v us Q I rx rv h
 obtain⟨l,b,xs,zs,rfl,rfl,hH,hB,hz,q⟩:=h
 cases rx
 obtain⟨u,rfl,ru⟩:=rv.one
 cases ru
 obtain⟨z,its,n,r,hl,e⟩:=I.lstM hH
 obtain⟨z2,its2,n2,r2,hl2,e2⟩:=I.lstM hB
 have hsz:its.toArray.size+its2.toArray.size<=sizeLine:=by rw[zN,zN];omega
 have hlong:¬ (!its.toArray.isEmpty && Builtin.List.listTooLong (its.toArray.size+its2.toArray.size))=true:=by
  rw[zHE hsz,Bool.and_false]
  exact zb
 refine call_meets F.slot_list_extend ⟨_,e,rfl⟩ F.entry_list_extend (F.args_list_extend_2 _ _)
  (AutoSeq1.list_extend_list_list_0 l its.toArray n b its2.toArray n2 hlong (by rw[zN];omega) (by omega)) ⟨e,e2,?_⟩
 refine⟨.non,_,I.lset (its':=its++its2) hH e (by simp) (r.append r2) ?_,rfl,q⟩
 rw[zO]
 omega
noncomputable def rPopAt:V->List V->Hp->VK->Prop:=fun x vs H Q=>∃l xs i k y,x = .ref l/\vs=[.int i]/\H l=some (.lst xs) /\ -(2 ^ 63)<=i/\i<2 ^ 63/\seqIndex? i xs.length=some k/\xs[k]? = some y/\Q y (upd H l (.lst (xs.eraseIdx k)))
theorem zKM:MtM X "list.pop" rPopAt:=by
 intro pins s σ H x vs v us Q I rx rv h
 obtain⟨l,xs,i,k,y,rfl,rfl,hH,h1,h2,hk,hy,q⟩:=h
 cases rx
 obtain⟨u,rfl,ru⟩:=rv.one
 obtain⟨t,rfl⟩:=ru
 obtain⟨z,its,n,r,hl,e⟩:=I.lstM hH
 obtain⟨w,hw,rw'⟩:=r.get hy
 refine call_meets F.slot_list_pop ⟨_,e,rfl⟩ F.entry_list_pop (F.args_list_pop_2 _ _)
  (MeetsSeq.list_pop_at l its.toArray n i t k w (fitsIndex_both h1 h2) (by rw[zN,<-hl];exact hk) (by rw[<-Array.getElem?_toList];exact hw) (by rw[zN];omega)) ⟨e,?_⟩
 refine⟨y,_,I.lset (its':=its.eraseIdx k) hH e ?_ (r.eraseIdx k) ?_,rw',q⟩
 . show its.toArray.eraseIdxIfInBounds k=(its.eraseIdx k).toArray
   rw[List.eraseIdxIfInBounds_toArray]
 . have:=zF2 xs k
   omega
noncomputable def rCat:R2:=fun x y H Q=>∃l b xs zs,x = .ref l/\y = .ref b/\H l=some (.lst xs)/\H b=some (.lst zs)/\xs.length+zs.length<=sizeLine/\∀p,H p=none->Q (.ref p) (upd H p (.lst (xs++zs)))
theorem zIc:OpR X (binaryOp .Add) rCat:=by
 intro pins s σ H x y v u Q I rx ry h
 obtain⟨l,b,xs,zs,rfl,rfl,hH,hB,hz,q⟩:=h
 cases rx
 cases ry
 obtain⟨z,its,n,r,hl,e⟩:=I.lstM hH
 obtain⟨z2,its2,n2,r2,hl2,e2⟩:=I.lstM hB
 refine PySem.P.add_list e e2 ?_ (by rw[zN,zN];omega)
 have ea:its.toArray++its2.toArray=(its++its2).toArray:=by simp
 rw[ea]
 exact⟨.ref _,_,I.lnew (t':=s.toks) (r.append r2) (by rw[zO];omega),rfl,q _ I.fresh⟩
noncomputable def rRep:R2:=fun x y H Q=>∃l k xs,x = .ref l/\y = .int k/\H l=some (.lst xs) /\ -(2 ^ 63)<=k/\k<2 ^ 63/\xs.length*k.toNat<=sizeLine /\
 ∀p,H p=none->Q (.ref p) (upd H p (.lst (List.replicate k.toNat xs).flatten))
theorem zMb {α:Type}(xs:List α)(k:Nat):(List.replicate k xs).flatten.length=k*xs.length:=by
 induction k with
 | zero=>simp
 | succ k ih=>rw[zBB,List.flatten_cons,zO,ih,Nat.succ_mul,Nat.add_comm]
theorem zLD:OpR X (binaryOp .Mult) rRep:=by
 intro pins s σ H x y v u Q I rx ry h
 obtain⟨l,k,xs,rfl,rfl,hH,h1,h2,hz,q⟩:=h
 cases rx
 obtain⟨t,rfl⟩:=ry
 obtain⟨z,its,n,r,hl,e⟩:=I.lstM hH
 have hlen:its.toArray.size*k.toNat<=sizeLine:=by rw[zN,<-hl];exact hz
 have hcap:¬ its.toArray.size*k.toNat > (2 ^ 63-1)/8:=by
  have:(sizeLine:Nat)<=(2 ^ 63-1)/8:=by decide
  omega
 have hfit:¬ (!Builtin.List.listFitsIndex k)=true:=by
  rw[fitsIndex_both h1 h2]
  exact zb
 have hlong:¬ Builtin.List.listTooLong (its.toArray.size*k.toNat)=true:=by
  rw[zHE hlen]
  exact zb
 have hnew:List.foldl (fun x1 x2=>x1++x2) #[] (List.replicate (if its.toArray.isEmpty=true then 0 else k.toNat) its.toArray)=(List.replicate k.toNat its).flatten.toArray:=by
  have f0:∀m:Nat,List.foldl (fun x1 x2=>x1++x2) #[] (List.replicate m its.toArray)=(List.replicate m its).flatten.toArray:=fun m=>by
   have:=zF7 its m []
   rw[List.nil_append] at this
   exact this
  rw[f0]
  cases its with
  | nil=>simp
  | cons a r'=>rw[if_neg (by simp)]
 refine wpAny_binaryOp_repeat_ref (T := "list") (U := "int") (by decide) ⟨_,e,rfl⟩ (fun s'=>typeIs_int s' k t) noFill_list_mul F.fills_int_mul F.slot_int_rmul repeat_list F.slot_int_index.lookup
  (call_meets F.slot_int_rmul (typeIs_int s k t) F.entry_int_rmul (F.args_int_rmul_2 _ _) (int___rmul___int_list k t l its.toArray n)
   ⟨e,rfl,⟨_,e,rfl⟩,call_meets F.slot_list_mul ⟨_,e,rfl⟩ F.entry_list_mul (F.args_list_mul_2 _ _) (AutoListH.list___mul___list_int_3 l its.toArray n k t hfit hcap hlong) ⟨e,?_⟩⟩)
 rw[hnew]
 exact⟨.ref _,_,I.lnew (t':=s.toks) (r.rep k.toNat) (by rw[zMb,Nat.mul_comm];exact hz),rfl,q _ I.fresh⟩
end
section
variable {prog:Program}{w:World}{A:Around}{E:vSP}{s:Shared}
set_option maxRecDepth 100000 in
end
end L2
namespace Att
open PySem PySem.W PySem.Calls PyProof.Rows
theorem zEL {P:Params}{h:Heap}:∀(ns:List Int)(vs:List Value),WellAll P h vs (ns.map WData.int)->IntsAre vs ns:=by
 intro ns
 induction ns with
 | nil=>
  intro vs w
  rw[List.map_nil] at w
  cases w
  exact .nil
 | cons n ns ih=>
  intro vs w
  rw[zAX] at w
  cases w with
  | cons a b=>
   cases a
   exact .cons _ _ (ih _ b)
theorem zIC {l:OpenLaw}{n:Nat}(hn:l.most=some n){P:Params}{h:Heap}{args:List WData}{vals:List Value}
 (hpre:l.row.toRowW.claim.pre args=true)(hwl:WellAll P h vals args) :
 ∃a vs ns,vals=[Value.ref a]/\args=[WData.list (ns.map WData.int)]/\h.get? a=some { cls:=.type "list",data:=.seq vs.toArray }/\IntsAre vs ns/\ns.length<=n:=by
 have hsh:WShape.hasAll [] args [.list .int]=true:=(pre_splitW hpre).1
 have hc:l.pre.holds [] { args:=args }=true:=(pre_splitW hpre).2
 obtain⟨d,r,rfl,h1,h2⟩:=hasAllW_cons hsh
 obtain rfl:=hasAllW_nil h2
 obtain⟨xs,rfl,h3⟩:=hasW_list h1
 obtain⟨ns,rfl⟩:=items_int h3
 have hlen:ns.length<=n:=by
  unfold OpenLaw.pre at hc
  have h4:(WTm.not (.lt (.lit (.int (n:Int))) (.len (.arg 0)))).holds [] { args:=[.list (ns.map .int)] }=true:=by
   have h4:=(holds_andW hc).1
   rw[hn] at h4
   exact h4
  have h5:=condW_of h4 (w_not (w_lt w_lit (w_len_list (w_arg rfl))))
  rw[zB] at h5
  refine Nat.le_of_not_lt fun q=>?_
  have q':(n:Int)<((ns.length:Nat):Int):=by omega
  first
   | (rw[zW q'] at h5;exact absurd h5 (by decide))
   | (simp at h5;omega)
 cases hwl with
 | cons w1 w2=>
  cases w2
  cases w1 with
  | list ho hall=>exact⟨_,_,ns,rfl,rfl,ho,zEL ns _ hall,hlen⟩
theorem zIT (l:OpenLaw)(args:List WData):l.row.toRowW.claim.post args (.bool true) args=true:=
 postW_of (r:=l.row.toRowW) (X:=(true==true))
  (show WShape.has [] (.bool true) .bool=true by first | rfl | decide | simp[WShape.has,WShape.arms,WShape.armsAll])
  (show (WTm.eq .res (.lit (.bool true))).value [] { args:=args,res:=some (.bool true),after:=args }=some (.bool (true==true)) from w_eq_bool (w_res rfl) w_lit) rfl
theorem attach_call {l:OpenLaw}{n:Nat}{q:Program}{loose:List Str}{XP:(Str->Option Value)->Heap->Prop}{YP:World->Heap->Prop}{d:DefRec}
 (hn:l.most=some n)(hdf:d.params.defaults=[])
 (call:∀(w:World)(s₀ s₁:Shared)(mg mb:sOV)(fa:Addr)(o:Obj)(pm cd doc:Value)(a:Addr)(vs:List Value)(ns:List Int),
  Ground q loose [] XP w s₀ mg mb s₁.heap->YP w s₁.heap ->
  s₁.heap.get? fa=some o->o.data = .func (docDef d.name d.params d.body d.scope pm cd doc)->s₁.heap.CodeRec cd d.name->mg d.name=some (.ref fa) ->
  s₁.heap.get? a=some { cls:=.type "list",data:=.seq vs.toArray }->IntsAre vs ns->ns.length<=n->s₁.gens = #[] ->
  codeAny (model l.prog w) callerA (.call (.ref fa) ⟨[.ref a],[]⟩) (fun r s'=>r = .ok (.ret (.bool true))/\OldK s₁.heap s'.heap/\s'.os=s₁.os/\AllBare s'.gens) s₁) :
 WalkO q loose XP YP l.row.toRowW d [] (fun f vs=>PySem.call f vs):=by
 intro w s₀ s₁ mg mb G Y fa o pm cd doc dV kV ho hd hcd hD hmg hg args vals as hpre hlay hrd hwl hlo
 obtain rfl:dV = .none:=Dflts.none hD hdf
 obtain rfl:kV = .none:=Dflts.noKw hD
 obtain⟨a,vs,ns,rfl,rfl,hobj,hints,hlen⟩:=zIC hn hpre hwl
 refine enter_call (codeAny_mono (call w s₀ s₁ mg mb fa o pm cd doc a vs ns G Y ho (fd_plain hd) hcd hmg hobj hints hlen hg) fun r s' hq=>?_)
 obtain⟨rfl,h2,h3,h4⟩:=hq
 exact⟨.inl ⟨.bool true,.bool true,[],rfl,fun _=>rfl,.bool true,zIT l _,fun _=>⟨zBD,fun _ hm=>(nomatch hm)⟩⟩,h2,h3,h4⟩
end Att
namespace L2
open PySem PySem.Spec PyProof.Rows
theorem zFb:∀{vs:List Value}{ns:List Int},IntsAre vs ns->zBL (ns.map V.int) vs
 | _,_,.nil=>.nil
 | _,_,.cons n t h=>.cons ⟨t,rfl⟩ (zFb h)
noncomputable def defArgs (s:Stmt):Arguments:=match s with
 | .FunctionDef _ a _ _ _ _ _ _ _ _=>a
 | _=>{ posonlyargs:=[],args:=[],vararg:=none,kwonlyargs:=[],kw_defaults:=[],kwarg:=none,defaults:=[] }
noncomputable def defBody (s:Stmt):List Stmt:=match s with
 | .FunctionDef _ _ b _ _ _ _ _ _ _=>b
 | _=>[]
noncomputable def defScope (s:Stmt):Scope:=match s with
 | .FunctionDef _ _ _ _ _ _ sc _ _ _=>sc
 | _=>{ kind:=.function,names:=[],isGenerator:=false,isCoroutine:=false }
noncomputable abbrev CX0:CXT:=fun _ _ _ _ _ _=>False
noncomputable abbrev E0:XK:=fun _ _ _=>False
theorem zAt {X:Cx}:zJW CX0 X E0:=fun _ _ _ _ _ _ _ h=>h.elim
structure Fun (K:PySem.W.Frag)(x qual:Str)(st:Stmt)(f:Addr)(fd:FuncData):Prop where
 ex:∃(oc:Value)(od:Option Addr)(kV doc pm:Value)(an:Option Addr)(cdv ct:Value)(osl:Array (Option Value)),
  fd=PySem.W.fnOf x qual (defArgs st) (defBody st) (defScope st) .none kV doc pm an cdv ct/\K.lookup f=some ⟨oc,od,.func fd,osl⟩/\PySem.W.codeIn K cdv qual=true
 kp:PySem.W.keepIn K (.ref f)=true
variable {x qual:Str}{st:Stmt}{f:Addr}
section
variable {P:Program}{w:World}{K:PySem.W.Frag}{mg:sOV}{base:Heap}
theorem Fun.ok {fd:FuncData}{N ps:List Str}{k:Nat}{sp:Sp}(F:Fun K x qual st f fd)(S:zAO N ps (defScope st))(len:∀vs H Q E,sp vs H Q E->vs.length=ps.length)
 (hbody:∀(cdv:Value)(A:Around)(outer:List Env)(s:Shared)(H:Hp)(vs:List V)(Q:VK)(E:XK),zDM k (A.deeper (envOfC qual (defScope st) s.heap.objs.size f cdv))->sp vs H Q E ->
  ∃t,PSs (zJH CX0 P w K mg base N qual (defScope st) f cdv A outer s H E).nox (defBody st) t/\t { nx:=fun _ H'=>Q .non H',rt:=Q } (start N vs) H):zAg P w K mg base CX0 (k+1) f fd ps sp:=by
 obtain⟨oc,od,kV,doc,pm,an,cdv,ct,osl,rfl,lk,hcd⟩:=F.ex
 refine zMi lk hcd S len fun A outer s H vs Q E hr hsp=>?_
 obtain⟨t,h,q⟩:=hbody cdv A outer s H vs Q E hr hsp
 exact⟨t,h.nox,q⟩
theorem Fun.binds {fd:FuncData}{ps:List Str}(F:Fun K x qual st f fd)
 (h:∀(kV doc pm:Value)(an:Option Addr)(cdv ct:Value)(us:List Value),us.length=ps.length->bindArgs (PySem.W.fnOf x qual (defArgs st) (defBody st) (defScope st) .none kV doc pm an cdv ct) ⟨us,[]⟩=pure (ps.zip us)):zAU K fd ps []:=by
 obtain⟨oc,od,kV,doc,pm,an,cdv,ct,osl,rfl,lk,hcd⟩:=F.ex
 exact .all (h kV doc pm an cdv ct)
theorem fun_mk {oc:Value}{od an:Option Addr}{osl:Array (Option Value)}{kV doc pm cdv ct:Value}(l:K.lookup f=some ⟨oc,od,.func (PySem.W.fnOf x qual (defArgs st) (defBody st) (defScope st) .none kV doc pm an cdv ct),osl⟩)
 (c:PySem.W.codeIn K cdv qual=true)(k:PySem.W.keepIn K (.ref f)=true):Fun K x qual st f (PySem.W.fnOf x qual (defArgs st) (defBody st) (defScope st) .none kV doc pm an cdv ct):=⟨⟨oc,od,kV,doc,pm,an,cdv,ct,osl,rfl,l,c⟩,k⟩
end
theorem zMd {A:Around}{k:Nat}(hr:zDM k A):A.units+1<cLine:=zAo (Nat.add_le_add_left (by decide:1<=64) _) hr.units
section
variable {X:Cx}
theorem pv (i:Nat){x:Str}{pos:Pos}(hN:X.N[i]? = some x:=by rfl)(hv:Vis X.env.scope x:=by first | exact Or.inl rfl | exact Or.inr (Or.inl rfl) | exact Or.inr (Or.inr rfl))(hd:(x==("__debug__" : Str))=false:=by decide)
 (hcd:(x==("__classdict__" : Str))=false:=by decide):PE X (.Name x pos) (tVar i):=pe_var hN hv hd hcd
end
variable {A B:Prop}
theorem zCw (h:B):if false=true then A else B:=by
 rw[if_neg zb]
 exact h
theorem zCt (h:A):if true=true then A else B:=by
 rw[if_pos rfl]
 exact h
theorem zCz {c:Prop} [Decidable c] (h1:c->A)(h2:¬ c->B):if c then A else B:=by
 by_cases h:c
 . rw[if_pos h]
   exact h1 h
 . rw[if_neg h]
   exact h2 h
noncomputable def zAw (H H':Hp):Prop:=∀b o,H b=some o->H' b=some o
theorem zAw.refl (H:Hp):zAw H H:=fun _ _ h=>h
theorem zAw.trans {H H1 H2:Hp}(a:zAw H H1)(b:zAw H1 H2):zAw H H2:=fun c o h=>b c o (a c o h)
section
variable {κ:Type} [DecidableEq κ]
theorem zG0 {kvs:List (κ×V)}{k:κ}(h:zCu kvs k=none):¬ k∈kvs.map (·.1):=by
 intro m
 obtain⟨p,hp,e⟩:=zAM.mp m
 have q:(kvs.any fun kv=>decide (kv.1=k))=true:=zB7.mpr ⟨p,hp,zW e⟩
 rw[zCW,h] at q
 exact absurd q (by simp)
theorem zLY {kvs:List (κ×V)}{k:κ}{v:V}(h:zCu kvs k=some v):k∈kvs.map (·.1):=by
 have q:(kvs.any fun kv=>decide (kv.1=k))=true:=by
  rw[zCW,h]
  all_goals rfl
 obtain⟨p,hp,e⟩:=zB7.mp q
 exact zAM.mpr ⟨p,hp,of_decide_eq_true e⟩
theorem zIk:∀{l:List κ}{k:κ},l.Nodup->¬ k∈l->(l++[k]).Nodup
 | [],k,_,_=>by simp
 | a::r,k,h,hk=>by
  obtain⟨h1,h2⟩:=zAk.mp h
  show (a::(r++[k])).Nodup
  refine zAk.mpr ⟨fun m=>?_,zIk h2 fun m=>hk (zV.mpr (Or.inr m))⟩
  rcases zm.mp m with q | q
  . exact h1 q
  . exact hk (zV.mpr (Or.inl (zf.mp q).symm))
theorem zMY {kvs:List (κ×V)}{k:κ}(v:V)(hn:(kvs.map (·.1)).Nodup)(h:zCu kvs k=none):((zDl kvs k v).map (·.1)).Nodup:=by
 rw[zJ1 v h,zR]
 exact zIk hn (zG0 h)
theorem zGB {p:κ×V}{r:List (κ×V)}{k:κ}(e:p.1=k):zCV (p::r) k=zCV r k:=by
 unfold zCV
 rw[zB6,if_neg (by simp[e])]
theorem zGC {p:κ×V}{r:List (κ×V)}{k:κ}(e:¬ p.1=k):zCV (p::r) k=p::zCV r k:=by
 unfold zCV
 rw[zB6,if_pos (by simp[e])]
theorem zGD {kvs:List (κ×V)}{k:κ}{p:κ×V}(h:p∈zCV kvs k):p∈kvs:=(zAs.mp h).1
theorem zFL:∀{kvs:List (κ×V)}{k:κ},(kvs.map (·.1)).Nodup->((zCV kvs k).map (·.1)).Nodup
 | [],_,_=>List.nodup_nil
 | p::r,k,h=>by
  have h:(p.1::r.map (·.1)).Nodup:=h
  obtain⟨h1,h2⟩:=zAk.mp h
  by_cases e:p.1=k
  . rw[zGB e]
    exact zFL h2
  . rw[zGC e]
    show (p.1::(zCV r k).map (·.1)).Nodup
    refine zAk.mpr ⟨fun m=>h1 ?_,zFL h2⟩
    obtain⟨q,hq,eq⟩:=zAM.mp m
    exact zAM.mpr ⟨q,zGD hq,eq⟩
end
end L2
set_option Elab.async false
set_option linter.all false
set_option maxRecDepth 100000
set_option maxHeartbeats 4000000
namespace L2
open PySem PySem.Spec PyProof.Rows
theorem zDh {prog:Program}{w:World}{A:Around}{R:Result->Shared->Prop}{s:Shared}{elt target iter:Expr}{ifs:List Expr}{scope:Scope}{pos:Pos}{it acc:Value}{env:Env}(I:Nat->Shared->Prop)
 (turn:∀n s,I n s->wpAny (model prog w) A (pyNext it) (fun r s₁=>match r with
  | none=>R (.ok .next) s₁
  | some v=>wpAny (model prog w) A (letOwnedTupleGo target it v) (fun _ s₁'=>wpAny (model prog w) A (assign target env v) (fun _ s₂=>
   wpAny (model prog w) A (forIn ifs true fun c r=>if r=true then do let ok <-isTrue c env (eval c env);pure (ForInStep.yield ok) else pure (ForInStep.yield r)) (fun ok s₃=>
    if ok=true then wpAny (model prog w) A (eval elt env) (fun x s₄=>
     wpAny (model prog w) A (call (.builtin "list.append") [acc,x]) (fun _ s₅=>∃m,m<n/\I m s₅) (fun _ _=>False) s₄) (fun _ _=>False) s₃
    else ∃m,m<n/\I m s₃) (fun _ _=>False) s₂) (fun _ _=>False) s₁') (fun _ _=>False) s₁) (fun _ _=>False) s)
 (n:Nat)(h:I n s):codeAny (model prog w) A (.compLoop (.ListComp elt [⟨target,iter,ifs,0⟩] scope pos) 0 it acc env) R s:=by
 refine codeAny_loop rfl I (fun n s hI=>?_) n h
 show wpAny _ A ((compTurn (.ListComp elt [⟨target,iter,ifs,0⟩] scope pos) 0 it acc env).onRaise (fun x=>do noteFrame x env;theTreesLotGoes x)) _ _ s
 refine wpAny_noted ?_
 rw[compTurn_list]
 refine zA (wpAny_standAt (zA (zAz (turn n s hI) (fun r s₁ h₁=>?_) fun _ _ h'=>h'.elim)))
 cases r with
 | none=>exact zC h₁
 | some v=>
  refine zA (zAz h₁ (fun _ s₁' h₁'=>?_) fun _ _ h'=>h'.elim)
  refine zA (zAz h₁' (fun _ s₂ h₂=>zA (zAz h₂ (fun ok s₃ h₃=>?_) fun _ _ h'=>h'.elim)) fun _ _ h'=>h'.elim)
  cases ok with
  | false=>exact zC ⟨rfl,h₃⟩
  | true=>
   exact zA (zA (zAz h₃ (fun x s₄ h₄=>zA (zAz h₄ (fun _ s₅ h₅=>zC (zC ⟨rfl,h₅⟩)) fun _ _ h'=>h'.elim)) fun _ _ h'=>h'.elim))
noncomputable def PTs (X:Cx)(ifs:List Expr)(t:TT):Prop:=
 ∀(pins:lPO)(s:Shared)(σ:St)(H:Hp)(Q:Bool->Hp->Prop),Inv X pins σ H s->t σ H Q ->
  wpAny (model X.prog X.w) X.A (forIn ifs true fun c r=>if r=true then do let ok <-isTrue c X.env (eval c X.env);pure (ForInStep.yield ok) else pure (ForInStep.yield r)) (TP X pins σ Q) X.xe s
noncomputable def tYes:TT:=fun _ H Q=>Q true H
theorem zGa {σ:St}{H:Hp}{A B:Hp->Prop}(h:A H):tYes σ H (fun b H3=>if b=true then A H3 else B H3):=by
 show (if true=true then A H else B H)
 exact zCt h
variable {X:Cx}
theorem zB2:PTs X [] tYes:=fun _ _ _ H _ I h=>wpAny_tests_nil ⟨H,I,h⟩
theorem zCC {c:Expr}{t:TT}(h:PT X c t):PTs X [c] t:=fun pins s σ H Q I q=>wpAny_tests_one (h pins s σ H Q I q)
noncomputable def zC5 (cells:List (Str×Addr)):List (Str×NameKind)->List (Str×Addr)->List (Str×Addr)
 | [],acc=>acc
 | (n,k)::r,acc=>if (k == .free)=true then (match cells.lookup n with | some c=>zC5 cells r ((n,c)::acc) | none=>zC5 cells r acc) else zC5 cells r acc
theorem zDL {cells:List (Str×Addr)}{x:Str}{c:Addr}:∀(names:List (Str×NameKind))(acc:List (Str×Addr)),(zC5 cells names acc).lookup x=some c->acc.lookup x=some c\/cells.lookup x=some c
 | [],acc,h=>.inl h
 | (n,k)::r,acc,h=>by
  unfold zC5 at h
  split at h
  . cases hc:cells.lookup n with
    | none=>rw[hc] at h;exact zDL r acc h
    | some c'=>
     rw[hc] at h
     rcases zDL r _ h with q | q
     . rw[zA7] at q
       cases hx:x==n with
       | true=>
        rw[hx] at q
        have e:x=n:=by simpa using hx
        have e2:c'=c:=by simpa using q
        rw[e,hc,e2]
        exact .inr rfl
       | false=>rw[hx] at q;exact .inl q
     . exact .inr q
  . exact zDL r acc h
theorem zDz {cells:List (Str×Addr)}{x:Str}:∀(names:List (Str×NameKind))(acc:List (Str×Addr)),(∃c,acc.lookup x=some c)->∃c,(zC5 cells names acc).lookup x=some c
 | [],acc,h=>h
 | (n,k)::r,acc,h=>by
  unfold zC5
  split
  . cases hc:cells.lookup n with
    | none=>exact zDz r acc h
    | some c'=>
     refine zDz r _ ?_
     rw[zA7]
     cases hx:x==n with
     | true=>exact⟨c',rfl⟩
     | false=>exact h
  . exact zDz r acc h
theorem zC1 {cells:List (Str×Addr)}{x:Str}(hx:∃c,cells.lookup x=some c):∀(names:List (Str×NameKind))(acc:List (Str×Addr)),(x,NameKind.free)∈names->∃c,(zC5 cells names acc).lookup x=some c
 | [],acc,h=>by simp at h
 | (n,k)::r,acc,h=>by
  rcases zV.mp h with e | h
  . cases e
    obtain⟨c,hc⟩:=hx
    unfold zC5
    rw[if_pos (by rfl),hc]
    exact zDz r _ ⟨c,by rw[zA7];simp⟩
  . unfold zC5
    split
    . cases hc:cells.lookup n with
      | none=>exact zC1 hx r acc h
      | some c'=>exact zC1 hx r _ h
    . exact zC1 hx r acc h
theorem zDX {env:Env}:∀(names:List (Str×NameKind))(acc:List (Str×Addr)),(∀y∈names,y.2 = .free->∃c,env.cells.lookup y.1=some c) ->
 (forIn names acc fun (x:Str×NameKind)(cs:List (Str×Addr))=>(if (x.2 == .free)=true then (do let a <-cellOf env x.1;pure (ForInStep.yield ((x.1,a)::cs))) else pure (ForInStep.yield cs):Sem (ForInStep (List (Str×Addr)))))=pure (zC5 env.cells names acc)
 | [],acc,_=>rfl
 | (n,k)::r,acc,h=>by
  rw[List.forIn_cons]
  have hr:∀y∈r,y.2 = .free->∃c,env.cells.lookup y.1=some c:=fun y hy=>h y (zc _ hy)
  unfold zC5
  cases hk:(k==NameKind.free) with
  | true=>
   obtain⟨c,hc⟩:=h (n,k) zZ (by simpa using hk)
   simp only[hk,if_true,cellOf,hc,pure_bind]
   exact zDX r _ hr
  | false=>
   simp only[hk,zBP,if_false,pure_bind]
   exact zDX r _ hr
theorem zCm {scope:Scope}{env:Env}(h:∀y∈scope.names,y.2 = .free->∃c,env.cells.lookup y.1=some c):closureFor scope env=pure (zC5 env.cells scope.names []):=by
 have e:=zDX scope.names [] h
 simp only[closureFor]
 simp only[bind_pure]
 exact e
theorem zB0 {env:Env}{x:Str}:∀(names:List (Str×NameKind)),
 (names.map fun (n,k)=>if (k==NameKind.free && env.scope.kind == .function && env.kindOf n==some .cell) then (n,NameKind.cell) else (n,k)).lookup x =
  (names.lookup x).map fun k=>if (k==NameKind.free && env.scope.kind == .function && env.kindOf x==some .cell)=true then NameKind.cell else k
 | []=>rfl
 | (n,k)::r=>by
  have ih:=zB0 (env:=env) (x:=x) r
  rw[zAX]
  show List.lookup x ((if (k==NameKind.free && env.scope.kind == .function && env.kindOf n==some .cell)=true then (n,NameKind.cell) else (n,k))::_)=_
  by_cases c:(k==NameKind.free && env.scope.kind == .function && env.kindOf n==some .cell)=true
  . rw[if_pos c,zA7,zA7]
    cases hx:x==n with
    | true=>
     have e:x=n:=by simpa using hx
     subst e
     show some NameKind.cell=Option.map _ (some k)
     rw[zAp,if_pos c]
    | false=>exact ih
  . rw[if_neg c,zA7,zA7]
    cases hx:x==n with
    | true=>
     have e:x=n:=by simpa using hx
     subst e
     show some k=Option.map _ (some k)
     rw[zAp,if_neg c]
    | false=>exact ih
noncomputable def zBs (X:Cx)(pl:lPO)(N':List Str)(scope:Scope)(fp:List Addr)(s3:Shared)(H3:Hp):Cx where
 prog:=X.prog
 w:=X.w
 K:=X.K
 mg:=X.mg
 base:=X.base
 A:=X.A
 N:=N'
 s₀:=s3
 H₀:=H3
 env:=compEnvC scope (zC5 X.env.cells scope.names []) s3.heap.objs.size X.env
 outer:=X.stack
 stack:=X.stack
 ex:=fp
 fn:=fun _=>false
 calm:=X.calm
 pn:=pl
 xe:=fun _ _=>False
noncomputable def zEY (X:Cx)(scope:Scope):List Str->List Nat->Prop
 | [],[]=>True
 | x::cn,j::ci=>X.N[j]? = some x/\X.env.kindOf x=some .cell/\scope.names.lookup x=some .free/\zEY X scope cn ci
 | _,_=>False
theorem zEY.get {X:Cx}{scope:Scope}:∀{cn:List Str}{ci:List Nat}{k:Nat}{x:Str},zEY X scope cn ci->cn[k]? = some x->∃j,ci[k]? = some j/\X.N[j]? = some x/\X.env.kindOf x=some .cell/\scope.names.lookup x=some .free
 | [],_,_,_,_,h=>by simp at h
 | _::_,[],_,_,c,_=>c.elim
 | y::cn,j::ci,0,x,c,h=>by
  obtain⟨a,b,b',_⟩:=c
  have e:y=x:=by simpa using h
  subst e
  exact⟨j,rfl,a,b,b'⟩
 | y::cn,j::ci,k+1,x,c,h=>by
  obtain⟨j',h1,h2⟩:=zEY.get (k:=k) c.2.2.2 (by simpa using h)
  exact⟨j',by simpa using h1,h2⟩
structure zEX (X:Cx)(scope:Scope):Prop where
 kind:scope.kind = .function
 nocell:∀y∈scope.names,y.2 ≠ .cell
 names:∀y∈scope.names,y.2 = .local->scope.names.lookup y.1=some .local
 free:∀y∈scope.names,y.2 = .free->X.env.kindOf y.1=some .cell
variable {g:TG}{ti:TT}{te:TE}{Q:VK}
section
variable {X:Cx}{pins:lPO}{σ:St}{H3:Hp}{s3:Shared}{scope:Scope}{fp:List Addr}{N' own cn:List Str}{ci:List Nat}{cv:List V}
theorem zHM (ok:X.Ok)(S:zEX X scope){x:Str}(h:(relabel scope X.env).names.lookup x=some .cell\/(relabel scope X.env).names.lookup x=some .free) :
 ∃c,(zC5 X.env.cells scope.names []).lookup x=some c:=by
 have e:(relabel scope X.env).names.lookup x=(scope.names.lookup x).map fun k=>if (k==NameKind.free && X.env.scope.kind == .function && X.env.kindOf x==some .cell)=true then NameKind.cell else k:=zB0 scope.names
 have hf:scope.names.lookup x=some .free:=by
  cases q:scope.names.lookup x with
  | none=>rw[e,q] at h;simp at h
  | some k=>
   by_cases hk:k = .free
   . rw[hk]
   . have hb:(k==NameKind.free)=false:=by simpa using hk
     rw[e,q] at h
     simp only[zAp,hb,Bool.false_and,zBP,if_false,zBc] at h
     rcases h with h | h
     . exact absurd h (S.nocell _ (PySem.mem_of_lookup q))
     . exact absurd h hk
 exact zC1 (ok.has x (.inl (S.free _ (PySem.mem_of_lookup hf) rfl))) scope.names [] (PySem.mem_of_lookup hf)
theorem zCx {x:Str}{c:Addr}(h:(zC5 X.env.cells scope.names []).lookup x=some c):X.env.cells.lookup x=some c:=by
 rcases zDL _ _ h with q | q
 . simp at q
 . exact q
theorem zMo (I:Inv X pins σ H3 s3)(S:zEX X scope)(f:∀b∈fp,zGY X pins H3 b)(fz:∀b∈fp,b<s3.heap.objs.size):(zBs X (X.pn++pins) N' scope fp s3 H3).Ok where
 mod:=I.ok.mod
 kind:=S.kind
 glob:=I.ok.glob
 blt:=I.ok.blt
 above:=zI _
 inj:=fun x y c h1 h2=>I.ok.inj x y c (zCx h1) (zCx h2)
 has:=fun x h=>zHM I.ok S h
 cab:=fun x c h=>by cases h
 hd:=I.ok.hd
 frames:=I.ok.frames
 stk:=.inl rfl
 exf:=fun b hb=>⟨zT (fz b hb),fun x c h=>(f b hb).2.2.2.2.1 x c (zCx h)⟩
 bs:=I.bs
 bsz:=zAP I.ok.bsz I.sz
 noex:=fun b o e hb=>by
  rcases (f b hb).2.2.2.1 with z | z
  . exact I.ok.noex b o e z
  . exact absurd (zi (zQ e) (zAP I.ok.bsz z)) (zBF _)
 exfs:=fun b hb z=>by
  rcases zV.mp (I.stkSub b z) with q | q
  . exact (f b hb).2.1 q
  . exact (f b hb).2.2.1 q
 funs:=I.stack
 frf:=I.stkFree
theorem zKg {h1:Heap}{t:Nat}(I:Inv X pins σ H3 s3)(S:zEX X scope)(f:∀b∈fp,zGY X pins H3 b)(fz:∀b∈fp,b<s3.heap.objs.size)
 (hN:N'=own++cn)(hc:zEY X scope cn ci)(hv:ci.map (fun j=>σ[j]?)=cv.map fun v=>some (some v))(hl:cn.length=ci.length)
 (hns:h1.Ns s3.heap.objs.size (fun _=>none))(hk:∀b o,s3.heap.get? b=some o->h1.get? b=some o) :
 Inv (zBs X (X.pn++pins) N' scope fp s3 H3) [] (List.replicate own.length none++cv.map some) H3 { s3 with heap:=h1,toks:=t }:=by
 have lenv:cv.length=ci.length:=by
  have:=congrArg List.length hv
  simpa using this.symm
 refine⟨zMo I S f fz,rfl,I.bare,Un.kept hk,⟨_,hns,fun i x v e1 e2 e3=>?_⟩,fun x c e=>?_,I.hok.fresh (zI _),fun x c e=>I.freeC x c (zCx e),fun p hp=>?_,I.hok.kept hk,?_⟩
 . -- a captured name
   have hi:own.length<=i:=by
    by_cases hi:own.length<=i
    . exact hi
    . rw[zh (by simpa using hi),zBX] at e2
      split at e2 <;> cases e2
   rw[za (by simpa using hi),zAY,zP] at e2
   have e1':(own++cn)[i]? = some x:=by rw[<-hN];exact e1
   rw[za hi] at e1'
   obtain⟨j,hj,hNj,hkx,hfr⟩:=hc.get e1'
   have hcv:cv[i-own.length]? = some v:=by
    cases q:cv[i-own.length]? with
    | none=>rw[q] at e2;cases e2
    | some v'=>rw[q] at e2;cases e2;rfl
   have hσ:σ[j]? = some (some v):=by
    have:=congrArg (fun l:List (Option (Option V))=>l[i-own.length]?) hv
    simp only[zP,hj,hcv,zAp,zBc] at this
    exact this
   obtain⟨m,_,hl'⟩:=I.loc
   obtain⟨u,r,q⟩:=hl' j x v hNj hσ (.inr (.inl hkx))
   have hkd:(relabel scope X.env).names.lookup x=some .cell\/(relabel scope X.env).names.lookup x=some .free:=by
    have e:(relabel scope X.env).names.lookup x=(scope.names.lookup x).map fun k=>if (k==NameKind.free && X.env.scope.kind == .function && X.env.kindOf x==some .cell)=true then NameKind.cell else k:=zB0 scope.names
    rw[e,hfr,zAp]
    by_cases cc:(NameKind.free==NameKind.free && X.env.scope.kind == .function && X.env.kindOf x==some .cell)=true
    . rw[if_pos cc];exact .inl rfl
    . rw[if_neg cc];exact .inr rfl
   obtain⟨c',hc'⟩:=zHM I.ok S hkd
   refine⟨u,r,.inr ⟨hkd,c',hc',?_⟩⟩
   rcases q with ⟨z,_⟩ | ⟨_,c,hcc,o,ho,hd⟩
   . rw[hkx] at z;cases z
   . have e:c=c':=zX (hcc.symm.trans (zCx hc'))
     subst e
     exact⟨o,hk c o ho,hd⟩
 . obtain⟨v,o,ho,hd⟩:=I.cell x c (zCx e)
   exact⟨v,o,hk c o ho,hd⟩
 . have hp':p∈X.pn++pins:=by rw[zt] at hp;exact hp
   obtain⟨e,n,ne,nf,d⟩:=I.pin p hp'
   refine⟨hk _ _ e,n,zT (zQ e),fun z=>?_,d⟩
   rcases zV.mp (I.stkSub p.1 z) with q | q
   . exact ne q
   . exact nf q
 . show (List.replicate own.length none++cv.map some).length=N'.length
   rw[hN,zO,zO,zAY,zB,lenv,hl]
noncomputable def zGV (J:It)(own:Nat)(cv:List V)(g:TG)(ti:TT)(te:TE)(D:Addr)(H1:Hp)(Q:VK):Prop:=∃W:Nat->Nat->List V->Hp->Prop,(∃m,W 0 m [] (upd H1 D (.lst [])))/\∀i m ys H,W i m ys H ->
 (J.stop i H/\Q (.ref D) H)\/(J.go i H/\ys.length<sizeLine/\∃N:List V->Hp->Prop,(∀ys' H',N ys' H'->∃m',m'<m/\W (i+1) m' ys' H') /\
  ∀x H',J.yld i H x H'->g x (List.replicate own none++cv.map some) H' fun σ2 H2=>(σ2.length=own+cv.length/\σ2.drop own=cv.map some) /\
   ti σ2 H2 fun b H3=>if b=true then te σ2 H3 fun y H4=>H4 D=some (.lst ys)/\N (ys++[y]) (upd H4 D (.lst (ys++[y]))) else N ys H3)
noncomputable def zHx (own:Nat)(ci:List Nat)(wi:TI)(g:TG)(ti:TT)(te:TE):TE:=fun σ H Q=>wi σ H fun J H1=>∃cv:List V,ci.map (fun j=>σ[j]?)=cv.map (fun v=>some (some v)) /\
 ∀D,H1 D=none->zGV J own cv g ti te D H1 Q
theorem zGH {elt target iter:Expr}{ifs:List Expr}{pos cpos:Pos}{wi:TI}{use:Option (Value->Sem Unit)}{Q0:vSP}{s:Shared}{H:Hp}(hcalm:X.calm=true)(S:zEX X scope)(hc:zEY X scope cn ci)(hl:cn.length=ci.length)
 (hi:PI X target iter wi)(hg:∀pl fp s3 H3,PG (zBs X pl (own++cn) scope fp s3 H3) target g)(ht:∀pl fp s3 H3,PTs (zBs X pl (own++cn) scope fp s3 H3) ifs ti)
 (he:∀pl fp s3 H3,PE (zBs X pl (own++cn) scope fp s3 H3) elt te)(hs:∀x,foldedSetIterable iter X.env x=pure x)(I:Inv X pins σ H s)(h:zHx own.length ci wi g ti te σ H Q)
 (fin:∀(D C:Addr)(H5:Hp)(s6:Shared)(m6:sOV),Inv X pins σ H5 s6->s6.heap.Ns C m6->H5 C=none->C≠X.env.locals->X.s₀.heap.objs.size<=C->(∀x c,X.env.cells.lookup x=some c->c≠C) ->
  (∀p∈X.pn++pins,p.1≠C)->Q (.ref D) H5->compPost (model X.prog X.w) X.A X.xe use Q0 (.ref D) C (.ok .next) s6) :
 wpAny (model X.prog X.w) X.A (comprehension (.ListComp elt [⟨target,iter,ifs,0⟩] scope pos) scope X.env cpos (newList []) false (eval iter X.env) use) Q0 X.xe s:=by
 have hcl:closureFor scope X.env=pure (zC5 X.env.cells scope.names []):=zCm fun y hy hf=>I.ok.has y.1 (.inl (S.free y hy hf))
 refine wpAny_comprehension_free (use:=use) rfl hs hcl S.kind S.names ?_
 refine thn (hi pins s σ H _ I h) fun v s1 h1=>thn h1 fun itv s2 h2=>?_
 obtain⟨it,fp,tn,J,H2,e,I2,T,st2,f2,cv,hv,hD⟩:=h2
 subst e
 have lenv:cv.length=ci.length:=by
  have:=congrArg List.length hv
  simpa using this.symm
 have I3:=I2.lnew (ys:=[]) (its:=[]) (t':=s2.toks) .nil (zg _)
 obtain⟨W,⟨m0,w0⟩,turn⟩:=hD s2.heap.objs.size I2.fresh
 have fz:∀b∈fp,b<s2.heap.objs.size:=fun b hb=>by
  obtain⟨o,ho,_⟩:=T.obj _ _ st2 b hb
  exact zQ ho
 refine zv ?_
 refine wpAny_newFunctionEnv S.nocell (by intro y hy;simp at hy) (fun h4 hns4 hsb4=>?_) S.kind
 generalize hs3:({ s2 with heap:=s2.heap.push { cls:=.type "list",dict:=none,data:=.seq ([]:List Value).toArray } }:Shared)=s3 at hns4 hsb4 ⊢
 have I3':Inv X pins σ (upd H2 s2.heap.objs.size (.lst [])) s3:=by rw[<-hs3];exact I3
 have hsz3:s3.heap.objs.size=s2.heap.objs.size+1:=by rw[<-hs3];exact zAR ..
 have k23:∀b o,s2.heap.get? b=some o->s3.heap.get? b=some o:=fun b o e=>by rw[<-hs3];exact zG _ e
 have k34:∀b o,s3.heap.get? b=some o->h4.get? b=some o:=fun b o e=>hsb4.extBut b o (zT (zQ e)) (zG _ e)
 have nD:∀b∈fp,b≠s2.heap.objs.size:=fun b hb=>zT (fz b hb)
 have f3:∀b∈fp,zGY X pins (upd H2 s2.heap.objs.size (.lst [])) b:=fun b hb=>⟨by rw[zk (nD b hb)];exact (f2 b hb).1,(f2 b hb).2⟩
 have fz3:∀b∈fp,b<s3.heap.objs.size:=fun b hb=>by rw[hsz3];exact zAl (fz b hb)
 have I4:Inv (zBs X (X.pn++pins) (own++cn) scope fp s3 (upd H2 s2.heap.objs.size (.lst []))) [] (List.replicate own.length none++cv.map some) (upd H2 s2.heap.objs.size (.lst [])) { s3 with heap:=h4,toks:=s3.toks+([]:List (Str×Value)).length }:=
  zKg I3' S f3 fz3 rfl hc hv hl hns4 k34
 have st4:tn 0 h4:=T.keep _ _ _ st2 fun b hb o e=>k34 b o (k23 b o e)
 generalize hX:zBs X (X.pn++pins) (own++cn) scope fp s3 (upd H2 s2.heap.objs.size (.lst []))=X' at I4
 have hg':PG X' target g:=by rw[<-hX];exact hg _ _ _ _
 have ht':PTs X' ifs ti:=by rw[<-hX];exact ht _ _ _ _
 have he':PE X' elt te:=by rw[<-hX];exact he _ _ _ _
 have ePr:X'.prog=X.prog:=by rw[<-hX];rfl
 have eW:X'.w=X.w:=by rw[<-hX];rfl
 have eK:X'.K=X.K:=by rw[<-hX];rfl
 have eA:X'.A=X.A:=by rw[<-hX];rfl
 have eE:X'.env=compEnvC scope (zC5 X.env.cells scope.names []) s3.heap.objs.size X.env:=by rw[<-hX];rfl
 have eXe:X'.xe=fun _ _=>False:=by rw[<-hX];rfl
 have eC:X'.calm=true:=by rw[<-hX];exact hcalm
 have eex:X'.ex=fp:=by rw[<-hX];rfl
 have epn:X'.pn=X.pn++pins:=by rw[<-hX];rfl
 have es0:X'.s₀=s3:=by rw[<-hX];rfl
 have eH0:X'.H₀=upd H2 s2.heap.objs.size (.lst []):=by rw[<-hX];rfl
 have efs:X'.fs=frs X.stack:=by rw[<-hX];rfl
 have ok':=I4.ok
 have stat:∀{H':Hp},(∀b∈fp,H' b=none)->∀b∈fp,zGY X' [] H' b:=fun hn b hb=>by
  have hb':b∈X'.ex:=by rw[eex];exact hb
  refine⟨hn b hb,(ok'.exf b hb').1,ok'.exfs b hb',.inl hb',(ok'.exf b hb').2,fun p hp=>?_⟩
  rw[epn,zt] at hp
  exact (f2 b hb).2.2.2.2.2 p hp
 have wk:∀(σ2:St),(σ2.length=own.length+cv.length/\σ2.drop own.length=cv.map some)->∀{pl:lPO}{H':Hp}{s':Shared},Inv X' pl σ2 H' s'->Inv X' pl (List.replicate own.length none++cv.map some) H' s':=fun σ2 hq pl H' s' I'=>by
  refine I'.weak (by rw[hq.1,zO,zAY,zB]) fun i v hi=>?_
  by_cases hlt:i<own.length
  . rw[zh (by simpa using hlt),zBX] at hi
    split at hi <;> cases hi
  . rw[za (by simpa using hlt),zAY,<-hq.2,List.getElem?_drop] at hi
    rw[show own.length+(i-own.length)=i by omega] at hi
    exact hi
 have loop:codeAny (model X.prog X.w) X.A (.compLoop (.ListComp elt [⟨target,iter,ifs,0⟩] scope pos) 0 (.ref it) (.ref s2.heap.objs.size) (compEnvC scope (zC5 X.env.cells scope.names []) s3.heap.objs.size X.env))
  (compPost (model X.prog X.w) X.A X.xe use Q0 (.ref s2.heap.objs.size) s3.heap.objs.size) { s3 with heap:=h4,toks:=s3.toks+([]:List (Str×Value)).length }:=by
  refine zDh (fun n s'=>∃i ys H',Inv X' [] (List.replicate own.length none++cv.map some) H' s'/\tn i s'.heap/\(∀b∈fp,H' b=none)/\W i n ys H') ?_ m0
   ⟨0,[],_,I4,st4,fun b hb=>(f3 b hb).1,w0⟩
  rintro n s5 ⟨i,ys,H5,I5,st5,fr5,w5⟩
  rcases turn i n ys H5 w5 with ⟨stop,qn⟩ | ⟨go,hsz,N,hN,step⟩
  . have d:=T.done X' ePr eW eK eC i [] s5 _ H5 (fun _ _=>False) I5 (stat fr5) st5 stop
    rw[eA] at d
    refine thn d fun r s6 ⟨hr,I6⟩=>?_
    subst hr
    obtain⟨m6,hn6,_⟩:=I6.loc
    rw[eE] at hn6
    have hn6':s6.heap.Ns s3.heap.objs.size m6:=hn6
    have un6:Un (frs X.stack) fp (upd H2 s2.heap.objs.size (.lst [])) H5 s3.heap s6.heap:=by
     have b6:=I6.base
     rw[efs,eex,eH0,es0] at b6
     exact b6
    have os6:s6.os=s3.os:=by have o6:=I6.os;rw[es0] at o6;exact o6
    have hok6:HOk X.prog X.w H5 s6.heap:=by have o6:=I6.hok;rw[ePr,eW] at o6;exact o6
    have I7:Inv X pins σ H5 s6:=I3'.call' (ch:=fp) os6 un6 hok6 I6.bare fun b hb=>⟨(f2 b hb).2.2.2.1,(f2 b hb).2.1,(f2 b hb).2.2.2.2.1,(f2 b hb).2.2.2.2.2⟩
    have fr6:H5 s3.heap.objs.size=none:=by
     have q:=I6.free
     rw[eE] at q
     exact q
    refine fin s2.heap.objs.size s3.heap.objs.size H5 s6 m6 I7 hn6' fr6 (zAG I3'.lt) I3'.sz (fun x c e=>?_) (fun p hp=>?_) qn
    . obtain⟨_,o,ho,_⟩:=I3'.cell x c e
      exact zT (zQ ho)
    . exact zT (zQ (I3'.pin p hp).1)
  . have d:=T.item X' ePr eW eK eC i [] s5 _ H5 (fun _ _=>False) I5 (stat fr5) st5 go
    rw[eA] at d
    refine thn d fun r s6 ⟨u,hr,h6⟩=>?_
    subst hr
    refine thn h6 fun _ s7 ⟨x,H7,I7,r7,y7,st7,fr7⟩=>?_
    have I7':=I7.pinned (stat fr7) (T.obj _ _ st7)
    have g7:=hg' _ s7 _ H7 x u _ I7' r7 (step x H7 y7)
    rw[ePr,eW,eA,eE,eXe] at g7
    refine thn g7 fun _ s8 ⟨σ8,H8,I8,q8,ti8⟩=>?_
    have t8:=ht' _ s8 σ8 H8 _ I8 ti8
    rw[ePr,eW,eA,eE,eXe] at t8
    refine thn t8 fun ok s9 ⟨H9,I9,q9⟩=>?_
    have again:∀{ys':List V}{H':Hp}{s':Shared},Inv X' ([]++zEq fp s7.heap) σ8 H' s'->N ys' H' ->
     ∃m,m<n/\∃i ys H',Inv X' [] (List.replicate own.length none++cv.map some) H' s'/\tn i s'.heap/\(∀b∈fp,H' b=none)/\W i m ys H':=fun {ys' H' s'} I' n'=>by
     obtain⟨m',hm,w'⟩:=hN ys' H' n'
     refine⟨m',hm,i+1,ys',H',(wk σ8 q8 I').unpinned,T.keep _ _ _ st7 fun b hb o e=>(I'.pin (b,o) (ze _ (ze _ (zCP hb e)))).1,fun b hb=>?_,w'⟩
     obtain⟨o,e,_⟩:=T.obj _ _ st7 b hb
     exact (I'.pin (b,o) (ze _ (ze _ (zCP hb e)))).2.1
    cases ok with
    | false=>exact again I9 q9
    | true=>
     have e9:=he' _ s9 σ8 H9 _ I9 q9
     rw[ePr,eW,eA,eE,eXe] at e9
     refine thn e9 fun u10 s10 ⟨y,H10,I10,r10,hD10,n10⟩=>?_
     have a10:=zBr (X:=X') _ s10 σ8 H10 (.ref s2.heap.objs.size) [y] (.ref s2.heap.objs.size) [u10] (fun _ H'=>N (ys++[y]) H') I10 rfl (.cons r10 .nil) ⟨_,_,_,rfl,rfl,hD10,hsz,n10⟩
     rw[ePr,eW,eA,eXe] at a10
     exact thn a10 fun _ s11 ⟨_,H11,I11,_,n11⟩=>again I11 n11
 exact codeAny_compStart_list loop (T.self X.A 0 _ _ _ st4 loop)
theorem zBH {elt target iter:Expr}{ifs:List Expr}{pos:Pos}{wi:TI}(hcalm:X.calm=true)(S:zEX X scope)(hc:zEY X scope cn ci)(hl:cn.length=ci.length)
 (hi:PI X target iter wi)(hg:∀pl fp s3 H3,PG (zBs X pl (own++cn) scope fp s3 H3) target g)(ht:∀pl fp s3 H3,PTs (zBs X pl (own++cn) scope fp s3 H3) ifs ti)
 (he:∀pl fp s3 H3,PE (zBs X pl (own++cn) scope fp s3 H3) elt te)(hs:∀x,foldedSetIterable iter X.env x=pure x:=by intro _;rfl) :
 PE X (.ListComp elt [⟨target,iter,ifs,0⟩] scope pos) (zHx own.length ci wi g ti te):=by
 intro pins s σ H Q I h
 rw[eval_ListComp]
 exact zGH hcalm S hc hl hi hg ht he hs I h fun D C H5 s6 m6 I7 hn fr nL ge nC nP q=>⟨m6,hn,fun h' hs'=>⟨.ref D,H5,I7.turned (t':=s6.toks) (it:=C) (fun b o hb e=>hs'.extBut b o hb e) fr nL (.inr ge) nC nP,rfl,q⟩⟩
theorem zD6 {elt target iter:Expr}{ifs:List Expr}{pos pos' cpos:Pos}{wi:TI}{g:TG}{ti:TT}{te:TE}{i:Nat}{x:Str}(hN:X.N.Nodup)(hix:X.N[i]? = some x)(hx:Loc X.env.scope x)(hcalm:X.calm=true)(S:zEX X scope)(hc:zEY X scope cn ci)(hl:cn.length=ci.length)
 (hi:PI X target iter wi)(hg:∀pl fp s3 H3,PG (zBs X pl (own++cn) scope fp s3 H3) target g)(ht:∀pl fp s3 H3,PTs (zBs X pl (own++cn) scope fp s3 H3) ifs ti)
 (he:∀pl fp s3 H3,PE (zBs X pl (own++cn) scope fp s3 H3) elt te)(hs:∀x,foldedSetIterable iter X.env x=pure x:=by intro _;rfl)
 (hsw:swapsWith (.ListComp elt [⟨target,iter,ifs,0⟩] scope cpos) (some (.Name x pos')) pos.line X.env=pure true:=by rfl)
 (hf:X.fn x=true\/X.env.scope.names.lookup x=some .local:=by first | exact .inl rfl | exact .inr rfl | assumption) :
 PS X (.Assign [.Name x pos'] (.ListComp elt [⟨target,iter,ifs,0⟩] scope cpos) pos) (tAsg (zHx own.length ci wi g ti te) (zKV i)):=by
 intro pins s σ H D I h
 rw[exec_Assign_Name_used _ _ _ _ hsw]
 refine zA (wpAny_standAt (zA ?_))
 show wpAny _ X.A (do let _ <-comprehension (.ListComp elt [⟨target,iter,ifs,0⟩] scope cpos) scope X.env _ (newList []) false (eval iter X.env) (some (assign (.Name x pos') X.env))) _ _ s
 refine zA (zAz (zGH (use:=some (assign (.Name x pos') X.env)) (Q0:=fun _ s'=>SP X pins D .next s') hcalm S hc hl hi hg ht he hs I h (fun D' C H5 s6 m6 I7 hn fr nL ge nC nP q=>?_)) (fun _ s' hq=>zC (zC hq)) fun _ _ e=>e)
 obtain⟨oC,es,ep,hoC,hd,r1⟩:=hn
 have nf:C∉X.fs:=fun hb=>by
  obtain⟨_,o,ho,_⟩:=I7.ok.funs.mem hb
  exact absurd (zi (zQ ho) ge) (zBF _)
 have I7':Inv X (pins++[(C,oC)]) σ H5 s6:=I7.pins_of fun p hp=>by
  rcases zm.mp hp with z | z
  . exact I7.pin p (ze _ z)
  . rw[zf.mp z]
    exact⟨hoC,fr,nL,nf,fun v e=>by rw[hd] at e;cases e⟩
 show wpAny _ X.A (assign (.Name x pos') X.env (.ref D')) _ _ s6
 refine wpAny_assign_Name (zCh I7' hN hix hx (show zBy (.ref D') (.ref D') from rfl) (fun s' I'=>?_) hf)
 have hC':=(I'.pin (C,oC) (ze _ (ze _ (zf.mpr rfl)))).1
 refine⟨m6,⟨oC,es,ep,hC',hd,r1⟩,fun h' hs'=>⟨_,H5,?_,q⟩⟩
 have I2:Inv X pins (σ.set i (some (.ref D'))) H5 s':=I'.pins_of fun p hp=>I'.pin p (ze _ (zAe _ hp))
 exact I2.turned (t':=s'.toks) (it:=C) (fun b o hb e=>hs'.extBut b o hb e) fr nL (.inr ge) nC nP
end
noncomputable def cscOk (outer inner:Scope):Bool:=inner.names.all fun y=>(y.2 != .cell) && (y.2 != .local || inner.names.lookup y.1==some .local) && (y.2 != .free || outer.names.lookup y.1==some .cell)
theorem csc {scope:Scope}(hk:scope.kind = .function)(h:cscOk X.env.scope scope=true):zEX X scope:=by
 have a:=zBo.mp h
 refine⟨hk,fun y hy e=>?_,fun y hy e=>?_,fun y hy e=>?_⟩
 . have:=a y hy
   rw[e] at this
   simp at this
 . have:=a y hy
   rw[e] at this
   simpa using this
 . have:=a y hy
   rw[e] at this
   have h2:X.env.scope.names.lookup y.1=some .cell:=by simpa using this
   exact h2
theorem zB4 {l:List Str}(h:decide l.Nodup=true):l.Nodup:=of_decide_eq_true h
section
variable {X:Cx}{pl:lPO}{N':List Str}{sc:Scope}{fp:List Addr}{s3:Shared}{H3:Hp}
theorem zCJ:IxR (zBs X pl N' sc fp s3 H3) (rIxT X.K):=zAy
theorem zFO:IxR (zBs X pl N' sc fp s3 H3) (rIxL X.K):=zAi
theorem zIV {es:List Expr}{k:Nat}{t:TGs}{n:Nat}{pos:Pos}(hc:X.calm=true)(h:PGs (zBs X pl N' sc fp s3 H3) es t)
 (hn:(assignEach es (zBs X pl N' sc fp s3 H3).env).length=n:=by rfl)(hst:(assignEach es (zBs X pl N' sc fp s3 H3).env).findIdx? (·.1)=none:=by rfl):PG (zBs X pl N' sc fp s3 H3) (.Tuple es k pos) (gTup X.K n t):=zEr hc h hn hst
theorem zFy:OpR (zBs X pl N' sc fp s3 H3) (compareOp .NotIn) (rIn X.K true):=zDc
end
variable {own:Nat}{cv:List V}{D:Addr}{H1:Hp}
theorem zCe {K:PySem.W.Frag}{a:Addr}{xs:List V}(Pv:Nat->List V->Hp->Prop)(h0:Pv 0 [] (upd H1 D (.lst [])))(hl:∀i ys H,Pv i ys H->SqL K H a xs)(hz:∀i ys H,Pv i ys H->ys.length<sizeLine)
 (hs:∀i x ys H,xs[i]? = some x->Pv i ys H->g x (List.replicate own none++cv.map some) H fun σ2 H2=>(σ2.length=own+cv.length/\σ2.drop own=cv.map some) /\
  ti σ2 H2 fun b H3=>if b=true then te σ2 H3 fun y H4=>H4 D=some (.lst ys)/\Pv (i+1) (ys++[y]) (upd H4 D (.lst (ys++[y]))) else Pv (i+1) ys H3)
 (hd:∀ys H,Pv xs.length ys H->Q (.ref D) H) :
 zGV (Itl K a) own cv g ti te D H1 Q:=by
 refine⟨fun i m ys H=>m=xs.length-i/\i<=xs.length/\Pv i ys H,⟨xs.length,rfl,zg _,h0⟩,?_⟩
 rintro i m ys H ⟨rfl,hi,p⟩
 have q:=hl i ys H p
 by_cases hlt:i<xs.length
 . refine .inr ⟨⟨xs,xs[i],q,by simp[hlt]⟩,hz i ys H p,Pv (i+1),fun ys' H' p'=>⟨xs.length-(i+1),by omega,rfl,hlt,p'⟩,fun x H' y=>?_⟩
   obtain⟨e,y⟩:=y
   subst e
   exact hs i x ys _ (y xs q) p
 . have e:i=xs.length:=by omega
   subst e
   exact .inl ⟨⟨xs,q,zI _⟩,hd ys H p⟩
theorem zCE {K:PySem.W.Frag}{a:Addr}{xs:List V}(Pv:Nat->List V->Hp->Prop)(h0:Pv 0 [] (upd H1 D (.lst [])))(hl:∀i ys H,Pv i ys H->SqT K H a xs)(hz:∀i ys H,Pv i ys H->ys.length<sizeLine)
 (hs:∀i x ys H,xs[i]? = some x->Pv i ys H->g x (List.replicate own none++cv.map some) H fun σ2 H2=>(σ2.length=own+cv.length/\σ2.drop own=cv.map some) /\
  ti σ2 H2 fun b H3=>if b=true then te σ2 H3 fun y H4=>H4 D=some (.lst ys)/\Pv (i+1) (ys++[y]) (upd H4 D (.lst (ys++[y]))) else Pv (i+1) ys H3)
 (hd:∀ys H,Pv xs.length ys H->Q (.ref D) H) :
 zGV (Itt K a) own cv g ti te D H1 Q:=by
 refine⟨fun i m ys H=>m=xs.length-i/\i<=xs.length/\Pv i ys H,⟨xs.length,rfl,zg _,h0⟩,?_⟩
 rintro i m ys H ⟨rfl,hi,p⟩
 have q:=hl i ys H p
 by_cases hlt:i<xs.length
 . refine .inr ⟨⟨xs,xs[i],q,by simp[hlt]⟩,hz i ys H p,Pv (i+1),fun ys' H' p'=>⟨xs.length-(i+1),by omega,rfl,hlt,p'⟩,fun x H' y=>?_⟩
   obtain⟨e,y⟩:=y
   subst e
   exact hs i x ys _ (y xs q) p
 . have e:i=xs.length:=by omega
   subst e
   exact .inl ⟨⟨xs,q,zI _⟩,hd ys H p⟩
theorem zBV {lo:Int}{n:Nat}(Pv:Nat->List V->Hp->Prop)(h0:Pv 0 [] (upd H1 D (.lst [])))(hz:∀i ys H,Pv i ys H->ys.length<sizeLine)
 (hs:∀i ys H,i<n->Pv i ys H->g (.int (lo+i)) (List.replicate own none++cv.map some) H fun σ2 H2=>(σ2.length=own+cv.length/\σ2.drop own=cv.map some) /\
  ti σ2 H2 fun b H3=>if b=true then te σ2 H3 fun y H4=>H4 D=some (.lst ys)/\Pv (i+1) (ys++[y]) (upd H4 D (.lst (ys++[y]))) else Pv (i+1) ys H3)
 (hd:∀ys H,Pv n ys H->Q (.ref D) H) :
 zGV (Itr lo n) own cv g ti te D H1 Q:=by
 refine⟨fun i m ys H=>m=n-i/\i<=n/\Pv i ys H,⟨n,rfl,zg _,h0⟩,?_⟩
 rintro i m ys H ⟨rfl,hi,p⟩
 by_cases hlt:i<n
 . refine .inr ⟨hlt,hz i ys H p,Pv (i+1),fun ys' H' p'=>⟨n-(i+1),by omega,rfl,hlt,p'⟩,fun x H' y=>?_⟩
   obtain⟨e,y⟩:=y
   subst e
   subst y
   exact hs i ys _ hlt p
 . have e:i=n:=by omega
   subst e
   exact .inl ⟨zI _,hd ys H p⟩
end L2
namespace SortT
open PySem.W PyProof.Rows
noncomputable def ev {α:Type}(lt:Nat->Nat->Bool):KasT α->α
 | .ret a=>a
 | .ask i j k=>ev lt (k (lt i j))
theorem zDW {α β:Type}(lt:Nat->Nat->Bool)(f:α->KasT β):∀t:KasT α,ev lt (t.bind f)=ev lt (f (ev lt t))
 | .ret _=>rfl
 | .ask i j k=>zDW lt f (k (lt i j))
variable {p:Array Nat}{i j n nrem:Nat}
section
variable {O:KeyOrd}{key:Nat->O.α}
noncomputable def kk (key:Nat->O.α)(p:Array Nat)(i:Nat):O.α:=key (p.getD i 0)
noncomputable def Sr (key:Nat->O.α)(p:Array Nat)(n:Nat):Prop:=∀i j,i<=j->j<n->O.kle (kk key p i) (kk key p j)
noncomputable def Fl (key:Nat->O.α)(p:Array Nat)(n:Nat):Prop:=∀i j,i<=j->j<n->O.kle (kk key p j) (kk key p i)
theorem zDJ {q:Array Nat}(h:p[i]? = q[j]?):kk key p i=kk key q j:=by
 unfold kk;rw[Array.getD_eq_getD_getElem?,Array.getD_eq_getD_getElem?,h]
theorem zIs (hj:j<=p.size)(k:Nat):kk key (kas_rev p i j) k=if i<=k/\k<j then kk key p (i+j-1-k) else kk key p k:=by
 have e:=getElem?_mirror_all (i:=i) hj k
 unfold kas_rev
 by_cases h1:i<=k/\k<j
 . rw[if_pos h1] at e ⊢;exact zDJ e
 . rw[if_neg h1] at e ⊢;exact zDJ e
theorem zEJ (hj:j<=p.size)(he:∀k,i<=k->k<j->kk key p k=kk key p (j-1))(k:Nat):kk key (kas_rev p i j) k=kk key p k:=by
 rw[zIs hj]
 split
 . rw[he _ (by omega) (by omega),he k (by omega) (by omega)]
 . rfl
theorem zF3 {src d:Nat}(hs:src<p.size)(hd:d<=src)(k:Nat) :
 kk key (bubble p src d) k=if k=src-d then kk key p src else if src-d<k/\k<=src then kk key p (k-1) else kk key p k:=by
 have e:=getElem?_bubble hs d hd k
 by_cases h1:k=src-d
 . rw[if_pos h1] at e ⊢;exact zDJ e
 . rw[if_neg h1] at e ⊢
   by_cases h2:src-d<k/\k<=src
   . rw[if_pos h2] at e ⊢;exact zDJ e
   . rw[if_neg h2] at e ⊢;exact zDJ e
noncomputable def lt_ (key:Nat->O.α)(i j:Nat):Bool:=O.blt (key i) (key j)
theorem zCD (p:Array Nat)(i j:Nat):(kas_rev p i j).Perm p:=mirror_perm _ _ _ _
theorem zFF (p:Array Nat)(i j:Nat):(kas_rev p i j).size=p.size:=(zCD p i j).size_eq
theorem zJU {p:Array Nat}:∀(f n:Nat),1<=n->Sr key p n->∃m,ev (lt_ key) (kas_asc p f n)=m/\n<=m/\m<=n+f/\Sr key p m/\(m=n+f\/O.klt (kk key p m) (kk key p (m-1)))
 | 0,n,_,hs=>⟨n,rfl,zI _,zI _,hs,.inl rfl⟩
 | f+1,n,h1,hs=>by
  show ∃m,ev (lt_ key) (if lt_ key (p.getD n 0) (p.getD (n-1) 0)=true then KasT.ret n else kas_asc p f (n+1))=m/\_
  cases hl:lt_ key (p.getD n 0) (p.getD (n-1) 0) with
  | true=>exact⟨n,by simp[ev],zI _,by omega,hs,.inr hl⟩
  | false=>
   have hs':Sr key p (n+1):=fun i j hij hj=>by
    by_cases hjn:j<n
    . exact hs i j hij hjn
    . have hj':j=n:=by omega
      subst hj'
      by_cases hi':i=j
      . subst hi';exact KeyOrd.kle_refl _
      . exact KeyOrd.kle_trans (hs i (j-1) (by omega) (by omega)) hl
   obtain⟨m,e,a,b,c,d⟩:=zJU f (n+1) (by omega) hs'
   refine⟨m,by simpa using e,by omega,by omega,c,?_⟩
   rcases d with d | d
   . exact .inl (by omega)
   . exact .inr d
theorem zG3 (h1:1<=n)(hn:n<=nrem)(hz:nrem<=p.size)(hs:Fl key p n) :
 ∃m q,ev (lt_ key) (kas_tail3 n nrem p)=(m,q)/\q.Perm p/\1<=m/\m<=nrem/\Sr key q m:=by
 unfold kas_tail3
 have hs':Sr key (kas_rev p 0 n) n:=fun i j hij hj=>by
  rw[zIs (by omega),zIs (by omega),if_pos (by omega),if_pos (by omega)]
  exact hs _ _ (by omega) (by omega)
 obtain⟨m,e,a,b,c,_⟩:=zJU (nrem-n) n h1 hs'
 exact⟨m,kas_rev p 0 n,by rw[zDW,e];rfl,zCD _ _ _,by omega,by omega,c⟩
theorem zFP:∀(f n q:Nat)(p:Array Nat),1<=n->n+f<=p.size->Fl key p n->q+1<=n->(∀i,n-(q+1)<=i->i<n->kk key p i=kk key p (n-1)) ->
 ∃p' n' q',ev (lt_ key) (kas_desc f p n q)=(p',n',q')/\p'.Perm p/\n<=n'/\n'<=n+f/\Fl key p' n'/\q'+1<=n'/\(∀i,n'-(q'+1)<=i->i<n'->kk key p' i=kk key p' (n'-1))
 | 0,n,q,p,_,_,hs,hq,he=>⟨p,n,q,rfl,.refl _,zI _,zI _,hs,hq,he⟩
 | f+1,n,q,p,h1,hz,hs,hq,he=>by
  show ∃p' n' q',ev (lt_ key) (if lt_ key (p.getD n 0) (p.getD (n-1) 0)=true then _ else KasT.ask _ _ _)=(p',n',q')/\_
  cases hl:lt_ key (p.getD n 0) (p.getD (n-1) 0) with
  | true=>
   have step:∀xs:Array Nat,(∀k,kk key xs k=kk key p k)->Fl key xs (n+1):=fun xs hk i j hij hj=>by
    rw[hk,hk]
    by_cases hjn:j<n
    . exact hs i j hij hjn
    . have hj':j=n:=by omega
      subst hj'
      by_cases hi':i=j
      . subst hi';exact KeyOrd.kle_refl _
      . exact KeyOrd.kle_trans (KeyOrd.kle_of_klt hl) (hs i (j-1) (by omega) (by omega))
   by_cases hq0:q > 0
   . have hk:=zEJ (key:=key) (p:=p) (i:=n-(q+1)) (j:=n) (by omega) he
     obtain⟨p',n',q',e,a,b,c,d⟩:=zFP f (n+1) 0 (kas_rev p (n-(q+1)) n) (by omega) (by rw[zFF];omega) (step _ hk) (by omega) (fun i h1 h2=>by congr 1;omega)
     exact⟨p',n',q',by simpa [hq0] using e,a.trans (zCD _ _ _),by omega,by omega,d⟩
   . obtain⟨p',n',q',e,a,b,c,d⟩:=zFP f (n+1) 0 p (by omega) (by omega) (step _ fun _=>rfl) (by omega) (fun i h1 h2=>by congr 1;omega)
     exact⟨p',n',q',by simpa [hq0] using e,a,by omega,by omega,d⟩
  | false=>
   show ∃p' n' q',ev (lt_ key) (if lt_ key (p.getD (n-1) 0) (p.getD n 0)=true then KasT.ret (p,n,q) else kas_desc f p (n+1) (q+1))=(p',n',q')/\_
   cases hr:lt_ key (p.getD (n-1) 0) (p.getD n 0) with
   | true=>exact⟨p,n,q,by simp[ev],.refl _,zI _,by omega,hs,hq,he⟩
   | false=>
    have heq:kk key p n=kk key p (n-1):=KeyOrd.kle_antisymm hr hl
    have hs':Fl key p (n+1):=fun i j hij hj=>by
     by_cases hjn:j<n
     . exact hs i j hij hjn
     . have hj':j=n:=by omega
       subst hj'
       by_cases hi':i=j
       . subst hi';exact KeyOrd.kle_refl _
       . rw[heq];exact hs i (j-1) (by omega) (by omega)
    obtain⟨p',n',q',e,a,b,c,d⟩:=zFP f (n+1) (q+1) p (by omega) (by omega) hs' (by omega) (fun i h1 h2=>by
     rw[show n+1-1=n by omega]
     by_cases hix:i=n
     . subst hix;rfl
     . rw[heq];exact he i (by omega) (by omega))
    exact⟨p',n',q',by simpa using e,a,by omega,by omega,d⟩
theorem zEP (hn:n+1<=nrem)(hz:nrem<=p.size)(hs:Fl key p (n+1)) :
 ∃m q,ev (lt_ key) (kas_descPart n nrem p)=(m,q)/\q.Perm p/\1<=m/\m<=nrem/\Sr key q m:=by
 unfold kas_descPart
 rw[zDW]
 obtain⟨p',n',q',e,a,b,c,d,hq,he⟩:=zFP (nrem-(n+1)) (n+1) 0 p (by omega) (by omega) hs (by omega) (fun i h1 h2=>by congr 1;omega)
 rw[e]
 dsimp only
 have hz':p'.size=p.size:=a.size_eq
 by_cases hq0:q' > 0
 . rw[if_pos hq0]
   have hk:=zEJ (key:=key) (p:=p') (i:=n'-(q'+1)) (j:=n') (by omega) he
   obtain⟨m,r,e2,a2,b2,c2,d2⟩:=zG3 (key:=key) (p:=kas_rev p' (n'-(q'+1)) n') (n:=n') (nrem:=nrem) (by omega) (by omega) (by rw[zFF];omega) (fun i j hij hj=>by rw[hk,hk];exact d i j hij hj)
   exact⟨m,r,e2,a2.trans ((zCD _ _ _).trans a),b2,c2,d2⟩
 . rw[if_neg hq0]
   obtain⟨m,r,e2,a2,b2,c2,d2⟩:=zG3 (key:=key) (p:=p') (n:=n') (nrem:=nrem) (by omega) (by omega) (by omega) d
   exact⟨m,r,e2,a2.trans a,b2,c2,d2⟩
theorem zKf (h1:1<=nrem)(hz:nrem<=p.size):∃m q,ev (lt_ key) (kas_count nrem p)=(m,q)/\q.Perm p/\1<=m/\m<=nrem/\Sr key q m:=by
 unfold kas_count
 rw[zDW]
 obtain⟨n,e,a,b,hsn,hor⟩:=zJU (key:=key) (p:=p) (nrem-1) 1 (zI _) (fun i j hij hj=>by have:i=j:=(by omega);subst this;exact KeyOrd.kle_refl _)
 rw[e]
 by_cases hnn:n=nrem
 . rw[if_pos (by simpa using hnn)]
   exact⟨n,p,rfl,.refl _,a,by omega,hsn⟩
 . rw[if_neg (by simpa using hnn)]
   have hlt:O.klt (kk key p n) (kk key p (n-1)):=hor.resolve_left (by omega)
   by_cases hgt:n > 1
   . rw[if_pos hgt]
     show ∃m q,ev (lt_ key) (if lt_ key (p.getD 0 0) (p.getD (n-1) 0)=true then KasT.ret (n,p) else kas_descPart n nrem (kas_rev p 0 n))=(m,q)/\_
     cases hr:lt_ key (p.getD 0 0) (p.getD (n-1) 0) with
     | true=>exact⟨n,p,by simp[ev],.refl _,a,by omega,hsn⟩
     | false=>
      have hall:∀k,0<=k->k<n->kk key p k=kk key p (n-1):=fun k _ hk=>
       KeyOrd.kle_antisymm (hsn k (n-1) (by omega) (by omega)) (KeyOrd.kle_trans hr (hsn 0 k (by omega) hk))
      have hk:=zEJ (key:=key) (p:=p) (i:=0) (j:=n) (by omega) hall
      obtain⟨m,q,e2,a2,b2,c2,d2⟩:=zEP (key:=key) (p:=kas_rev p 0 n) (n:=n) (nrem:=nrem) (by omega) (by rw[zFF];omega) (fun i j hij hj=>by
       rw[hk,hk]
       by_cases hjn:j<n
       . rw[hall i (by omega) (by omega),hall j (by omega) hjn];exact KeyOrd.kle_refl _
       . have hj':j=n:=by omega
         subst hj'
         by_cases hi':i=j
         . subst hi';exact KeyOrd.kle_refl _
         . rw[hall i (by omega) (by omega)];exact KeyOrd.kle_of_klt hlt)
      exact⟨m,q,by simpa using e2,a2.trans (zCD _ _ _),b2,c2,d2⟩
   . rw[if_neg hgt]
     have hn1:n=1:=by omega
     subst hn1
     refine zEP (by omega) hz fun i j hij hj=>?_
     by_cases hi':i=j
     . subst hi';exact KeyOrd.kle_refl _
     . have hi0:i=0:=by omega
       have hj1:j=1:=by omega
       subst hi0;subst hj1
       exact KeyOrd.kle_of_klt hlt
theorem zFI {p:Array Nat}{k:Nat}(hs:Sr key p k):∀(f l r:Nat),l<=r->r<=k->r-l<=f->(∀i,i<l->O.kle (kk key p i) (kk key p k))->(∀i,r<=i->i<k->O.klt (kk key p k) (kk key p i)) ->
 ∃m,ev (lt_ key) (kas_place p k f l r)=m/\m<=k/\(∀i,i<m->O.kle (kk key p i) (kk key p k))/\(∀i,m<=i->i<k->O.klt (kk key p k) (kk key p i))
 | 0,l,r,hlr,hrk,hf,hlo,hhi=>⟨l,rfl,by omega,hlo,fun i h1 h2=>hhi i (by omega) h2⟩
 | f+1,l,r,hlr,hrk,hf,hlo,hhi=>by
  unfold kas_place
  by_cases hge:l ≥ r
  . rw[if_pos hge]
    exact⟨l,rfl,by omega,hlo,fun i h1 h2=>hhi i (by omega) h2⟩
  . rw[if_neg hge]
    show ∃m,ev (lt_ key) (if lt_ key (p.getD k 0) (p.getD ((l+r)/2) 0)=true then kas_place p k f l ((l+r)/2) else kas_place p k f ((l+r)/2+1) r)=m/\_
    cases hl:lt_ key (p.getD k 0) (p.getD ((l+r)/2) 0) with
    | true=>
     obtain⟨m,e,x⟩:=zFI hs f l ((l+r)/2) (by omega) (by omega) (by omega) hlo (fun i h1 h2=>KeyOrd.klt_of_klt_of_kle hl (hs _ _ h1 h2))
     exact⟨m,by simpa using e,x⟩
    | false=>
     obtain⟨m,e,x⟩:=zFI hs f ((l+r)/2+1) r (by omega) (by omega) (by omega) (fun i h1=>KeyOrd.kle_trans (hs i ((l+r)/2) (by omega) (by omega)) (show O.kle _ _ from hl)) hhi
     exact⟨m,by simpa using e,x⟩
theorem zLV:∀(f:Nat)(p:Array Nat)(k:Nat),k+f=p.size->Sr key p k->∃q,ev (lt_ key) (kas_bin f p k)=q/\q.Perm p/\Sr key q (k+f)
 | 0,p,k,_,hs=>⟨p,rfl,.refl _,hs⟩
 | f+1,p,k,hz,hs=>by
  unfold kas_bin
  rw[zDW]
  obtain⟨l,e,hlk,hlo,hhi⟩:=zFI (key:=key) hs k 0 k (by omega) (by omega) (by omega) (fun i h=>by omega) (fun i h1 h2=>by omega)
  rw[e]
  have hs':Sr key (bubble p k (k-l)) (k+1):=fun i j hij hj=>by
   rw[zF3 (by omega) (by omega),zF3 (by omega) (by omega),show k-(k-l)=l by omega]
   repeat' split
   all_goals first
    | (exfalso;omega)
    | exact KeyOrd.kle_refl _
    | exact hlo _ (by omega)
    | exact KeyOrd.kle_of_klt (hhi _ (by omega) (by omega))
    | exact hs _ _ (by omega) (by omega)
  obtain⟨q,e2,a,b⟩:=zLV f (bubble p k (k-l)) (k+1) (by rw[(bubble_perm p k (k-l)).size_eq];omega) hs'
  exact⟨q,e2,a.trans (bubble_perm _ _ _),by rw[show k+(f+1)=k+1+f by omega];exact b⟩
theorem zLk (n:Nat)(h1:1<=n):∃q,ev (lt_ key) (kas_sort n)=q/\q.Perm (List.range n).toArray/\Sr key q n:=by
 unfold kas_sort
 rw[zDW]
 have hz:(List.range n).toArray.size=n:=by simp
 obtain⟨m,q,e,a,b,c,d⟩:=zKf (key:=key) (p:=(List.range n).toArray) h1 (by omega)
 rw[e]
 dsimp only
 have hq:q.size=n:=by rw[a.size_eq,hz]
 by_cases hm:m<n
 . rw[if_pos hm]
   obtain⟨r,e2,a2,b2⟩:=zLV (key:=key) (n-max m 1) q (max m 1) (by omega) (by rw[show max m 1=m by omega];exact d)
   exact⟨r,e2,a2.trans a,by rw[show max m 1+(n-max m 1)=n by omega] at b2;exact b2⟩
 . rw[if_neg hm]
   have:m=n:=by omega
   subst this
   exact⟨q,rfl,a,d⟩
end
noncomputable def zEi {α:Type}(n:Nat)(R:α->Prop):KasT α->Prop
 | .ret a=>R a
 | .ask i j k=>i<n/\j<n/\∀b,zEi n R (k b)
theorem zEi.bind {α β:Type}{n:Nat}{R:α->Prop}{R':β->Prop}{f:α->KasT β}(hf:∀a,R a->zEi n R' (f a)):∀(t:KasT α),zEi n R t->zEi n R' (t.bind f)
 | .ret a,h=>hf a h
 | .ask _ _ k,h=>⟨h.1,h.2.1,fun b=>zEi.bind hf (k b) (h.2.2 b)⟩
noncomputable def Bd (n:Nat)(p:Array Nat):Prop:=∀i,p.getD i 0<n
theorem Bd.perm {q:Array Nat}(h:Bd n q)(hp:p.Perm q):Bd n p:=fun i=>by
 have h0:0<n:=zAo (zg _) (h 0)
 by_cases hi:i<p.size
 . have e:p.getD i 0=p[i]:=by simp[Array.getD,hi]
   rw[e]
   have hm:p[i]∈q.toList:=(Array.perm_iff_toList_perm.mp hp).mem_iff.mp (by simp)
   obtain⟨j,hj,ej⟩:=zAL hm
   have hj':j<q.size:=by simpa using hj
   have:=h j
   rw[show q.getD j 0=q[j] by simp[Array.getD,hj']] at this
   rw[<-ej]
   simpa using this
 . have e:p.getD i 0=0:=by simp[Array.getD,hi]
   rw[e];exact h0
theorem zGw {n:Nat}{p:Array Nat}(hp:Bd n p):∀f m,zEi n (fun _=>True) (kas_asc p f m)
 | 0,_=>trivial
 | f+1,m=>⟨hp _,hp _,fun b=>by
  cases b with
  | true=>exact trivial
  | false=>exact zGw hp f (m+1)⟩
theorem zDx {n:Nat}:∀(f:Nat)(p:Array Nat)(m q:Nat),Bd n p->zEi n (fun r=>Bd n r.1) (kas_desc f p m q)
 | 0,_,_,_,hp=>hp
 | f+1,p,m,q,hp=>⟨hp _,hp _,fun b=>by
  cases b with
  | true=>
   show zEi n _ (if q > 0 then kas_desc f (kas_rev p (m-(q+1)) m) (m+1) 0 else kas_desc f p (m+1) 0)
   split
   . exact zDx f _ _ _ (hp.perm (zCD _ _ _))
   . exact zDx f _ _ _ hp
  | false=>
   refine⟨hp _,hp _,fun d=>?_⟩
   cases d with
   | true=>exact hp
   | false=>exact zDx f _ _ _ hp⟩
theorem zFh {m:Nat}(hp:Bd n p):zEi n (fun r=>Bd n r.2) (kas_tail3 m nrem p):=by
 unfold kas_tail3
 exact zEi.bind (R:=fun _=>True) (R':=fun r=>Bd n r.2) (f:=fun k=>KasT.ret (k,kas_rev p 0 m)) (fun a _=>hp.perm (zCD p 0 m)) _ (zGw (hp.perm (zCD p 0 m)) _ _)
theorem zDg {m:Nat}(hp:Bd n p):zEi n (fun r=>Bd n r.2) (kas_descPart m nrem p):=
 zEi.bind (fun r hr=>by
  split
  . exact zFh (hr.perm (zCD _ _ _))
  . exact zFh hr) _ (zDx _ _ _ _ hp)
theorem zJI (hp:Bd n p):zEi n (fun r=>Bd n r.2) (kas_count nrem p):=
 zEi.bind (fun r _=>by
  split
  . exact hp
  . split
    . refine⟨hp _,hp _,fun b=>?_⟩
      cases b with
      | true=>exact hp
      | false=>exact zDg (hp.perm (zCD _ _ _))
    . exact zDg hp) _ (zGw hp _ _)
theorem zEA {n k:Nat}{p:Array Nat}(hp:Bd n p):∀f l r,zEi n (fun _=>True) (kas_place p k f l r)
 | 0,_,_=>trivial
 | f+1,l,r=>by
  unfold kas_place
  split
  . exact trivial
  . refine⟨hp _,hp _,fun b=>?_⟩
    cases b with
    | true=>exact zEA hp f _ _
    | false=>exact zEA hp f _ _
theorem zJR {n:Nat}:∀(f:Nat)(p:Array Nat)(k:Nat),Bd n p->zEi n (fun _=>True) (kas_bin f p k)
 | 0,_,_,_=>trivial
 | f+1,p,k,hp=>zEi.bind (fun l _=>zJR f _ _ (hp.perm (bubble_perm _ _ _))) _ (zEA hp _ _ _)
theorem zJn (h:0<n):zEi n (fun _=>True) (kas_sort n):=
 zEi.bind (fun r hr=>by
  split
  . exact zJR _ _ _ hr
  . exact trivial) _ (zJI fun i=>by
    by_cases hi:i<n
    . simp[Array.getD,hi]
    . simp[Array.getD,hi];exact h)
end SortT
namespace SortT
open PySem PySem.W PySem.Calls PyProof.Rows
theorem wp_ev {α:Type}{cmp:Nat->Nat->(Bool->Shared->Prop)->Shared->Prop}{lt:Nat->Nat->Bool}{n:Nat}{s:Shared}(hc:∀i j C,i<n->j<n->C (lt i j) s->cmp i j C s){R:α->Prop}{Q:α->Shared->Prop} :
 ∀t:KasT α,zEi n R t->Q (ev lt t) s->t.kasWp cmp Q s
 | .ret _,_,h=>h
 | .ask i j k,w,h=>hc i j _ w.1 w.2.1 (wp_ev hc (k (lt i j)) (w.2.2 _) h)
variable {O:KeyOrd}
section
variable {prog:Program}{w:World}{A:Around}{E:vSP}{s:Shared}
structure Put {O:KeyOrd}(key:Nat->O.α)(n:Nat)(out:List Nat):Prop where
 perm:out.Perm (List.range n)
 rise:∀(i j a b:Nat),i<=j->out[i]? = some a->out[j]? = some b->O.kle (key a) (key b)
theorem put_of {key:Nat->O.α}{n:Nat}{q:Array Nat}(hp:q.Perm (List.range n).toArray)(hs:Sr key q n):Put key n q.toList:=by
 have hl:q.toList.Perm (List.range n):=Array.perm_iff_toList_perm.mp hp
 refine⟨hl,fun i j a b hij ha hb=>?_⟩
 have hz:q.size=n:=by have:=hp.size_eq;simpa using this
 have hj:j<q.toList.length:=(zK.mp hb).1
 have hj':j<n:=by rw[<-hz];simpa using hj
 have h:=hs i j hij hj'
 have ga:q.getD i 0=a:=by
  rw[Array.getD_eq_getD_getElem?,<-Array.getElem?_toList,ha];rfl
 have gb:q.getD j 0=b:=by
  rw[Array.getD_eq_getD_getElem?,<-Array.getElem?_toList,hb];rfl
 unfold kk at h
 rw[ga,gb] at h
 exact h
structure Asks (prog:Program)(w:World)(A:Around)(s:Shared)(a:Addr)(vs:List Value){O:KeyOrd}(key:Nat->O.α)(κ:SortKind):Prop where
 kind:∀(h':Heap)(Q:SortKind->Shared->Prop)(E:vSP),(∀b o,b≠a->s.heap.get? b=some o->h'.get? b=some o)->Q κ { s with heap:=h' }->wpAny (model prog w) A (keyKind' vs.toArray) Q E { s with heap:=h' }
 less:∀(h':Heap)(i j:Nat)(Q:Bool->Shared->Prop)(E:vSP),(∀b o,b≠a->s.heap.get? b=some o->h'.get? b=some o)->i<vs.length->j<vs.length->Q (O.blt (key i) (key j)) { s with heap:=h' } ->
  wpAny (model prog w) A (keyLt' κ (vs.getD i Value.none) (vs.getD j Value.none)) Q E { s with heap:=h' }
theorem list_sort {a:Addr}{vs:List Value}{n:Nat}{P:PySem.Fin->Shared->Prop}{key:Nat->O.α}{κ:SortKind}(ho:s.heap.get? a=some (seqObj "list" vs.toArray n)) (h64:vs.length<64)
 (ask:2<=vs.length->Asks prog w A s a vs key κ)
 (h:∀out:List Nat,Put key vs.length out->P (.done (.ret .none)) { s with heap:=sortedHeap s.heap a vs (out.map fun i=>vs.getD i Value.none).toArray }) :
 wpAny (model prog w) A (Builtin.«list.sort» ⟨[.ref a],[]⟩) P E s:=by
 rw[list_sort_plain]
 have ha:a<s.heap.objs.size:=zQ ho
 refine zA (listItems_at ho rfl ?_)
 refine zA (listUpdate_at ho rfl ?_ (by rw[zN,sizeLine_eq];omega) (zg _))
 obtain⟨e1,ho1⟩:∃e1,(s.heap.update a (Obj.mapSeq fun _=>#[])).get? a=some (seqObj "list" #[] e1):=⟨_,get?_update_seq ho (fun _=>#[])⟩
 refine zA (seqEpoch_at ho1 rfl ?_)
 refine zA (wpAny_newTuple ?_ (by show vs.length<=_;rw[sizeLine_eq];omega))
 refine zA (wpAny_newList ?_ (zg _))
 refine zx ?_
 have ho6:(((s.heap.update a (Obj.mapSeq fun _=>#[])).push (seqObj "tuple" vs.toArray 0)).push (seqObj "list" #[] 0)).get? a=some (seqObj "list" #[] e1):=by
  rw[Heap.get?_push_ne _ _ _ (by rw[size_push',Heap.size_update];exact zT (zAl ha)),Heap.get?_push_ne _ _ _ (by rw[Heap.size_update];exact zT ha)]
  exact ho1
 have keep:∀b o,b≠a->s.heap.get? b=some o->(((s.heap.update a (Obj.mapSeq fun _=>#[])).push (seqObj "tuple" vs.toArray 0)).push (seqObj "list" #[] 0)).get? b=some o:=fun b o hb e=>by
  refine zG _ (zG _ ?_)
  rw[Heap.get?_update_ne _ _ _ _ hb]
  exact e
 show wpAny (model prog w) A _ P E { s with heap:=((s.heap.update a (Obj.mapSeq fun _=>#[])).push (seqObj "tuple" vs.toArray 0)).push (seqObj "list" #[] 0) }
 dsimp only
 by_cases h2:vs.toArray.size<2
 . rw[if_pos h2,if_pos h2]
   refine zA (zC ?_)
   rw[StateT.run_pure]
   refine zA (zC ?_)
   dsimp only
   refine zA (seqEpoch_at ho6 rfl ?_)
   refine zA (listUpdate_at ho6 rfl ?_ (zg _) (by rw[Array.size_map];show (pairsOf vs).size<=_;rw[pairsOf_size,sizeLine_eq];omega))
   simp only[bne_self_eq_false,zBP,if_false]
   refine zC ?_
   have hlen:vs.length<2:=by simpa using h2
   have hout:(arrOf (SortSt.mk' general' (vs.toArray.zip vs.toArray) #[] 7 none)).map (·.2)=((List.range vs.length).map fun i=>vs.getD i Value.none).toArray:=by
    show (vs.toArray.zip vs.toArray).map (·.2)=_
    match vs,hlen with
    | [],_=>simp
    | [v],_=>simp
    | _::_::_,h=>exfalso;simp only[zn] at h;omega
   have fin:=h (List.range vs.length) ⟨.refl _,fun i j x y hij hx hy=>by
    have hj:j<(List.range vs.length).length:=(zK.mp hy).1
    rw[zAV] at hj
    have e:i=j:=by omega
    subst e
    rw[hx] at hy
    cases hy
    exact KeyOrd.kle_refl _⟩
   rw[<-hout] at fin
   exact fin
 . rw[if_neg h2,if_neg h2]
   have h2':2<=vs.length:=by
    have:¬ vs.length<2:=by simpa using h2
    omega
   have K:=ask h2'
   refine zA (K.kind _ _ _ keep ?_)
   obtain⟨q,eq,hp,hs⟩:=zLk (key:=key) vs.length (by omega)
   have run:(kas_sort vs.length).kasWp (kas_ask prog w A κ vs) (fun p s'=>p=q/\s'={ s with heap:=((s.heap.update a (Obj.mapSeq fun _=>#[])).push (seqObj "tuple" vs.toArray 0)).push (seqObj "list" #[] 0) })
    { s with heap:=((s.heap.update a (Obj.mapSeq fun _=>#[])).push (seqObj "tuple" vs.toArray 0)).push (seqObj "list" #[] 0) }:=
    wp_ev (lt:=lt_ key) (n:=vs.length) (fun i j C hi hj hC=>K.less _ i j C _ keep hi hj hC) _ (zJn (by omega)) ⟨eq,rfl⟩
   refine zA (zAz (kat_run (ks:=vs) (vs:=vs) (Q:=fun st' s'=>∃p:Array Nat,p.size=vs.length/\arrOf st'=p.map (kas_item (vs.toArray.zip vs.toArray))/\failedOf st'=none/\p=q/\s'={ s with heap:=((s.heap.update a (Obj.mapSeq fun _=>#[])).push (seqObj "tuple" vs.toArray 0)).push (seqObj "list" #[] 0) })
    rfl h2' h64 (fun p' st' s' a1 a2 a3 a4=>⟨p',a1,a2,a3,a4⟩) run) ?_ fun _ _ e=>e)
   rintro ⟨⟨⟩,st'⟩ s' ⟨p,hsz,har,hf,rfl,rfl⟩
   dsimp only
   refine zA (seqEpoch_at ho6 rfl ?_)
   refine zA (listUpdate_at ho6 rfl ?_ (zg _) (by rw[Array.size_map,har,Array.size_map,hsz,sizeLine_eq];omega))
   rw[hf]
   simp only[bne_self_eq_false,zBP,if_false]
   refine zC ?_
   have hout:=kat_snds (ks:=vs) (vs:=vs) rfl har
   have fin:=h p.toList (put_of hp hs)
   rw[<-hout] at fin
   exact fin
theorem sorted_list {l:Addr}{vs:List Value}{Q:vSP}{key:Nat->O.α}{κ:SortKind}(hl:s.heap.IsList l vs.toArray)(h64:vs.length<64)
 (ask:2<=vs.length->∀(s':Shared)(a:Addr),(∀b o,s.heap.get? b=some o->b≠a)->(∀b o,s.heap.get? b=some o->s'.heap.get? b=some o)->Asks prog w A.in1.in1 s' a vs key κ)
 (h:∀(D:Addr)(h':Heap)(out:List Nat)(c:Nat),Put key vs.length out->s.heap.objs.size<=D->(∀b o,s.heap.get? b=some o->h'.get? b=some o) ->
  h'.get? D=some (seqObj "list" (out.map fun i=>vs.getD i Value.none).toArray c)->Q (.ref D) { s with heap:=h' }) :
 wpAny (model prog w) A (call (.builtin "sorted") [.ref l]) Q E s:=by
 refine Calls.call_function_entry kind_sorted plain_sorted entry_sorted (args_sorted1 _) ?_
 unfold Builtin.«sorted»
 refine zA (m:=checkCount "sorted" 1 1 _) (zC ?_)
 refine zA (collect_list hl ?_ (by rw[sizeLine_eq];omega))
 refine zA (wpAny_newList ?_ (by rw[sizeLine_eq];omega))
 have hsz:((s.heap.push (seqObj "list" #[] 0)).update s.heap.objs.size (Obj.mapSeq (· ++ vs.toArray))).objs.size=s.heap.objs.size+1:=by
  rw[Heap.size_update,size_push']
 have hoL:(((s.heap.push (seqObj "list" #[] 0)).update s.heap.objs.size (Obj.mapSeq (· ++ vs.toArray))).push (seqObj "list" vs.toArray 0)).get? (s.heap.objs.size+1)=some (seqObj "list" vs.toArray 0):=by
  rw[<-hsz];exact zL _ rfl
 have keep:∀b o,s.heap.get? b=some o->(((s.heap.push (seqObj "list" #[] 0)).update s.heap.objs.size (Obj.mapSeq (· ++ vs.toArray))).push (seqObj "list" vs.toArray 0)).get? b=some o:=fun b o q=>by
  have hlt:b<s.heap.objs.size:=zQ q
  rw[Heap.get?_push_ne _ _ _ (by rw[hsz];exact zT (zAl hlt)),Heap.get?_update_ne _ _ _ _ (zT hlt),Heap.get?_push_ne _ _ _ (zT hlt)]
  exact q
 show wpAny _ _ _ _ _ { s with heap:=((s.heap.push (seqObj "list" #[] 0)).update s.heap.objs.size (Obj.mapSeq (· ++ vs.toArray))).push (seqObj "list" vs.toArray 0) }
 rw[hsz]
 refine zA (zx (zAE slot_list_sort ⟨_,hoL,rfl⟩ entry_list_sort (list_sort (O:=O) (key:=key) (κ:=κ) hoL h64 (fun h2=>ask h2 _ _ (fun b o e=>zT (zAl (zQ e))) keep) fun out hp=>⟨_,rfl,?_⟩) (args_list_sort _)))
 refine zC ⟨_,rfl,?_⟩
 obtain⟨c,hc⟩:=sortedAll_at s.heap vs (out.map fun i=>vs.getD i Value.none).toArray
 exact h _ _ out c hp (zBf _) (fun b o e=>sortedAll_old e) hc
end
end SortT
namespace DRaw
open PySem PySem.W PySem.Calls PyProof.Rows
noncomputable def At (h:Heap)(d:Addr)(es:Array DictEntry)(ep:Nat):Prop:=∃o,h.get? d=some o/\o.ExactDict/\o.data = .dict es ep
variable {d:Addr}{es:Array DictEntry}{ep:Nat}
theorem At.keep {h h':Heap}(x:At h d es ep)(k:∀o,h.get? d=some o->h'.get? d=some o):At h' d es ep:=
 let ⟨o,ho,r⟩:=x;⟨o,k o ho,r⟩
theorem At.lt {h:Heap}(x:At h d es ep):d<h.objs.size:=let ⟨_,ho,_⟩:=x;zQ ho
theorem At.typeIs {s:Shared}(x:At s.heap d es ep):s.TypeIs (.ref d) "dict" := let ⟨o,ho,hc,_⟩:=x;⟨o,ho,hc.1⟩
variable {Q:Option Value->Shared->Prop}
section
variable {prog:Program}{w:World}{A:Around}{E:vSP}{s:Shared}{it d:Addr}{es:Array DictEntry}{i ep:Nat}
theorem iter {Q:vSP}(hd:(d==sysModules)=false)(hm:At s.heap d es ep)
 (hQ:Q (.ref s.heap.objs.size) { s with heap:=s.heap.push { cls:=.type "dict_keyiterator",data:=.fields #[.ref d,.int 0 0,.int es.size 0,.int ep 0] } }) :
 wpAny (model prog w) A (pyIter (.ref d)) Q E s:=by
 obtain⟨o,ho,hc,hdat⟩:=id hm
 have hT:=hm.typeIs
 refine wpAny_pyIter_slot hT F.slot_dict_iter (zAE F.slot_dict_iter hT F.entry_dict_iter ?_ (F.args_dict_iter_1 _))
 unfold Builtin.«dict.__iter__»
 refine zA ?_
 unfold Builtin.Dict.dictSlotNone
 refine zA (wpAny_notOrdered_dict hT ?_)
 show wpAny _ _ (pure (Value.ref d)) _ _ s
 refine zC ?_
 show wpAny _ _ (Builtin.Dict.showsAll d >>= _) _ _ s
 unfold Builtin.Dict.showsAll
 rw[if_neg (by rw[hd];exact zb)]
 refine zA (zC ?_)
 refine zA (wpAny_dictEntries ho hdat ?_)
 refine zA (wpAny_dictEpoch ho hdat ?_)
 refine zA (zv (zC ⟨_,rfl, "dict_keyiterator",_,⟨_,zL _ rfl,rfl⟩,F.slot_dict_keyiterator_next.lookup,?_⟩))
 simpa [rawInt] using hQ
theorem next (hit:s.heap.IsKeyIter it d i es.size ep)(hm:At s.heap d es ep)(hlt':i<es.size)
 (hQ:∀h',h'.IsKeyIter it d (i+1) es.size ep->Heap.SameBut it s.heap h'->Q (some es[i].key) { s with heap:=h' }):wpAny (model prog w) A (pyNext (.ref it)) Q E s:=by
 obtain⟨o,ho,hc,hd⟩:=id hit
 obtain⟨od,hod,hcd,hdd⟩:=id hm
 unfold pyNext
 refine zA (wpAny_attempt (zAD (name:=Str.ofString "__next__") hit.typeIs F.slot_dict_keyiterator_next
  (zAE F.slot_dict_keyiterator_next hit.typeIs F.entry_dict_keyiterator_next ?_ (F.args_dict_keyiterator_next_1 _))))
 refine zA (zC ?_)
 refine zA ?_
 refine zA ?_
 first | refine zA (zB5 hit.typeIs (zC ?_)) | refine zA (wpAny_typeNameOf_keyiter hit.typeIs (zC ?_))
 refine zA (wpAny_fieldsOf ho hd ?_)
 have hown:Builtin.Dict_items.ownsTuple "dict_keyiterator" = false:=by decide
 simp only[hown,zBP,if_false]
 show wpAny _ _ (if (Value.ref d==Value.none)=true then _ else _) _ _ s
 rw[if_neg (show ¬ ((Value.ref d==Value.none)=true) from zb)]
 refine zA (zC ?_)
 refine zA (wpAny_dictEntries hod hdd ?_)
 rw[if_neg (by simp)]
 refine zA (zC ?_)
 refine zA (wpAny_dictEpoch hod hdd ?_)
 rw[if_neg (by simp)]
 refine zC ?_
 simp only[show ¬ ((i:Int)<0) from by omega,if_false,zAB,Array.getElem?_eq_getElem hlt']
 refine zA ?_
 first | refine zA (zB5 hit.typeIs (zC ?_)) | refine zA (wpAny_typeNameOf_keyiter hit.typeIs (zC ?_))
 refine zA (wpAny_isOneOf_keyiter hit.typeIs ?_)
 show wpAny _ _ (setField (.ref it) 1 (rawInt ((i:Int)+1)) >>= _) _ _ s
 refine zA (zBZ ho hd (by simp) ?_)
 have hit':(s.heap.update it (Obj.mapFields (·.setIfInBounds 1 (rawInt ((i:Int)+1))))).IsKeyIter it d (i+1) es.size ep:=
  ⟨_,zAC _ ho (Obj.isFreed_of_fields (Obj.data_mapFields hd _)),(Obj.cls_mapFields ..).trans hc,by rw[Obj.data_mapFields hd];simp[rawInt]⟩
 refine zA (zx ?_)
 refine zA (wpAny_isOneOf_keyiter (s:={ s with heap:=s.heap.update it (Obj.mapFields (·.setIfInBounds 1 (rawInt ((i:Int)+1)))) }) hit'.typeIs ?_)
 show wpAny _ _ (pure es[i].key) _ _ _
 exact zC (zC ⟨_,rfl,zC (hQ _ hit' (zAb ..))⟩)
theorem stop (hh:A.handled=none)(hit:s.heap.IsKeyIter it d i es.size ep)(hm:At s.heap d es ep)(hge:es.size<=i)
 (hQ:∀h',Heap.ExtBut it s.heap h'->Q none { s with heap:=h' }):wpAny (model prog w) A (pyNext (.ref it)) Q E s:=by
 obtain⟨o,ho,hc,hd⟩:=id hit
 obtain⟨od,hod,hcd,hdd⟩:=id hm
 unfold pyNext
 refine zA (wpAny_attempt (zAD (name:=Str.ofString "__next__") hit.typeIs F.slot_dict_keyiterator_next
  (zAE F.slot_dict_keyiterator_next hit.typeIs F.entry_dict_keyiterator_next ?_ (F.args_dict_keyiterator_next_1 _))))
 refine zA (zC ?_)
 refine zA ?_
 refine zA ?_
 first | refine zA (zB5 hit.typeIs (zC ?_)) | refine zA (wpAny_typeNameOf_keyiter hit.typeIs (zC ?_))
 refine zA (wpAny_fieldsOf ho hd ?_)
 have hown:Builtin.Dict_items.ownsTuple "dict_keyiterator" = false:=by decide
 simp only[hown,zBP,if_false]
 show wpAny _ _ (if (Value.ref d==Value.none)=true then _ else _) _ _ s
 rw[if_neg (show ¬ ((Value.ref d==Value.none)=true) from zb)]
 refine zA (zC ?_)
 refine zA (wpAny_dictEntries hod hdd ?_)
 rw[if_neg (by simp)]
 refine zA (zC ?_)
 refine zA (wpAny_dictEpoch hod hdd ?_)
 rw[if_neg (by simp)]
 refine zC ?_
 simp only[show ¬ ((i:Int)<0) from by omega,if_false,zAB,Array.getElem?_eq_none hge]
 refine zA ?_
 first | refine zA (zB5 hit.typeIs (zC ?_)) | refine zA (wpAny_typeNameOf_keyiter hit.typeIs (zC ?_))
 show wpAny _ _ (setField (.ref it) 0 .none >>= _) _ _ s
 refine zA (zBZ ho hd (by simp) ?_)
 show wpAny _ _ (newExc (.type "StopIteration") [] >>= _) _ _ _
 refine zA ?_
 simp only[newExc,newTuple]
 refine zA (zv ?_ (by size_fits))
 refine zA (m:=firstArgMember _ _) (wpAny_of_eq (a:=Value.none) (by first | rfl | (simp only[firstArgMember];rfl)) ?_)
 refine zv ?_ (by size_fits)
 simp only[raiseNew]
 refine zA (wpAny_handled ?_)
 rw[show A.in1.handled=none from hh]
 refine zA (zC (wpAny_throw ?_))
 refine zA (zAj (T := "StopIteration") (b:=true) ⟨_,zL _ rfl,rfl⟩ isSubtype_stop ?_)
 exact zC (hQ _ (((zAb ..).extBut.push _).push _))
end
section
variable {prog:Program}{w:World}{A:Around}{d:Addr}{es:Array DictEntry}{ep:Nat}
theorem walks (hh:A.handled=none)(I:Addr)(hne:d≠I):Walks prog w A I [I,d] [I] es.size (fun i v=>∃e,es[i]? = some e/\v=e.key) (fun i h=>h.IsKeyIter I d i es.size ep/\At h d es ep) where
 sub:=fun b hb=>by simp at hb;simp[hb]
 frame:=fun _ _ _ st hk=>⟨st.1.at fun o e=>hk I (by simp) o e,st.2.keep fun o e=>hk d (by simp) o e⟩
 item:=fun i s Q E hi st hQ=>next st.1 st.2 hi fun h' hit' hs'=>
  hQ _ h' s.toks ⟨es[i],by simp[hi],rfl⟩ ⟨hit',st.2.keep fun o e=>hs'.extBut d o hne e⟩ fun b o hb e=>hs'.extBut b o (fun h=>hb (by simp[h])) e
 done:=fun s Q E st hQ=>stop hh st.1 st.2 (zI _) fun h' he'=>hQ h' s.toks fun b o hb e=>he' b o (fun h=>hb (by simp[h])) e
 self:=fun _ _ _ _ st hQ=>wpAny_pyIter_keyiter st.1 hQ
theorem src (lo:(d==sysModules)=false):KdlSrc prog w "dict" d d es.size (fun i v=>∃e,es[i]? = some e/\v=e.key) (fun h=>At h d es ep) where
 type:=fun _ hm=>hm.typeIs
 there:=fun _ hm=>⟨hm.lt,hm.lt⟩
 keep:=fun _ _ hm hk=>hm.keep fun o e=>hk d (.inl rfl) o e
 notList:=by decide
 notTuple:=by decide
 hint:=fun _ _ _ _ hm hq=>kdl_hint_dict hm.typeIs hq
 iter:=fun _ _ hh hm=>⟨_,_,(fun _ _ hq=>iter lo hm hq),walks hh _ (zT hm.lt),⟨⟨_,zL _ rfl,rfl,rfl⟩,hm.keep fun o e=>zG _ e⟩⟩
end
end DRaw
namespace SortT
open PySem PySem.W PySem.Calls PyProof.Rows
theorem sorted_dict {prog:Program}{w:World}{A:Around}{E:vSP}{s:Shared}{d:Addr}{es:Array DictEntry}{ep:Nat}{vs:List Value}{Q:vSP}{O:KeyOrd}{key:Nat->O.α}{κ:SortKind}
 (hh:A.handled=none)(lo:(d==sysModules)=false)(hm:DRaw.At s.heap d es ep)(hvs:vs=es.toList.map (·.key))(h64:vs.length<64)
 (ask:2<=vs.length->∀(s':Shared)(a:Addr),(∀b o,s.heap.get? b=some o->b≠a)->(∀b o,s.heap.get? b=some o->s'.heap.get? b=some o)->Asks prog w A.in1.in1 s' a vs key κ)
 (h:∀(h1:Heap)(D:Addr)(h':Heap)(t':Nat)(out:List Nat)(c:Nat),Put key vs.length out->(∀b o,s.heap.get? b=some o->h1.get? b=some o)->h1.objs.size<=D->(∀b o,h1.get? b=some o->h'.get? b=some o) ->
  h'.get? D=some (seqObj "list" (out.map fun i=>vs.getD i Value.none).toArray c)->Q (.ref D) { s with heap:=h',toks:=t' }) :
 wpAny (model prog w) A (call (.builtin "sorted") [.ref d]) Q E s:=by
 have hlen:vs.length=es.size:=by rw[hvs];simp
 refine call_function_entry kind_sorted plain_sorted entry_sorted (args_sorted1 _) ?_
 unfold Builtin.«sorted»
 refine zA (m:=checkCount "sorted" 1 1 _) (zC ?_)
 refine zA (kdu_collect (A:=A.in1) (DRaw.src (es:=es) (ep:=ep) lo) hh hm (by rw[sizeLine_eq];omega) fun h1 tk acc hk hacc=>?_)
 have el:acc.toList=vs:=by
  apply List.ext_getElem?
  intro j
  by_cases hj:j<es.size
  . have hz:j<acc.size:=by rw[hacc.1];exact hj
    obtain⟨e,he,hv⟩:=hacc.2 j acc[j] (by simp[hz])
    rw[Array.getElem?_toList,Array.getElem?_eq_getElem hz,hv,hvs,zP,Array.getElem?_toList,he]
    rfl
  . rw[zAF (by rw[Array.length_toList,hacc.1];omega),zAF (by omega)]
 rw[el]
 refine zA (wpAny_newList ?_ (by rw[sizeLine_eq];omega))
 have hoL:(h1.push (seqObj "list" vs.toArray 0)).get? h1.objs.size=some (seqObj "list" vs.toArray 0):=zL _ rfl
 have keep1:∀b o,h1.get? b=some o->(h1.push (seqObj "list" vs.toArray 0)).get? b=some o:=fun b o q=>zG _ q
 refine zA (zx (zAE slot_list_sort ⟨_,hoL,rfl⟩ entry_list_sort (list_sort (O:=O) (key:=key) (κ:=κ) hoL h64
  (fun h2=>ask h2 _ _ (fun b o e=>zT (zQ (hk b o e))) fun b o e=>keep1 b o (hk b o e)) fun out hp=>⟨_,rfl,?_⟩) (args_list_sort _)))
 refine zC ⟨_,rfl,?_⟩
 obtain⟨c,hc⟩:=sortedHeap_at (vs:=vs) (out:=(out.map fun i=>vs.getD i Value.none).toArray) hoL
 refine h h1 _ _ _ out c hp hk (zI _) (fun b o e=>?_) hc
 have hb:b<h1.objs.size:=zQ e
 rw[sortedHeap_old (zT hb) (by rw[zAR];exact zAl hb)]
 exact keep1 b o e
end SortT
namespace L2
open PySem PySem.Spec PyProof.Rows
theorem zEx:∀a:List Int,HT.lexLt a a=false
 | []=>rfl
 | x::r=>by rw[HT.lexLt_cons,if_pos rfl];exact zEx r
theorem zEG:∀a b c:List Int,HT.lexLt a b=true->HT.lexLt b c=true->HT.lexLt a c=true
 | [],[],_,h,_=>by cases h
 | [],_::_,[],_,h=>by cases h
 | [],_::_,_::_,_,_=>rfl
 | _::_,[],_,h,_=>by cases h
 | _::_,_::_,[],_,h=>by cases h
 | x::a,y::b,z::c,h1,h2=>by
  rw[HT.lexLt_cons] at h1 h2 ⊢
  by_cases e1:x=y
  . subst e1
    rw[if_pos rfl] at h1
    by_cases e2:x=z
    . subst e2
      rw[if_pos rfl] at h2 ⊢
      exact zEG a b c h1 h2
    . rw[if_neg e2] at h2 ⊢;exact h2
  . rw[if_neg e1] at h1
    have l1:x<y:=of_decide_eq_true h1
    by_cases e2:y=z
    . subst e2;rw[if_neg e1];exact h1
    . rw[if_neg e2] at h2
      have l2:y<z:=of_decide_eq_true h2
      rw[if_neg (by omega)]
      exact zW (by omega)
theorem zEH:∀a b:List Int,HT.lexLt a b=false->HT.lexLt b a=false->a=b
 | [],[],_,_=>rfl
 | [],_::_,h,_=>by cases h
 | _::_,[],_,h=>by cases h
 | x::a,y::b,h1,h2=>by
  rw[HT.lexLt_cons] at h1 h2
  by_cases e:x=y
  . subst e
    rw[if_pos rfl] at h1 h2
    rw[zEH a b h1 h2]
  . rw[if_neg e] at h1
    rw[if_neg (Ne.symm e)] at h2
    have l1:=of_decide_eq_false h1
    have l2:=of_decide_eq_false h2
    omega
theorem zMa (a b c:List Int)(h:HT.lexLt a c=true):HT.lexLt a b=true\/HT.lexLt b c=true:=by
 cases h1:HT.lexLt a b with
 | true=>exact .inl rfl
 | false=>
  cases h2:HT.lexLt b a with
  | true=>exact .inr (zEG b a c h2 h)
  | false=>rw[<-zEH a b h1 h2];exact .inr h
noncomputable def zLL:KeyOrd:=⟨List Int,HT.lexLt,zEx,zEG,zMa,zEH⟩
noncomputable def zKk (ms:List (List Int)):Prop:=ms.Pairwise fun a b=>HT.lexLt b a=false
noncomputable def zAW (H:Hp):List V->List (List Int)->Prop
 | [],[]=>True
 | x::xs,k::ks=>(∃a,x = .ref a/\H a=some (.tup (k.map V.int))/\k≠[])/\zAW H xs ks
 | _,_=>False
theorem zAW.length {H:Hp}:∀{xs:List V}{ks:List (List Int)},zAW H xs ks->xs.length=ks.length
 | [],[],_=>rfl
 | [],_::_,h=>h.elim
 | _::_,[],h=>h.elim
 | _::_,_::_,h=>by rw[zn,zn,zAW.length h.2]
theorem zAW.get {H:Hp}:∀{xs:List V}{ks:List (List Int)}{i:Nat}{x:V},zAW H xs ks->xs[i]? = some x->∃a k,x = .ref a/\ks[i]? = some k/\H a=some (.tup (k.map V.int))/\k≠[]
 | [],_,_,_,_,h=>by simp at h
 | _::_,[],_,_,h,_=>h.elim
 | y::_,k::_,0,x,h,e=>by
  obtain⟨⟨a,h1,h2,h3⟩,_⟩:=h
  have e':y=x:=by simpa using e
  subst e'
  exact⟨a,k,h1,rfl,h2,h3⟩
 | _::_,_::_,i+1,x,h,e=>by
  obtain⟨a,k,h1,h2,h3⟩:=zAW.get (i:=i) h.2 (by simpa using e)
  exact⟨a,k,h1,by simpa using h2,h3⟩
theorem zAW.mk {H:Hp}:∀{xs:List V}{ks:List (List Int)},xs.length=ks.length->(∀(i:Nat)(x:V)(k:List Int),xs[i]? = some x->ks[i]? = some k->∃a,x=V.ref a/\H a=some (.tup (k.map V.int))/\k≠[])->zAW H xs ks
 | [],[],_,_=>trivial
 | [],_::_,e,_=>by simp at e
 | _::_,[],e,_=>by simp at e
 | x::xs,k::ks,e,h=>⟨h 0 x k rfl rfl,zAW.mk (by simpa using e) fun i x' k' h1 h2=>h (i+1) x' k' (by simpa using h1) (by simpa using h2)⟩
variable {H:Hp}{ks:List (List Int)}
theorem zAW.keep {H':Hp}{xs:List V}(h:zAW H xs ks)(k:∀b ys,H b=some (.tup ys)->H' b=some (.tup ys)):zAW H' xs ks:=
 zAW.mk h.length fun i x c h1 h2=>by
  obtain⟨a,c',e1,e2,e3,e4⟩:=h.get h1
  rw[h2] at e2
  cases e2
  exact⟨a,e1,k a _ e3,e4⟩
theorem zAW.snoc {H:Hp}:∀{xs:List V}{ks:List (List Int)}{x:V}{k:List Int},zAW H xs ks->(∃a,x = .ref a/\H a=some (.tup (k.map V.int))/\k≠[])->zAW H (xs++[x]) (ks++[k])
 | [],[],_,_,_,h=>⟨h,trivial⟩
 | [],_::_,_,_,t,_=>t.elim
 | _::_,[],_,_,t,_=>t.elim
 | _::_,_::_,_,_,t,h=>⟨t.1,zAW.snoc t.2 h⟩
section
variable {prog:Program}{w:World}{A:Around}{s:Shared}
theorem zEK {fin:Bool}{Q:Bool->Shared->Prop}:∀(ns ms:List Int)(us ws:List Value)(i:Nat),IntsAre us ns->IntsAre ws ms->fin=decide (ns.length<ms.length)->Q (HT.lexLt ns ms) s ->
 PySem.W.KatLex prog w A true fin Q (us.zip ws) i s
 | [],[],_,_,_,.nil,.nil,e,q=>by subst e;exact q
 | [],_::_,_,_,_,.nil,.cons _ _ _,e,q=>by subst e;exact q
 | _::_,[],_,_,_,.cons _ _ _,.nil,e,q=>by subst e;exact q
 | n::ns,m::ms,_,_,i,.cons _ t hu,.cons _ u hw,e,q=>by
  rw[HT.lexLt_cons] at q
  refine PySem.W.kat_cons (wpAny_eqBool_int ?_)
  by_cases h:n=m
  . rw[if_pos h] at q
    rw[show (n==m)=true by simpa using h]
    exact PySem.W.kat_yes (zEK ns ms _ _ (i+1) hu hw (by rw[e];simp) q)
  . rw[if_neg h] at q
    rw[show (n==m)=false by simpa using h]
    refine PySem.W.kat_no ?_
    cases i with
    | zero=>exact oneLt_int q
    | succ j=>exact PySem.W.kat_one _ _ (PyProof.Rows.lt_int q)
theorem zJT {X:Cx}{pins:lPO}{σ:St}{s s':Shared}{a:Addr}{ys:List V}{vs:List Value}{A:Around}(I:Inv X pins σ H s)(T:zAW H ys ks)(r:zBL ys vs)(hne:0<vs.length)
 (fa:∀b o,s.heap.get? b=some o->b≠a)(kp:∀b o,s.heap.get? b=some o->s'.heap.get? b=some o):SortT.Asks X.prog X.w A s' a vs (O:=zLL) (fun i=>ks.getD i []) (tuples' true):=by
 have hl:=T.length
 have hv:=r.length
 have at_:∀(h':Heap),(∀b o,b≠a->s'.heap.get? b=some o->h'.get? b=some o)->∀i,i<vs.length->∃(p:Addr)(k:List Int)(us:List Value)(o:Obj)(n:Nat),vs[i]? = some (Value.ref p)/\ks[i]? = some k/\k≠[]/\IntsAre us k/\h'.get? p=some o/\o.cls = .type "tuple" /\ o.data = .seq us.toArray n:=fun h' kh i hi=>by
  have hy:i<ys.length:=by omega
  obtain⟨p,k,e1,e2,e3,e4⟩:=T.get (i:=i) (x:=ys[i]) (by simp[hy])
  obtain⟨u,hu,ru⟩:=r.get (i:=i) (x:=ys[i]) (by simp[hy])
  rw[e1] at ru
  cases (show u=Value.ref p from ru)
  obtain⟨_,its,rv,o,ho,hc,n,hd⟩:=I.hok p _ e3
  exact⟨p,k,its,o,n,hu,e2,e4,zBU rv,kh p o (fa p o ho) (kp p o ho),hc,hd⟩
 refine⟨fun h' Q E kh q=>?_,fun h' i j Q E kh hi hj q=>?_⟩
 . -- all keys are tuples whose first items are ints
   have tups:∀(m:Nat),m<=vs.length->∃fs:List Value,PySem.W.KatTups h' (vs.drop (vs.length-m)) fs/\fs.length=m/\∀f∈fs,∃x t,f=Value.int x t:=by
    intro m
    induction m with
    | zero=>intro _;exact⟨[],by rw[Nat.sub_zero,List.drop_length];exact trivial,rfl,fun f hf=>by simp at hf⟩
    | succ m ih=>
     intro hm
     obtain⟨fs,t,e,hf⟩:=ih (by omega)
     obtain⟨p,k,us,o,n,hu,hk,hk0,hI,ho,hc,hd⟩:=at_ h' kh (vs.length-(m+1)) (by omega)
     have ed:vs.drop (vs.length-(m+1))=Value.ref p::vs.drop (vs.length-m):=by
      have hlt:vs.length-(m+1)<vs.length:=by omega
      rw[List.drop_eq_getElem_cons hlt,show vs.length-(m+1)+1=vs.length-m by omega]
      have:vs[vs.length-(m+1)]=Value.ref p:=by
       rw[zD hlt] at hu
       exact zX hu
      rw[this]
     cases hI with
     | nil=>exact absurd rfl hk0
     | cons x tx hI'=>
      refine⟨Value.int x tx::fs,by rw[ed];exact PySem.W.KatTups.cons ho hc hd rfl t,by rw[zn,e],fun f hf'=>?_⟩
      rcases zV.mp hf' with rfl | hf'
      . exact⟨x,tx,rfl⟩
      . exact hf f hf'
   obtain⟨fs,t,e,hf⟩:=tups vs.length (zI _)
   rw[Nat.sub_self,List.drop_zero] at t
   refine PySem.W.kat_kind (T:=Value.type "int") t (by omega) (fun v hv=>?_) (by rfl) q
   obtain⟨x,tx,rfl⟩:=hf v hv
   exact PySem.W.Looks.of_pure rfl
 . obtain⟨p,k,us,o,n,hu,hk,_,hI,ho,hc,hd⟩:=at_ h' kh i hi
   obtain⟨p2,k2,us2,o2,n2,hu2,hk2,_,hI2,ho2,hc2,hd2⟩:=at_ h' kh j hj
   have e1:vs.getD i Value.none = .ref p:=by rw[zF,hu];rfl
   have e2:vs.getD j Value.none = .ref p2:=by rw[zF,hu2];rfl
   have g1:ks.getD i []=k:=by rw[zF,hk];rfl
   have g2:ks.getD j []=k2:=by rw[zF,hk2];rfl
   rw[e1,e2]
   refine PySem.W.kat_lt (s:={ s' with heap:=h' }) ho hd ho2 hd2 ?_
   have q':Q (HT.lexLt k k2) { s' with heap:=h' }:=by
    have:zLL.blt (ks.getD i []) (ks.getD j [])=HT.lexLt k k2:=by rw[g1,g2];rfl
    rw[<-this];exact q
   have l1:=hI.length
   have l2:=hI2.length
   exact zEK k k2 us us2 0 hI hI2 (by simp only[zN];rw[l1,l2]) q'
theorem zJ0 {ys:List V}{vs:List Value}{out:List Nat}(T:zAW H ys ks)(r:zBL ys vs)(p:SortT.Put (O:=zLL) (fun i=>ks.getD i []) vs.length out) :
 ∃zs ms,zAW H zs ms/\ms.Perm ks/\zKk ms/\zBL zs (out.map fun i=>vs.getD i Value.none)/\zs.length=ys.length:=by
 have hl:=T.length
 have hv:=r.length
 have hb:∀i∈out,i<vs.length:=fun i hi=>zBG.mp (p.perm.mem_iff.mp hi)
 refine⟨out.map fun i=>ys.getD i .non,out.map fun i=>ks.getD i [],zAW.mk (by rw[zB,zB]) fun j x k hx hk=>?_,?_,?_,?_,?_⟩
 . rw[zP] at hx hk
   cases e:out[j]? with
   | none=>rw[e] at hx;cases hx
   | some i=>
    rw[e] at hx hk
    have hi:=hb i (zU e)
    have hy:i<ys.length:=by omega
    obtain⟨a,c,e1,e2,e3,e4⟩:=T.get (i:=i) (x:=ys[i]) (by simp[hy])
    have ex:ys.getD i .non=x:=zX hx
    have ek:ks.getD i []=k:=zX hk
    rw[zF,zD hy] at ex
    rw[zF,e2] at ek
    have ex':ys[i]=x:=ex
    have ek':c=k:=ek
    subst ek'
    exact⟨a,by rw[<-ex'];exact e1,e3,e4⟩
 . have h1:=p.perm.map fun i=>ks.getD i []
   have h2:(List.range vs.length).map (fun i=>ks.getD i [])=ks:=by
    rw[show vs.length=ks.length by omega]
    apply List.ext_getElem?
    intro j
    rw[zP]
    by_cases hj:j<ks.length
    . rw[List.getElem?_range hj,zD hj];simp[hj]
    . rw[zAF (by rw[zAV];omega),zAF (by omega)];rfl
   rw[h2] at h1
   exact h1
 . refine zAQ.mpr fun i j hi hj hij=>?_
   rw[zB] at hi hj
   have:=p.rise i j out[i] out[j] (zAr hij) (by simp) (by simp)
   have h3:HT.lexLt (ks.getD out[j] []) (ks.getD out[i] [])=false:=this
   simpa using h3
 . have:∀l:List Nat,(∀i∈l,i<vs.length)->zBL (l.map fun i=>ys.getD i .non) (l.map fun i=>vs.getD i Value.none):=by
    intro l
    induction l with
    | nil=>intro _;exact .nil
    | cons i l ih=>
     intro h
     have hi:=h i zZ
     have hy:i<ys.length:=by omega
     obtain⟨u,hu,ru⟩:=r.get (i:=i) (x:=ys[i]) (by simp[hy])
     refine .cons ?_ (ih fun j hj=>h j (zc _ hj))
     show zBy (ys.getD i V.non) (vs.getD i Value.none)
     rw[zF,zD hy,zF,hu]
     exact ru
   exact this out hb
 . rw[zB,p.perm.length_eq,zAV];omega
theorem zCy {X:Cx}{pins:lPO}{σ:St}{s:Shared}{h':Heap}{D:Addr}{c t':Nat}{zs:List V}{us:List Value}(I:Inv X pins σ H s)(hD:s.heap.objs.size<=D)(kp:∀b o,s.heap.get? b=some o->h'.get? b=some o)
 (ho:h'.get? D=some (seqObj "list" us.toArray c)) (r:zBL zs us)(hz:zs.length<=sizeLine):Inv X pins σ (upd H D (.lst zs)) { s with heap:=h',toks:=t' }:=
 I.laid kp hD (show zBK X.prog X.w _ _ _ (.lst zs) from ⟨hz,us,c,r,ho⟩)
end
section
variable {X:Cx}
theorem zEQ:zCg X (.builtin "sorted") (fun xs H Q=>∃p ys ks,xs=[.ref p]/\SqL X.K H p ys/\zAW H ys ks/\ks.length<64 /\
 ∀l zs ms,H l=none->zAW H zs ms->ms.Perm ks->zKk ms->Q (.ref l) (upd H l (.lst zs))):=by
 intro pins s σ H xs us Q I r h
 obtain⟨p,ys,ks,rfl,hq,T,h64,q⟩:=h
 obtain⟨u,rfl,rx⟩:=zC3 r
 cases rx
 obtain⟨its,r',pl,hz⟩:=I.list hq
 have hl:=T.length
 have hv:=r'.length
 refine SortT.sorted_list (O:=zLL) (key:=fun i=>ks.getD i []) (κ:=tuples' true) pl.isList (by omega) (fun h2 s' a fa kp=>zJT I T r' (by omega) fa kp) fun D h' out c pt hD kp ho=>?_
 obtain⟨zs,ms,T2,hp,hr,rz,hlz⟩:=zJ0 T r' pt
 exact⟨.ref D,_,zCy (t':=s.toks) I hD kp ho rz (by omega),rfl,q D zs ms (I.hok.fresh hD) T2 hp hr⟩
end
mutual
inductive zBj (H:Hp):V->PyData->Prop
 | non:zBj H .non .none
 | bl (b:Bool):zBj H (.bl b) (.bool b)
 | int (i:Int):zBj H (.int i) (.int i)
 | str (x:Str):zBj H (.str x) (.str x)
 | tup {a:Addr}{xs:List V}{ds:List PyData}:H a=some (.tup xs)->zA1 H xs ds->zBj H (.ref a) (.tuple ds)
 | lst {a:Addr}{xs:List V}{ds:List PyData}:H a=some (.lst xs)->zA1 H xs ds->zBj H (.ref a) (.list ds)
inductive zA1 (H:Hp):List V->List PyData->Prop
 | nil:zA1 H [] []
 | cons {x:V}{xs:List V}{d:PyData}{ds:List PyData}:zBj H x d->zA1 H xs ds->zA1 H (x::xs) (d::ds)
end
section
variable {P:Program}{w:World}{H:Hp}{h:Heap}
mutual
theorem zBj.reads (ok:HOk P w H h):∀{x:V}{d:PyData},zBj H x d->∀{u:Value},zBy x u->∃as,Reads h u d as
 | _,_,.non,u,r=>by cases (show u=Value.none from r);exact⟨_,.none⟩
 | _,_,.bl b,u,r=>by cases (show u=Value.bool b from r);exact⟨_,.bool b⟩
 | _,_,.int i,u,r=>by obtain⟨t,rfl⟩:=r;exact⟨_,.int i t⟩
 | _,_,.str x,u,r=>by obtain⟨t,rfl⟩:=r;exact⟨_,.str x t⟩
 | _,_,.tup (a:=a) e s,u,r=>by
  cases (show u=Value.ref a from r)
  obtain⟨_,its,rv,o,ho,hc,n,hd⟩:=ok a _ e
  obtain⟨as,ra⟩:=zA1.reads ok s rv
  exact⟨_,.tuple ho hc hd (by simpa using ra)⟩
 | _,_,.lst (a:=a) e s,u,r=>by
  cases (show u=Value.ref a from r)
  obtain⟨_,its,n,rv,ho⟩:=ok a _ e
  obtain⟨as,ra⟩:=zA1.reads ok s rv
  exact⟨_,.list ho rfl rfl (by simpa using ra)⟩
theorem zA1.reads (ok:HOk P w H h):∀{xs:List V}{ds:List PyData},zA1 H xs ds->∀{us:List Value},zBL xs us->∃as,ReadsAll h us ds as
 | _,_,.nil,us,r=>by cases r;exact⟨_,.nil⟩
 | _,_,.cons s t,us,r=>by
  cases r with
  | cons r1 r2=>
   obtain⟨a1,h1⟩:=zBj.reads ok s r1
   obtain⟨a2,h2⟩:=zA1.reads ok t r2
   exact⟨_,.cons h1 h2⟩
end
end
structure Fn (n p:Nat)(d:PyData):Prop where
 wt:d.weight<=n
 dp:d.depth<=p
 cl:d.canLay0=true
 sh:d.intsShort 13=true
 sw:d.showable=true
theorem Fn.mono {n p n' p':Nat}{d:PyData}(h:Fn n p d)(hn:n<=n')(hp:p<=p'):Fn n' p' d:=⟨zAP h.wt hn,zAP h.dp hp,h.cl,h.sh,h.sw⟩
theorem zHd {i:Int}(h:i.natAbs<1000000000):i.natAbs.log2<30:=by
 by_cases h0:i.natAbs=0
 . rw[h0];decide
 . exact (Nat.log2_lt h0).mpr (by omega)
theorem zLQ {i:Int}(h:i.natAbs<1000000000):Fn 30 0 (.int i):=by
 have hl:=zHd h
 refine⟨?_,zI _,rfl,?_,?_⟩
 . simp only[PyData.weight]
   split <;> omega
 . simp only[PyData.intsShort,PyData.shown]
   refine zW ?_
   have e:=int_text_length_le10 (a:=i) (k:=9) (by decide) (by simpa using h)
   have e2:(Str.ofString (toString i)).length=(toString i).length:=by
    rw[Str.ofString_eq_toList]
    show ((toString i).toList.map Char.toNat).toArray.size=_
    rw[zN,zB,String.length_toList]
   show (Str.ofString (toString i)).length<=13
   omega
 . simp only[PyData.showable]
   exact zW (by omega)
theorem zLR {n p:Nat}:∀{ds:List PyData},(∀d∈ds,Fn n p d)->PyData.weightAll ds<=ds.length*(n+1)/\PyData.depthAll ds<=p/\PyData.canLayAll0 ds=true/\PyData.intsShortAll 13 ds=true/\PyData.showableAll ds=true
 | [],_=>⟨by simp[PyData.weightAll],by simp[PyData.depthAll],by simp[PyData.canLayAll0],by simp[PyData.intsShortAll],by simp[PyData.showableAll]⟩
 | d::ds,h=>by
  obtain⟨a,b,c,e,f⟩:=zLR (ds:=ds) fun x hx=>h x (zc _ hx)
  have g:=h d zZ
  refine⟨?_,?_,?_,?_,?_⟩
  . simp only[PyData.weightAll,zn]
    have:=g.wt
    rw[Nat.add_mul]
    omega
  . simp only[PyData.depthAll]
    have:=g.dp
    omega
  . simp only[PyData.canLayAll0,g.cl,c,Bool.and_self]
  . simp only[PyData.intsShortAll,g.sh,e,Bool.and_self]
  . simp only[PyData.showableAll,g.sw,f,Bool.and_self]
theorem zI7 {n p L:Nat}{ds:List PyData}(h:∀d∈ds,Fn n p d)(hl:ds.length<=L):Fn (L*(n+1)) (p+1) (.tuple ds):=by
 obtain⟨a,b,c,e,f⟩:=zLR h
 refine⟨?_,?_,?_,?_,?_⟩
 . simp only[PyData.weight]
   exact zAP a (Nat.mul_le_mul_right _ hl)
 . simp only[PyData.depth];omega
 . simp only[PyData.canLay0];exact c
 . simp only[PyData.intsShort];exact e
 . simp only[PyData.showable];exact f
theorem Fn.len {n p:Nat}{d:PyData}(h:Fn n p d)(hn:n<=1048576)(hp:p<=60):d.shown.length<=sizeLine/\d.hasDict=false:=by
 have hl:PyData.layable0 d=true:=by
  show (PyData.canLay0 d && decide (PyData.depth d<=64) && decide (PyData.weight d<=2 ^ 20))=true
  rw[h.cl,zW (show PyData.depth d<=64 by have:=h.dp;omega),zW (show PyData.weight d<=2 ^ 20 by have:=h.wt;omega)]
  rfl
 have e:=shown_le13 hl h.sh
 have:sizeLine=16777216:=rfl
 exact⟨by omega,PyData.hasDict_of_layable hl⟩
section
variable {X:Cx}
theorem zGL {k:Nat}(hr:zDM k X.A):zCg X (.builtin "repr") (fun xs H Q=>∃x d,xs=[x]/\zBj H x d/\Fn 1048576 50 d/\Q (.str d.shown) H):=by
 intro pins s σ H xs us Q I r h
 obtain⟨x,d,rfl,sh,f,q⟩:=h
 obtain⟨u,rfl,rx⟩:=zC3 r
 obtain⟨hz,hnd⟩:=f.len (zI _) (by decide)
 have hu:=hr.units
 cases sh with
 | non=>
  cases (show u=Value.none from rx)
  exact PySem.P.repr_of_none ⟨.str _,H,I.tok _,⟨_,rfl⟩,by simpa only [PyData.shown] using q⟩
 | bl b=>
  cases (show u=Value.bool b from rx)
  exact PySem.P.repr_of_bool ⟨.str _,H,I.tok _,⟨_,rfl⟩,by simpa only [PyData.shown] using q⟩
 | int i=>
  obtain⟨t,rfl⟩:=rx
  exact PySem.P.repr_of_int (by have:=f.sw;simpa only [PyData.showable,decide_eq_true_eq] using this) ⟨.str _,H,I.tok _,⟨_,rfl⟩,by simpa only [PyData.shown] using q⟩
 | str z=>
  obtain⟨t,rfl⟩:=rx
  exact PySem.P.repr_of_str ⟨.str _,H,I.tok _,⟨_,rfl⟩,by simpa only [PyData.shown] using q⟩ (by simpa only [PyData.shown] using hz)
 | tup e al=>
  cases (show u=Value.ref _ from rx)
  obtain⟨as,rd⟩:=zBj.reads I.hok (.tup e al) (u:=.ref _) rfl
  exact repr_of_reads' rd f.sw (PyData.noDict_hsm hnd) hr.gd (by have:=f.dp;omega) (fun _ _ e=>e) (fun h' u tk hk=>⟨.str _,H,I.kept hk,⟨u,rfl⟩,q⟩) hz
 | lst e al=>
  cases (show u=Value.ref _ from rx)
  obtain⟨as,rd⟩:=zBj.reads I.hok (.lst e al) (u:=.ref _) rfl
  exact repr_of_reads' rd f.sw (PyData.noDict_hsm hnd) hr.gd (by have:=f.dp;omega) (fun _ _ e=>e) (fun h' u tk hk=>⟨.str _,H,I.kept hk,⟨u,rfl⟩,q⟩) hz
end
end L2
namespace L2
open PySem PySem.Spec PyProof.Rows
section
variable {X:Cx}{es xs:List Expr}{t t1:TA}
theorem zCK {i j pos} (hr:PA X es t):PA X (.Constant (.int i) j pos::es) (zLc (tC (.int i)) t):=zE zz hr (by rfl)
theorem pa_lst {pos} (h:PA X xs t1)(hr:PA X es t):PA X (.List xs pos::es) (zLc (tLst t1) t):=zE (zBh h) hr (by rfl)
end
inductive zEW:List Expr->List Int->Prop where
 | nil:zEW [] []
 | cons {i:Int}{j:Nat}{pos:Pos}{es:List Expr}{ns:List Int}:zEW es ns->zEW (.Constant (.int i) j pos::es) (i::ns)
theorem zL2 {X:Cx}{es:List Expr}{ns:List Int}(h:zEW es ns):PA X es (fun _ H Q=>Q (ns.map V.int) H):=by
 induction h with
 | nil=>exact zM
 | cons _ ih=>
  intro pos pins s σ H Q I q
  exact (zCK ih) pos pins s σ H Q I q
inductive zDN:List Expr->List (List Int)->Prop where
 | nil:zDN [] []
 | cons {xs:List Expr}{ns:List Int}{pos:Pos}{es:List Expr}{nss:List (List Int)}:zEW xs ns->ns.length<=sizeLine->zDN es nss->zDN (.List xs pos::es) (ns::nss)
noncomputable def zKp:List (List Int)->TA
 | []=>tNil
 | ns::r=>fun σ H Q=>∀p,H p=none->zKp r σ (upd H p (.lst (ns.map V.int))) fun xs H2=>Q (.ref p::xs) H2
theorem zKD {X:Cx}{es:List Expr}{nss:List (List Int)}(h:zDN es nss):PA X es (zKp nss):=by
 induction h with
 | nil=>exact zM
 | cons hx hl _ ih=>
  intro pos pins s σ H Q I q
  exact (pa_lst (zL2 hx) ih) pos pins s σ H Q I ⟨by rw[zB];exact hl,fun p hp=>q p hp⟩
end L2
namespace WM
theorem zLJ {α:Type} [DecidableEq α]:∀{l₁ l₂:List α},l₁.Nodup->(∀x∈l₁,x∈l₂)->l₁.length<=l₂.length
 | [],_,_,_=>zg _
 | x::r,l₂,h,s=>by
  obtain⟨h1,h2⟩:=zAk.mp h
  have hx:x∈l₂:=s x zZ
  have ih:=zLJ (l₁:=r) (l₂:=l₂.erase x) h2 fun y hy=>by
   have hne:y≠x:=fun e=>h1 (e ▸ hy)
   exact (List.mem_erase_of_ne hne).mpr (s y (zc _ hy))
  rw[List.length_erase_of_mem hx] at ih
  have:0<l₂.length:=List.length_pos_of_mem hx
  rw[zn]
  omega
noncomputable def lowTo (n:Nat):List Int:=(List.range n).map fun (i:Nat)=>(i:Int)
variable {x:Int}
theorem zHF {n:Nat}:x∈lowTo n↔0<=x/\x<n:=by
 unfold lowTo
 rw[zAM]
 constructor
 . rintro ⟨i,hi,rfl⟩
   have:=zBG.mp hi
   omega
 . rintro ⟨h0,h1⟩
   exact⟨x.toNat,zBG.mpr (by omega),by omega⟩
theorem nd_len {n:Nat}{l:List Int}(h:l.Nodup)(hb:∀x∈l,0<=x/\x<n):l.length<=n:=by
 have:=zLJ h (l₂:=lowTo n) fun x hx=>zHF.mpr (hb x hx)
 simpa [lowTo] using this
theorem zI0 (n:Nat):(lowTo n).Pairwise (· < ·):=by
 unfold lowTo
 rw[zA2]
 exact List.pairwise_lt_range.imp fun h=>by omega
noncomputable abbrev T3:=Int×Int×Int
noncomputable def tl (t:T3):List Int:=[t.1,t.2.1,t.2.2]
structure GW (n:Int)(ts:List T3):Prop where
 n1:1<=n
 n24:n<=24
 len:ts.length<64
 rng:∀t∈ts,0<=t.1/\t.1<t.2.1/\t.2.1<n/\1<=t.2.2/\t.2.2<=99
 dis:ts.Pairwise fun s t=>¬ (s.1=t.1/\s.2.1=t.2.1)
noncomputable def Adj (ts:List T3)(x y l:Int):Prop:=(x,y,l)∈ts\/(y,x,l)∈ts
variable {l y:Int}{ts:List T3}
theorem Adj.symm (h:Adj ts x y l):Adj ts y x l:=h.elim .inr .inl
variable {n:Int}
theorem GW.uniq (g:GW n ts){l':Int}(h:Adj ts x y l)(h':Adj ts x y l'):l=l':=by
 have key:∀{ts:List T3},ts.Pairwise (fun s t=>¬ (s.1=t.1/\s.2.1=t.2.1))->∀{a b l l':Int},(a,b,l)∈ts->(a,b,l')∈ts->l=l':=by
  intro ts
  induction ts with
  | nil=>intro _ a b l l' h;simp at h
  | cons t r ih=>
   intro hp a b l l' h h'
   obtain⟨q,hr⟩:=zBp.mp hp
   rcases zV.mp h with e | e
   . rcases zV.mp h' with e' | e'
     . rw[<-e] at e';injection e' with _ e2;injection e2 with _ e3;exact e3.symm
     . exact absurd (by rw[<-e];exact⟨rfl,rfl⟩) (q _ e')
   . rcases zV.mp h' with e' | e'
     . exact absurd (by rw[<-e'];exact⟨rfl,rfl⟩) (q _ e)
     . exact ih hr e e'
 rcases h with h | h <;> rcases h' with h' | h'
 . exact key g.dis h h'
 . have:=g.rng _ h;have:=g.rng _ h';simp only at *;omega
 . have:=g.rng _ h;have:=g.rng _ h';simp only at *;omega
 . exact key g.dis h h'
theorem GW.adj (g:GW n ts)(h:Adj ts x y l):0<=x/\x<n/\0<=y/\y<n/\x≠y/\1<=l/\l<=99:=by
 rcases h with h | h <;> (have:=g.rng _ h;simp only at *;omega)
noncomputable def fd (p:Int):List T3->List (List Int)
 | []=>[]
 | t::r=>(if t.1=p then [[t.2.1,t.2.2]] else [])++(if t.2.1=p then [[t.1,t.2.2]] else [])++fd p r
theorem zF8 (p:Int):∀a b:List T3,fd p (a++b)=fd p a++fd p b
 | [],b=>rfl
 | t::r,b=>by show _++_++fd p (r++b)=_;rw[zF8 p r b];simp[fd,List.append_assoc]
theorem zEw {p:Int}{k:List Int}:∀{ts:List T3},k∈fd p ts↔∃y l,k=[y,l]/\Adj ts p y l
 | []=>by simp[fd,Adj]
 | (a,b,c)::r=>by
  have ih:=zEw (p:=p) (k:=k) (ts:=r)
  show k∈_++_++fd p r↔_
  rw[zm,zm,ih]
  simp only
  constructor
  . rintro ((h | h) | ⟨y,l,e,h⟩)
    . split at h
      . rename_i e;simp at h;subst e;exact⟨b,c,h,.inl zZ⟩
      . simp at h
    . split at h
      . rename_i e;simp at h;subst e;exact⟨a,c,h,.inr zZ⟩
      . simp at h
    . exact⟨y,l,e,h.elim (fun z=>.inl (zc _ z)) fun z=>.inr (zc _ z)⟩
  . rintro ⟨y,l,e,h⟩
    rcases h with h | h
    . rcases zV.mp h with q | q
      . injection q with q1 q2;injection q2 with q2 q3;subst q1 q2 q3
        exact .inl (.inl (by simp[e]))
      . exact .inr ⟨y,l,e,.inl q⟩
    . rcases zV.mp h with q | q
      . injection q with q1 q2;injection q2 with q2 q3;subst q1 q2 q3
        exact .inl (.inr (by simp[e]))
      . exact .inr ⟨y,l,e,.inr q⟩
theorem zHL {n:Int}(p:Int):∀{ts:List T3},(∀t∈ts,t.1<t.2.1)->(fd p ts).length<=ts.length
 | [],_=>zI _
 | t::r,h=>by
  have ih:=zHL (n:=n) p (ts:=r) fun t ht=>h t (zc _ ht)
  have h0:=h t zZ
  show (_++_++fd p r).length<=_
  rw[zO,zO,zn]
  have:(if t.1=p then [[t.2.1,t.2.2]] else ([]:List (List Int))).length+(if t.2.1=p then [[t.1,t.2.2]] else ([]:List (List Int))).length<=1:=by
   split <;> split <;> simp <;> omega
  omega
noncomputable def hd (k:List Int):Int:=k.getD 0 0
theorem zKW (g:GW n ts)(p:Int):((fd p ts).map hd).Nodup:=by
 have key:∀(ts:List T3),(∀t∈ts,t.1<t.2.1)->ts.Pairwise (fun s t=>¬ (s.1=t.1/\s.2.1=t.2.1))->((fd p ts).map hd).Nodup:=by
  intro ts
  induction ts with
  | nil=>intro _ _;exact List.nodup_nil
  | cons t r ih=>
   intro hlt hp
   obtain⟨q,hr⟩:=zBp.mp hp
   have h0:=hlt t zZ
   have hr':∀t∈r,t.1<t.2.1:=fun t ht=>hlt t (zc _ ht)
   have ih':=ih hr' hr
   have no:∀y c,(∀l,Adj r p y l->False)->([y,c]:List Int)=[y,c]->¬ y∈(fd p r).map hd:=by
    intro y c hn _ hm
    obtain⟨k,hk,e⟩:=zAM.mp hm
    obtain⟨y',l,ek,ha⟩:=zEw.mp hk
    subst ek
    have:y'=y:=e
    subst this
    exact hn l ha
   show ((_++_++fd p r).map hd).Nodup
   by_cases h1:t.1=p
   . have h2:¬ t.2.1=p:=by omega
     rw[if_pos h1,if_neg h2]
     show (t.2.1::(fd p r).map hd).Nodup
     refine zAk.mpr ⟨no _ t.2.2 (fun l ha=>?_) rfl,ih'⟩
     rcases ha with ha | ha
     . exact q _ ha ⟨h1,rfl⟩
     . have:=hr' _ ha;simp only at this;omega
   . by_cases h2:t.2.1=p
     . rw[if_neg h1,if_pos h2]
       show (t.1::(fd p r).map hd).Nodup
       refine zAk.mpr ⟨no _ t.2.2 (fun l ha=>?_) rfl,ih'⟩
       rcases ha with ha | ha
       . have:=hr' _ ha;simp only at this;omega
       . exact q _ ha ⟨rfl,h2⟩
     . rw[if_neg h1,if_neg h2]
       exact ih'
 exact key ts (fun t ht=>(g.rng t ht).2.1) g.dis
end WM
namespace WM
inductive Way (ts:List T3):Int->Int->Int->Prop where
 | nil (x:Int):Way ts x x 0
 | cons {x z y l d:Int}:Adj ts x z l->Way ts z y d->Way ts x y (l+d)
variable {n x y d:Int}{ts:List T3}
theorem Way.nn (g:GW n ts)(h:Way ts x y d):0<=d:=by
 induction h with
 | nil=>exact Int.le_refl _
 | cons ha _ ih=>have:=g.adj ha;omega
variable {l:Int}
theorem Way.one (h:Adj ts x y l):Way ts x y l:=by
 have:=Way.cons h (.nil y)
 rwa [Int.add_zero] at this
theorem Way.trans {z e:Int}(h:Way ts x y d)(h':Way ts y z e):Way ts x z (d+e):=by
 induction h with
 | nil=>rw[zAn];exact h'
 | cons ha _ ih=>rw[Int.add_assoc];exact .cons ha (ih h')
theorem Way.symm {ts:List T3}{x y d:Int}(h:Way ts x y d):Way ts y x d:=by
 induction h with
 | nil=>exact .nil _
 | cons ha _ ih=>have:=ih.trans (.one ha.symm);rwa [Int.add_comm] at this
theorem Way.snoc {z:Int}(h:Way ts x y d)(ha:Adj ts y z l):Way ts x z (d+l):=h.trans (.one ha)
noncomputable def IsD (ts:List T3)(x y d:Int):Prop:=Way ts x y d/\∀e,Way ts x y e->d<=e
noncomputable def Len (ts:List T3)(x y:Int):Option Int->Prop
 | some d=>IsD ts x y d
 | none=>∀d,¬ Way ts x y d
theorem IsD.uniq {e:Int}(h:IsD ts x y d)(h':IsD ts x y e):d=e:=Int.le_antisymm (h.2 _ h'.1) (h'.2 _ h.1)
theorem Len.uniq {ts:List T3}{x y:Int}{o o':Option Int}(h:Len ts x y o)(h':Len ts x y o'):o=o':=by
 cases o with
 | none=>
  cases o' with
  | none=>rfl
  | some e=>exact absurd h'.1 (h e)
 | some d=>
  cases o' with
  | none=>exact absurd h.1 (h' d)
  | some e=>exact congrArg some (IsD.uniq h h')
theorem IsD.symm (h:IsD ts x y d):IsD ts y x d:=⟨h.1.symm,fun e he=>h.2 e he.symm⟩
theorem Len.symm {ts:List T3}{x y:Int}{o:Option Int}(h:Len ts x y o):Len ts y x o:=by
 cases o with
 | none=>exact fun d hd=>h d hd.symm
 | some d=>exact IsD.symm h
theorem zDr (g:GW n ts)(x:Int):IsD ts x x 0:=⟨.nil x,fun _ h=>h.nn g⟩
structure Dj (ts:List T3)(s:Int)(kn wt:Int->Option Int):Prop where
 kd:∀p d,kn p=some d->IsD ts s p d
 wk:∀p d,wt p=some d->kn p=none/\Way ts s p d
 ord:∀p d q e,kn p=some d->wt q=some e->d<=e
 nb:∀p d q l,kn p=some d->Adj ts p q l->(∃e,kn q=some e)\/∃e,wt q=some e/\e<=d+l
 st:(∃d,kn s=some d)\/wt s=some 0
variable {s:Int}{kn wt:Int->Option Int}
theorem Dj.front (g:GW n ts)(h:Dj ts s kn wt)(w:Way ts s y d):(∃e,kn y=some e)\/∃q e,wt q=some e/\e<=d:=by
 have key:∀{x y d:Int},Way ts x y d->∀dx,kn x=some dx->(∃e,kn y=some e)\/∃q e,wt q=some e/\e<=dx+d:=by
  intro x y d w
  induction w with
  | nil=>intro dx hx;exact .inl ⟨dx,hx⟩
  | cons ha w' ih=>
   intro dx hx
   rename_i x z y l d
   have hl:=g.adj ha
   have hw:=w'.nn g
   rcases h.nb x dx z l hx ha with ⟨e,he⟩ | ⟨e,he,hle⟩
   . have hez:e<=dx+l:=(h.kd z e he).2 _ ((h.kd x dx hx).1.snoc ha)
     rcases ih e he with q | ⟨q,e',hq,hle⟩
     . exact .inl q
     . exact .inr ⟨q,e',hq,by omega⟩
   . exact .inr ⟨z,e,he,by omega⟩
 rcases h.st with ⟨ds,hs⟩ | hs
 . have:ds=0:=IsD.uniq (h.kd s ds hs) (zDr g s)
   subst this
   rcases key w 0 hs with q | ⟨q,e,a,b⟩
   . exact .inl q
   . exact .inr ⟨q,e,a,by omega⟩
 . exact .inr ⟨s,0,hs,w.nn g⟩
variable {p:Int}
theorem Dj.pick (g:GW n ts)(h:Dj ts s kn wt)(hp:wt p=some d)(hm:∀q e,wt q=some e->d<=e):IsD ts s p d:=by
 obtain⟨hk,hw⟩:=h.wk p d hp
 refine⟨hw,fun e he=>?_⟩
 rcases h.front g he with ⟨e',q⟩ | ⟨q,e',hq,hle⟩
 . rw[hk] at q;cases q
 . exact Int.le_trans (hm q e' hq) hle
theorem Dj.done (g:GW n ts)(h:Dj ts s kn wt)(hw:∀q,wt q=none)(y:Int):Len ts s y (kn y):=by
 cases e:kn y with
 | some d=>exact h.kd y d e
 | none=>
  intro d w
  rcases h.front g w with ⟨e',q⟩ | ⟨q,e',hq,_⟩
  . rw[e] at q;cases q
  . rw[hw] at hq;cases hq
structure Dm (ts:List T3)(s p d:Int)(kn wt:Int->Option Int)(seen:Int->Prop):Prop where
 kd:∀q e,kn q=some e->IsD ts s q e
 wk:∀q e,wt q=some e->kn q=none/\Way ts s q e
 ord:∀q e r f,kn q=some e->wt r=some f->e<=f
 nb:∀q e r l,kn q=some e->Adj ts q r l->(q=p/\¬ seen r)\/(∃f,kn r=some f)\/∃f,wt r=some f/\f<=e+l
 st:∃e,kn s=some e
 pd:kn p=some d
 mx:∀q e,kn q=some e->e<=d
theorem Dj.enter (g:GW n ts)(h:Dj ts s kn wt)(hp:wt p=some d)(hm:∀q e,wt q=some e->d<=e) :
 Dm ts s p d (fun q=>if q=p then some d else kn q) (fun q=>if q=p then none else wt q) (fun _=>False):=by
 have hd:=h.pick g hp hm
 have hk:=(h.wk p d hp).1
 refine⟨fun q e hq=>?_,fun q e hq=>?_,fun q e r f hq hr=>?_,fun q e r l hq ha=>?_,?_,if_pos rfl,fun q e hq=>?_⟩
 . by_cases hqp:q=p
   . rw[if_pos hqp] at hq;cases hq;rw[hqp];exact hd
   . rw[if_neg hqp] at hq;exact h.kd q e hq
 . by_cases hqp:q=p
   . rw[if_pos hqp] at hq;cases hq
   . rw[if_neg hqp] at hq ⊢;exact h.wk q e hq
 . by_cases hrp:r=p
   . rw[if_pos hrp] at hr;cases hr
   . rw[if_neg hrp] at hr
     by_cases hqp:q=p
     . rw[if_pos hqp] at hq;cases hq;exact hm r f hr
     . rw[if_neg hqp] at hq;exact h.ord q e r f hq hr
 . by_cases hqp:q=p
   . exact .inl ⟨hqp,fun z=>z⟩
   . rw[if_neg hqp] at hq
     by_cases hrp:r=p
     . exact .inr (.inl ⟨d,if_pos hrp⟩)
     . rcases h.nb q e r l hq ha with ⟨f,hf⟩ | ⟨f,hf,hle⟩
       . exact .inr (.inl ⟨f,by rw[if_neg hrp];exact hf⟩)
       . exact .inr (.inr ⟨f,by rw[if_neg hrp];exact hf,hle⟩)
 . by_cases hsp:s=p
   . exact⟨d,if_pos hsp⟩
   . rcases h.st with ⟨e,he⟩ | he
     . exact⟨e,by rw[if_neg hsp];exact he⟩
     . -- s waits with 0: then d is 0 too,and p is come to by a way of 0
       have h0:=hm s 0 he
       have:=hd.1.nn g
       have hd0:d=0:=by omega
       subst hd0
       exfalso
       have:∀{x y d:Int},Way ts x y d->d=0->x=y:=by
        intro x y d w
        cases w with
        | nil=>intro _;rfl
        | cons ha w'=>intro e;have:=g.adj ha;have:=w'.nn g;omega
       exact hsp (this hd.1 rfl)
 . by_cases hqp:q=p
   . rw[if_pos hqp] at hq;cases hq;exact Int.le_refl _
   . rw[if_neg hqp] at hq;exact h.ord q e p d hq hp
variable {seen:Int->Prop}
theorem Dm.skip (h:Dm ts s p d kn wt seen){r:Int}(hr:∃f,kn r=some f):Dm ts s p d kn wt (fun x=>seen x\/x=r):=
 ⟨h.kd,h.wk,h.ord,fun q e x l hq ha=>by
  rcases h.nb q e x l hq ha with ⟨a,b⟩ | c
  . by_cases hx:x=r
    . subst hx;exact .inr (.inl hr)
    . exact .inl ⟨a,fun z=>z.elim b hx⟩
  . exact .inr c,h.st,h.pd,h.mx⟩
theorem Dm.wait (g:GW n ts)(h:Dm ts s p d kn wt seen){r:Int}(ha:Adj ts p r l)(hr:kn r=none){f:Int}
 (hf:(wt r=none/\f=d+l)\/∃e,wt r=some e/\f=min (d+l) e):Dm ts s p d kn (fun x=>if x=r then some f else wt x) (fun x=>seen x\/x=r):=by
 have hl:=g.adj ha
 have hway:Way ts s r (d+l):=(h.kd p d h.pd).1.snoc ha
 have hf1:f<=d+l:=by
  rcases hf with ⟨_,e⟩ | ⟨e,_,e'⟩
  . omega
  . omega
 have hf2:Way ts s r f:=by
  rcases hf with ⟨_,rfl⟩ | ⟨e,he,rfl⟩
  . exact hway
  . by_cases hle:d+l<=e
    . rw[Int.min_eq_left hle];exact hway
    . rw[Int.min_eq_right (by omega)];exact (h.wk r e he).2
 have hf3:d<=f:=by
  rcases hf with ⟨_,rfl⟩ | ⟨e,he,rfl⟩
  . omega
  . have:=h.ord p d r e h.pd he;omega
 refine⟨h.kd,fun q e hq=>?_,fun q e x y hq hx=>?_,fun q e x k hq hax=>?_,h.st,h.pd,h.mx⟩
 . by_cases hqr:q=r
   . rw[if_pos hqr] at hq;cases hq;rw[hqr];exact⟨hr,hf2⟩
   . rw[if_neg hqr] at hq;exact h.wk q e hq
 . by_cases hxr:x=r
   . rw[if_pos hxr] at hx;cases hx;have:=h.mx q e hq;omega
   . rw[if_neg hxr] at hx;exact h.ord q e x y hq hx
 . by_cases hxr:x=r
   . subst hxr
     refine .inr (.inr ⟨f,if_pos rfl,?_⟩)
     rcases h.nb q e x k hq hax with ⟨a,_⟩ | ⟨y,hy⟩ | ⟨y,hy,hle⟩
     . subst a
       rw[h.pd] at hq;cases hq
       rw[g.uniq hax ha];exact hf1
     . rw[hr] at hy;cases hy
     . rcases hf with ⟨e1,_⟩ | ⟨e1,he1,e2⟩
       . rw[e1] at hy;cases hy
       . rw[he1] at hy;cases hy;omega
   . rcases h.nb q e x k hq hax with ⟨a,b⟩ | c | ⟨y,hy,hle⟩
     . exact .inl ⟨a,fun z=>z.elim b hxr⟩
     . exact .inr (.inl c)
     . exact .inr (.inr ⟨y,by rw[if_neg hxr];exact hy,hle⟩)
theorem Dm.leave (h:Dm ts s p d kn wt seen)(hs:∀r l,Adj ts p r l->seen r):Dj ts s kn wt:=
 ⟨h.kd,h.wk,h.ord,fun q e r l hq ha=>by
  rcases h.nb q e r l hq ha with ⟨a,b⟩ | c
  . subst a;exact absurd (hs r l ha) b
  . exact c,.inl h.st⟩
inductive zE5 (ts:List T3)(k:Int):Int->Int->Int->Prop where
 | nil (x:Int):zE5 ts k x x 0
 | tie {x y l:Int}:Adj ts x y l->zE5 ts k x y l
 | cons {x z y l d:Int}:Adj ts x z l->z<k->zE5 ts k z y d->zE5 ts k x y (l+d)
theorem zE5.way {k:Int}(h:zE5 ts k x y d):Way ts x y d:=by
 induction h with
 | nil=>exact .nil _
 | tie ha=>exact .one ha
 | cons ha _ _ ih=>exact .cons ha ih
theorem Way.toK (g:GW n ts)(h:Way ts x y d):zE5 ts n x y d:=by
 induction h with
 | nil=>exact .nil _
 | cons ha _ ih=>exact .cons ha (g.adj ha).2.2.2.1 ih
theorem zE5.split (g:GW n ts){k:Int}(h:zE5 ts (k+1) x y d):zE5 ts k x y d\/∃d1 d2,zE5 ts k x k d1/\zE5 ts k k y d2/\d1+d2<=d:=by
 induction h with
 | nil=>exact .inl (.nil _)
 | tie ha=>exact .inl (.tie ha)
 | cons ha hz w ih=>
  rename_i x z y l d
  by_cases hk:z<k
  . rcases ih with q | ⟨d1,d2,a,b,c⟩
    . exact .inl (.cons ha hk q)
    . exact .inr ⟨l+d1,d2,.cons ha hk a,b,by omega⟩
  . have e:z=k:=by omega
    subst e
    rcases ih with q | ⟨d1,d2,a,b,c⟩
    . exact .inr ⟨l,d,.tie ha,q,Int.le_refl _⟩
    . have:=a.way.nn g
      exact .inr ⟨l,d2,.tie ha,b,by omega⟩
theorem zE5.zero (g:GW n ts)(h:zE5 ts 0 x y d):(x=y/\d=0)\/Adj ts x y d:=by
 cases h with
 | nil=>exact .inl ⟨rfl,rfl⟩
 | tie ha=>exact .inr ha
 | cons ha hz _=>have:=g.adj ha;omega
structure Fw (ts:List T3)(n:Int)(F:Int->Int->Option Int):Prop where
 snd:∀x y d,0<=x->x<n->0<=y->y<n->F x y=some d->Way ts x y d
noncomputable def Cov (ts:List T3)(n k:Int)(F:Int->Int->Option Int):Prop:=∀x y d,0<=x->x<n->0<=y->y<n->zE5 ts k x y d->∃e,F x y=some e/\e<=d
theorem Fw.len (g:GW n ts){F:Int->Int->Option Int}(h:Fw ts n F)(c:Cov ts n n F)(hx:0<=x)(hx':x<n)(hy:0<=y)(hy':y<n):Len ts x y (F x y):=by
 cases e:F x y with
 | some d=>
  refine⟨h.snd x y d hx hx' hy hy' e,fun e' he=>?_⟩
  obtain⟨f,hf,hle⟩:=c x y e' hx hx' hy hy' (he.toK g)
  rw[e] at hf;cases hf;exact hle
 | none=>
  intro d hd
  obtain⟨f,hf,_⟩:=c x y d hx hx' hy hy' (hd.toK g)
  rw[e] at hf;cases hf
end WM
namespace WM
noncomputable def fnl (kn:List (Option Int))(p:Int):Option Int:=if 0<=p then kn.getD p.toNat none else none
noncomputable def cnt (kn:List (Option Int)):Nat:=(kn.filter Option.isSome).length
theorem zJL (kn:List (Option Int)):cnt kn<=kn.length:=zo _ _
theorem zI6 {kn:List (Option Int)}{p:Int}{o:Option Int}(h0:0<=p)(h1:p.toNat<kn.length)(q:Int):fnl (kn.set p.toNat o) q=if q=p then o else fnl kn q:=by
 unfold fnl
 by_cases hq:0<=q
 . rw[if_pos hq,if_pos hq,zF,zF,List.getElem?_set]
   by_cases e:q=p
   . subst e;simp[h1]
   . have:¬ p.toNat=q.toNat:=by omega
     rw[if_neg this,if_neg e]
 . rw[if_neg hq,if_neg (by omega),if_neg hq]
theorem zGt:∀{kn:List (Option Int)}{j:Nat}{d:Int},kn[j]? = some none->cnt (kn.set j (some d))=cnt kn+1
 | [],_,_,h=>by simp at h
 | o::r,0,d,h=>by
  have:o=none:=by simpa using h
  subst this
  simp[cnt,List.set]
 | o::r,j+1,d,h=>by
  have ih:=zGt (kn:=r) (j:=j) (d:=d) (by simpa using h)
  unfold cnt at ih ⊢
  rw[List.set_cons_succ]
  cases o with
  | none=>rw[List.filter_cons_of_neg (by simp),List.filter_cons_of_neg (by simp)];exact ih
  | some x=>rw[List.filter_cons_of_pos (by simp),List.filter_cons_of_pos (by simp),zn,zn,ih]
theorem zMp (n:Nat):cnt (List.replicate n none)=0:=by
 unfold cnt
 rw[List.filter_replicate]
 simp
theorem zEN (n:Nat)(q:Int):fnl (List.replicate n none) q=none:=by
 unfold fnl
 split
 . rw[zF,zBX]
   split <;> rfl
 . rfl
structure Dl (ts:List T3)(n s:Int)(kn:List (Option Int))(wt:Int->Option Int):Prop where
 dj:Dj ts s (fnl kn) wt
 ln:kn.length=n.toNat
 bk:∀p d,fnl kn p=some d->d<=99*cnt kn
 bw:∀p e,wt p=some e->e<=99*cnt kn/\0<=p/\p<n
structure Dn (ts:List T3)(n s p d:Int)(kn:List (Option Int))(wt:Int->Option Int)(seen:Int->Prop):Prop where
 dm:Dm ts s p d (fnl kn) wt seen
 ln:kn.length=n.toNat
 bk:∀q e,fnl kn q=some e->e<=99*cnt kn
 bd:d+99<=99*cnt kn
 bw:∀q e,wt q=some e->e<=99*cnt kn/\0<=q/\q<n
theorem Dl.start {n:Int}{ts:List T3}(g:GW n ts){s:Int}(h0:0<=s)(h1:s<n):Dl ts n s (List.replicate n.toNat none) (fun q=>if q=s then some 0 else none):=by
 refine⟨⟨fun p d h=>?_,fun p d h=>?_,fun p d q e h=>?_,fun p d q l h=>?_,.inr (if_pos rfl)⟩,zAY,fun p d h=>?_,fun p e h=>?_⟩
 . rw[zEN] at h;cases h
 . by_cases e:p=s
   . rw[if_pos e] at h;cases h;rw[e];exact⟨zEN _ _,.nil s⟩
   . rw[if_neg e] at h;cases h
 . rw[zEN] at h;cases h
 . rw[zEN] at h;cases h
 . rw[zEN] at h;cases h
 . by_cases e:p=s
   . rw[if_pos e] at h;cases h;rw[e,zMp];exact⟨by simp,h0,h1⟩
   . rw[if_neg e] at h;cases h
theorem Dl.enter {n:Int}{ts:List T3}(g:GW n ts){s:Int}{kn:List (Option Int)}{wt:Int->Option Int}(h:Dl ts n s kn wt){p d:Int}(hp:wt p=some d)(hm:∀q e,wt q=some e->d<=e) :
 kn[p.toNat]? = some none/\0<=p/\p<n/\cnt (kn.set p.toNat (some d))=cnt kn+1/\Dn ts n s p d (kn.set p.toNat (some d)) (fun q=>if q=p then none else wt q) (fun _=>False):=by
 obtain⟨hb,h0,h1⟩:=h.bw p d hp
 have hl:=h.ln
 have hlt:p.toNat<kn.length:=by omega
 have hk:=(h.dj.wk p d hp).1
 have hn:kn[p.toNat]? = some none:=by
  unfold fnl at hk
  rw[if_pos h0,zF,zD hlt] at hk
  rw[zD hlt]
  exact congrArg some hk
 have hc:=zGt (d:=d) hn
 have ef:fnl (kn.set p.toNat (some d))=fun q=>if q=p then some d else fnl kn q:=funext fun q=>zI6 h0 hlt q
 refine⟨hn,h0,h1,hc,⟨?_,by rw[List.length_set];exact hl,fun q e hq=>?_,by rw[hc];omega,fun q e hq=>?_⟩⟩
 . rw[ef];exact h.dj.enter g hp hm
 . rw[ef] at hq
   simp only at hq
   rw[hc]
   by_cases e':q=p
   . rw[if_pos e'] at hq;cases hq;omega
   . rw[if_neg e'] at hq;have:=h.bk q e hq;omega
 . by_cases e':q=p
   . rw[if_pos e'] at hq;cases hq
   . rw[if_neg e'] at hq;have:=h.bw q e hq;rw[hc];exact⟨by omega,this.2⟩
theorem Dn.skip {n:Int}{ts:List T3}{s p d:Int}{kn:List (Option Int)}{wt:Int->Option Int}{seen:Int->Prop}(h:Dn ts n s p d kn wt seen){r f:Int}(hr:fnl kn r=some f):Dn ts n s p d kn wt (fun x=>seen x\/x=r):=
 ⟨h.dm.skip ⟨f,hr⟩,h.ln,h.bk,h.bd,h.bw⟩
theorem Dn.wait {n:Int}{ts:List T3}(g:GW n ts){s p d:Int}{kn:List (Option Int)}{wt:Int->Option Int}{seen:Int->Prop}(h:Dn ts n s p d kn wt seen){r l:Int}(ha:Adj ts p r l)(hr:fnl kn r=none) :
 Dn ts n s p d kn (fun x=>if x=r then some (if (wt r).getD (d+l)<d+l then (wt r).getD (d+l) else d+l) else wt x) (fun x=>seen x\/x=r):=by
 have hl:=g.adj ha
 have hf:(wt r=none/\(if (wt r).getD (d+l)<d+l then (wt r).getD (d+l) else d+l)=d+l)\/∃e,wt r=some e/\(if (wt r).getD (d+l)<d+l then (wt r).getD (d+l) else d+l)=min (d+l) e:=by
  cases e:wt r with
  | none=>exact .inl ⟨rfl,by simp⟩
  | some x=>
   refine .inr ⟨x,rfl,?_⟩
   simp only[zBR]
   split <;> omega
 refine⟨h.dm.wait g ha hr hf,h.ln,h.bk,h.bd,fun q e hq=>?_⟩
 by_cases e':q=r
 . rw[if_pos e'] at hq
   have hd:=h.bd
   have e2:=zX hq
   refine⟨?_,by omega,by omega⟩
   split at e2 <;> omega
 . rw[if_neg e'] at hq;exact h.bw q e hq
theorem Dn.leave {n:Int}{ts:List T3}{s p d:Int}{kn:List (Option Int)}{wt:Int->Option Int}{seen:Int->Prop}(h:Dn ts n s p d kn wt seen)(hs:∀r l,Adj ts p r l->seen r):Dl ts n s kn wt:=
 ⟨h.dm.leave hs,h.ln,h.bk,h.bw⟩
structure zJf (ts:List T3)(n s:Int)(kn:List (Option Int)):Prop where
 ln:kn.length=n.toNat
 len:∀y,0<=y->y<n->Len ts s y (fnl kn y)
 bd:∀o∈kn,∀d,o=some d->0<=d/\d<=2376
theorem Dl.done {n:Int}{ts:List T3}(g:GW n ts){s:Int}{kn:List (Option Int)}{wt:Int->Option Int}(h:Dl ts n s kn wt)(hw:∀q,wt q=none):zJf ts n s kn:=by
 refine⟨h.ln,fun y _ _=>h.dj.done g hw y,fun o ho d e=>?_⟩
 obtain⟨j,hj,ej⟩:=zAL ho
 have hf:fnl kn (j:Int)=some d:=by
  unfold fnl
  rw[if_pos (by omega),zF,zAB,zD hj,ej,e];rfl
 have h1:=h.bk _ _ hf
 have h2:=(h.dj.kd _ _ hf).1.nn g
 have h3:=zJL kn
 have:=h.ln
 have:=g.n24
 omega
end WM
namespace WM
noncomputable def oadd:Option Int->Option Int->Option Int
 | some a,some b=>some (a+b)
 | _,_=>none
noncomputable def oles:Option Int->Option Int->Option Int
 | none,o=>o
 | some a,none=>some a
 | some a,some b=>some (if b<a then b else a)
variable {ts:List T3}{d:Int}
theorem zE5.mono {k k' x y:Int}(h:zE5 ts k x y d)(hk:k<=k'):zE5 ts k' x y d:=by
 induction h with
 | nil=>exact .nil _
 | tie ha=>exact .tie ha
 | cons ha hz _ ih=>exact .cons ha (by omega) ih
structure Fm (ts:List T3)(n k:Int)(F:Int->Int->Option Int)(done:Int->Int->Prop):Prop where
 fw:Fw ts n F
 cv:Cov ts n k F
 dn:∀x y d,0<=x->x<n->0<=y->y<n->done x y->zE5 ts (k+1) x y d->∃e,F x y=some e/\e<=d
variable {o p:Option Int}
theorem zMA (h:(∃e,o=some e/\e<=d)\/∃e,p=some e/\e<=d):∃e,oles o p=some e/\e<=d:=by
 rcases h with ⟨e,rfl,h⟩ | ⟨e,rfl,h⟩
 . cases p with
   | none=>exact⟨e,rfl,h⟩
   | some b=>exact⟨_,rfl,by split <;> omega⟩
 . cases o with
   | none=>exact⟨e,rfl,h⟩
   | some a=>exact⟨_,rfl,by split <;> omega⟩
theorem zL9 (h:oles o p=some d):o=some d\/p=some d:=by
 cases o with
 | none=>exact .inr h
 | some a=>
  cases p with
  | none=>exact .inl h
  | some b=>
   have e:(if b<a then b else a)=d:=zX h
   split at e
   . exact .inr (by rw[e])
   . exact .inl (by rw[e])
theorem zIj (h:oadd o p=some d):∃a b,o=some a/\p=some b/\a+b=d:=by
 cases o with
 | none=>cases h
 | some a=>
  cases p with
  | none=>cases h
  | some b=>exact⟨a,b,rfl,rfl,zX h⟩
variable {n a b:Int}{F:Int->Int->Option Int}
theorem Fm.step (g:GW n ts){k:Int}{done:Int->Int->Prop}(h:Fm ts n k F done)(ha:0<=a)(ha':a<n)(hb:0<=b)(hb':b<n)(hk:0<=k)(hk':k<n) :
 Fm ts n k (fun x y=>if x=a/\y=b then oles (F a b) (oadd (F a k) (F k b)) else F x y) (fun x y=>done x y\/(x=a/\y=b)):=by
 have snd:∀d,oles (F a b) (oadd (F a k) (F k b))=some d->Way ts a b d:=fun d hd=>by
  rcases zL9 hd with e | e
  . exact h.fw.snd a b d ha ha' hb hb' e
  . obtain⟨d1,d2,e1,e2,rfl⟩:=zIj e
    exact (h.fw.snd a k d1 ha ha' hk hk' e1).trans (h.fw.snd k b d2 hk hk' hb hb' e2)
 have cov1:∀d,zE5 ts (k+1) a b d->∃e,oles (F a b) (oadd (F a k) (F k b))=some e/\e<=d:=fun d w=>by
  refine zMA ?_
  rcases w.split g with q | ⟨d1,d2,q1,q2,hle⟩
  . exact .inl (h.cv a b d ha ha' hb hb' q)
  . obtain⟨e1,f1,l1⟩:=h.cv a k d1 ha ha' hk hk' q1
    obtain⟨e2,f2,l2⟩:=h.cv k b d2 hk hk' hb hb' q2
    exact .inr ⟨e1+e2,by rw[f1,f2];rfl,by omega⟩
 refine⟨⟨fun x y d hx hx' hy hy' e=>?_⟩,fun x y d hx hx' hy hy' w=>?_,fun x y d hx hx' hy hy' hd w=>?_⟩
 . by_cases c:x=a/\y=b
   . rw[if_pos c] at e;rw[c.1,c.2];exact snd d e
   . rw[if_neg c] at e;exact h.fw.snd x y d hx hx' hy hy' e
 . by_cases c:x=a/\y=b
   . rw[if_pos c];rw[c.1,c.2] at w;exact cov1 d (w.mono (by omega))
   . rw[if_neg c];exact h.cv x y d hx hx' hy hy' w
 . by_cases c:x=a/\y=b
   . rw[if_pos c];rw[c.1,c.2] at w;exact cov1 d w
   . rw[if_neg c];exact h.dn x y d hx hx' hy hy' (hd.resolve_right c) w
theorem Fm.enter {k:Int}(h:Fw ts n F)(c:Cov ts n k F):Fm ts n k F (fun _ _=>False):=⟨h,c,fun _ _ _ _ _ _ _ z=>z.elim⟩
theorem Fm.leave {k:Int}{done:Int->Int->Prop}(h:Fm ts n k F done)(hd:∀x y,0<=x->x<n->0<=y->y<n->done x y):Fw ts n F/\Cov ts n (k+1) F:=
 ⟨h.fw,fun x y d hx hx' hy hy' w=>h.dn x y d hx hx' hy hy' (hd x y hx hx' hy hy') w⟩
noncomputable def Ft (ts:List T3)(n:Int)(F:Int->Int->Option Int):Prop:=∀x y d,0<=x->x<n->0<=y->y<n->(F x y=some d↔(x=y/\d=0)\/Adj ts x y d)
theorem Ft.fw (g:GW n ts)(h:Ft ts n F):Fw ts n F/\Cov ts n 0 F:=by
 refine⟨⟨fun x y d hx hx' hy hy' e=>?_⟩,fun x y d hx hx' hy hy' w=>?_⟩
 . rcases (h x y d hx hx' hy hy').mp e with ⟨rfl,rfl⟩ | ha
   . exact .nil x
   . exact .one ha
 . refine⟨d,(h x y d hx hx' hy hy').mpr ?_,Int.le_refl _⟩
   rcases w.zero g with q | q
   . exact .inl q
   . exact .inr q
theorem Ft.nil (n:Int)(h:∀x y,0<=x->x<n->0<=y->y<n->F x y=if x=y then some 0 else none):Ft [] n F:=fun x y d hx hx' hy hy'=>by
 rw[h x y hx hx' hy hy']
 constructor
 . intro e
   split at e
   . rename_i c;exact .inl ⟨c,(zX e).symm⟩
   . cases e
 . rintro (⟨rfl,rfl⟩ | ha)
   . rw[if_pos rfl]
   . rcases ha with z | z <;> simp at z
theorem Ft.put {pre post:List T3}{l:Int}(g:GW n (pre++(a,b,l)::post))(h:Ft pre n F) :
 Ft (pre++[(a,b,l)]) n (fun x y=>if x=b/\y=a then some l else if x=a/\y=b then some l else F x y):=fun x y d hx hx' hy hy'=>by
 have hr:=g.rng (a,b,l) (by simp)
 simp only at hr
 have sub:∀{x y d:Int},Adj pre x y d->Adj (pre++(a,b,l)::post) x y d:=fun z=>z.elim (fun z=>.inl (zAe _ z)) fun z=>.inr (zAe _ z)
 have own:Adj (pre++(a,b,l)::post) a b l:=.inl (by simp)
 have hadj:Adj (pre++[(a,b,l)]) x y d↔Adj pre x y d\/(x=a/\y=b/\d=l)\/(x=b/\y=a/\d=l):=by
  unfold Adj
  simp only[zm,zf,Prod.mk.injEq]
  constructor
  . rintro ((z | z) | (z | z))
    . exact .inl (.inl z)
    . exact .inr (.inl z)
    . exact .inl (.inr z)
    . exact .inr (.inr ⟨z.2.1,z.1,z.2.2⟩)
  . rintro ((z | z) | z | z)
    . exact .inl (.inl z)
    . exact .inr (.inl z)
    . exact .inl (.inr z)
    . exact .inr (.inr ⟨z.2.1,z.1,z.2.2⟩)
 rw[hadj]
 show (if x=b/\y=a then some l else if x=a/\y=b then some l else F x y)=some d↔_
 by_cases c1:x=b/\y=a
 . rw[if_pos c1]
   constructor
   . intro e;exact .inr (.inr (.inr ⟨c1.1,c1.2,(zX e).symm⟩))
   . rintro (⟨e,_⟩ | z | ⟨e1,e2,e3⟩ | ⟨_,_,e3⟩)
     . omega
     . have z':=sub z;rw[c1.1,c1.2] at z';rw[g.uniq z' own.symm]
     . rw[e3]
     . rw[e3]
 . rw[if_neg c1]
   by_cases c2:x=a/\y=b
   . rw[if_pos c2]
     constructor
     . intro e;exact .inr (.inr (.inl ⟨c2.1,c2.2,(zX e).symm⟩))
     . rintro (⟨e,_⟩ | z | ⟨e1,e2,e3⟩ | ⟨_,_,e3⟩)
       . omega
       . have z':=sub z;rw[c2.1,c2.2] at z';rw[g.uniq z' own]
       . rw[e3]
       . rw[e3]
   . rw[if_neg c2,h x y d hx hx' hy hy']
     constructor
     . rintro (z | z)
       . exact .inl z
       . exact .inr (.inl z)
     . rintro (z | z | z | z)
       . exact .inl z
       . exact .inr z
       . exact absurd ⟨z.1,z.2.1⟩ c2
       . exact absurd ⟨z.1,z.2.1⟩ c1
noncomputable def mat (M:lLO)(x y:Int):Option Int:=if 0<=x then fnl (M.getD x.toNat []) y else none
noncomputable def zHp (M:lLO)(a b:Int)(v:Option Int):List (List (Option Int)):=M.set a.toNat ((M.getD a.toNat []).set b.toNat v)
structure Sqm (n:Int)(M:lLO):Prop where
 ln:M.length=n.toNat
 rw_:∀r∈M,r.length=n.toNat
theorem Sqm.row {M:lLO}(h:Sqm n M)(ha:0<=a)(ha':a<n):∃r,M[a.toNat]? = some r/\M.getD a.toNat []=r/\r.length=n.toNat:=by
 have hl:=h.ln
 have hlt:a.toNat<M.length:=by omega
 exact⟨M[a.toNat],zD hlt,by rw[zF,zD hlt];rfl,h.rw_ _ (List.getElem_mem hlt)⟩
theorem Sqm.set {M:lLO}(h:Sqm n M){v:Option Int}(ha:0<=a)(ha':a<n):Sqm n (zHp M a b v):=by
 obtain⟨r,h1,h2,h3⟩:=h.row ha ha'
 refine⟨by unfold zHp;rw[List.length_set];exact h.ln,fun q hq=>?_⟩
 unfold zHp at hq
 rcases List.mem_or_eq_of_mem_set hq with z | z
 . exact h.rw_ q z
 . rw[z,List.length_set,h2,h3]
theorem zGo {M:lLO}(h:Sqm n M){v:Option Int}(ha:0<=a)(ha':a<n)(hb:0<=b)(hb':b<n){x y:Int}(hx:0<=x)(hx':x<n) :
 mat (zHp M a b v) x y=if x=a/\y=b then v else mat M x y:=by
 obtain⟨r,h1,h2,h3⟩:=h.row ha ha'
 have hl:=h.ln
 unfold mat zHp
 rw[if_pos hx,if_pos hx,zF,List.getElem?_set]
 by_cases e:x=a
 . subst e
   rw[if_pos rfl,if_pos (by omega),zBR,h2,zI6 hb (by omega)]
   by_cases e2:y=b
   . rw[if_pos e2,if_pos ⟨rfl,e2⟩]
   . rw[if_neg e2,if_neg fun z=>e2 z.2]
 . rw[if_neg (by omega),if_neg fun z=>e z.1,<-zF]
theorem Fm.congr {k:Int}{G:Int->Int->Option Int}{done done':Int->Int->Prop}(h:Fm ts n k F done)(e:∀x y,0<=x->x<n->0<=y->y<n->G x y=F x y)(hd:∀x y,0<=x->x<n->0<=y->y<n->done' x y->done x y):Fm ts n k G done':=
 ⟨⟨fun x y d a b c d' z=>h.fw.snd x y d a b c d' (by rw[<-e x y a b c d'];exact z)⟩,fun x y d a b c d' w=>by rw[e x y a b c d'];exact h.cv x y d a b c d' w,fun x y d a b c d' z w=>by rw[e x y a b c d'];exact h.dn x y d a b c d' (hd x y a b c d' z) w⟩
theorem Ft.congr {G:Int->Int->Option Int}(h:Ft ts n F)(e:∀x y,0<=x->x<n->0<=y->y<n->G x y=F x y):Ft ts n G:=fun x y d a b c d'=>by rw[e x y a b c d'];exact h x y d a b c d'
noncomputable def Rows (ts:List T3)(n:Int)(M:lLO):Prop:=M.length=n.toNat/\∀x,0<=x->x<n->zJf ts n x (M.getD x.toNat [])
theorem zFZ (g:GW n ts)(x y:Int)(hx:0<=x)(hx':x<n)(d:Int)(h:IsD ts x y d):0<=d/\d<=2376:=by
 have ex:∀(m:Nat)(kn:List (Option Int))(wt:Int->Option Int),Dl ts n x kn wt->n.toNat-cnt kn<=m->(∃L:List Int,∀q e,wt q=some e->q∈L)->∃kn',zJf ts n x kn':=by
  intro m
  induction m with
  | zero=>
   intro kn wt D hm _
   refine⟨kn,D.done g fun q=>?_⟩
   cases e:wt q with
   | none=>rfl
   | some d=>
    have hk:=(D.dj.wk q d e).1
    obtain⟨_,h0,h1⟩:=D.bw q d e
    have hl:=D.ln
    have hlt:q.toNat<kn.length:=by omega
    have hn:kn[q.toNat]? = some none:=by
     unfold fnl at hk
     rw[if_pos h0,zF,zD hlt] at hk
     rw[zD hlt]
     exact congrArg some hk
    have h1:=zGt (d:=0) hn
    have h2:=zJL (kn.set q.toNat (some 0))
    rw[List.length_set] at h2
    omega
  | succ m ih=>
   intro kn wt D hm hL
   by_cases hw:∀q,wt q=none
   . exact⟨kn,D.done g hw⟩
   . -- pick the nearest
     obtain⟨L,hL⟩:=hL
     have pick:∀L:List Int,(∃q∈L,(wt q).isSome)->∃p d,wt p=some d/\∀q∈L,∀e,wt q=some e->d<=e:=by
      intro L
      induction L with
      | nil=>rintro ⟨q,hq,_⟩;simp at hq
      | cons z L ihL=>
       rintro ⟨q,hq,hs⟩
       by_cases hr:∃q∈L,(wt q).isSome
       . obtain⟨p,d,hp,hmin⟩:=ihL hr
         cases ez:wt z with
         | none=>
          refine⟨p,d,hp,fun q' hq' e he=>?_⟩
          rcases zV.mp hq' with rfl | hq'
          . rw[ez] at he;cases he
          . exact hmin q' hq' e he
         | some dz=>
          by_cases hz:dz<d
          . refine⟨z,dz,ez,fun q' hq' e he=>?_⟩
            rcases zV.mp hq' with rfl | hq'
            . rw[ez] at he;cases he;exact Int.le_refl _
            . have:=hmin q' hq' e he;omega
          . refine⟨p,d,hp,fun q' hq' e he=>?_⟩
            rcases zV.mp hq' with rfl | hq'
            . rw[ez] at he;cases he;omega
            . exact hmin q' hq' e he
       . rcases zV.mp hq with rfl | hq
         . obtain⟨d,hd⟩:=zBO.mp hs
           refine⟨q,d,hd,fun q' hq' e he=>?_⟩
           rcases zV.mp hq' with rfl | hq'
           . rw[hd] at he;cases he;exact Int.le_refl _
           . exact absurd ⟨q',hq',by rw[he];rfl⟩ hr
         . exact absurd ⟨q,hq,hs⟩ hr
     obtain⟨p,d,hp,hmin⟩:=pick L (by
      apply zAm
      intro hno
      refine hw fun q=>?_
      cases e:wt q with
      | none=>rfl
      | some d=>exact absurd ⟨q,hL q d e,by rw[e];rfl⟩ hno)
     obtain⟨hn,h0,h1,hc,N⟩:=D.enter g hp (fun q e he=>hmin q (hL q e he) e he)
     have all:∀(ns:List (Int×Int))(wt':Int->Option Int)(seen:Int->Prop),Dn ts n x p d (kn.set p.toNat (some d)) wt' seen->(∃L:List Int,∀q e,wt' q=some e->q∈L)->(∀r l,(r,l)∈ns->Adj ts p r l) ->
      ∃(wt'':Int->Option Int)(seen':Int->Prop),Dn ts n x p d (kn.set p.toNat (some d)) wt'' seen'/\(∃L:List Int,∀q e,wt'' q=some e->q∈L)/\(∀r,seen r->seen' r)/\∀r l,(r,l)∈ns->seen' r:=by
      intro ns
      induction ns with
      | nil=>intro wt' seen N hL _;exact⟨wt',seen,N,hL,fun _ z=>z,fun r l z=>by simp at z⟩
      | cons t ns ih'=>
       intro wt' seen N hL' ha
       obtain⟨r,l⟩:=t
       have har:=ha r l zZ
       have ha':∀r l,(r,l)∈ns->Adj ts p r l:=fun r l z=>ha r l (zc _ z)
       cases ek:fnl (kn.set p.toNat (some d)) r with
       | some f=>
        obtain⟨w2,s2,N2,L2,m2,a2⟩:=ih' wt' _ (N.skip ek) hL' ha'
        refine⟨w2,s2,N2,L2,fun q z=>m2 q (.inl z),fun q l' z=>?_⟩
        rcases zV.mp z with e | z
        . cases e;exact m2 _ (.inr rfl)
        . exact a2 q l' z
       | none=>
        obtain⟨L',hL'⟩:=hL'
        obtain⟨w2,s2,N2,L2,m2,a2⟩:=ih' _ _ (N.wait g har ek) ⟨r::L',fun q e he=>by
         by_cases e':q=r
         . rw[e'];exact zZ
         . rw[if_neg e'] at he;exact zc _ (hL' q e he)⟩ ha'
        refine⟨w2,s2,N2,L2,fun q z=>m2 q (.inl z),fun q l' z=>?_⟩
        rcases zV.mp z with e | z
        . cases e;exact m2 _ (.inr rfl)
        . exact a2 q l' z
     have nbr:∃ns:List (Int×Int),(∀r l,(r,l)∈ns->Adj ts p r l)/\∀r l,Adj ts p r l->(r,l)∈ns:=by
      refine⟨(ts.filterMap fun t=>if t.1=p then some (t.2.1,t.2.2) else none)++(ts.filterMap fun t=>if t.2.1=p then some (t.1,t.2.2) else none),fun r l z=>?_,fun r l z=>?_⟩
      . rcases zm.mp z with z | z
        . obtain⟨⟨a,b,c⟩,ht,e⟩:=zA4.mp z
          split at e
          . rename_i c1
            have c1':a=p:=c1
            have e':=zX e
            simp only[Prod.mk.injEq] at e'
            obtain⟨rfl,rfl⟩:=e'
            subst c1'
            exact .inl ht
          . cases e
        . obtain⟨⟨a,b,c⟩,ht,e⟩:=zA4.mp z
          split at e
          . rename_i c1
            have c1':b=p:=c1
            have e':=zX e
            simp only[Prod.mk.injEq] at e'
            obtain⟨rfl,rfl⟩:=e'
            subst c1'
            exact .inr ht
          . cases e
      . rcases z with z | z
        . exact zAe _ (zA4.mpr ⟨_,z,by simp⟩)
        . exact ze _ (zA4.mpr ⟨_,z,by simp⟩)
     obtain⟨ns,hns1,hns2⟩:=nbr
     obtain⟨w2,s2,N2,L2,_,a2⟩:=all ns _ _ N ⟨L,fun q e he=>by
      by_cases e':q=p
      . rw[if_pos e'] at he;cases he
      . rw[if_neg e'] at he;exact hL q e he⟩ hns1
     exact ih _ _ (N2.leave fun r l ha=>a2 r l (hns2 r l ha)) (by omega) L2
 obtain⟨kn,K⟩:=ex n.toNat _ _ (Dl.start g hx hx') (by omega) ⟨[x],fun q e he=>by
  by_cases e':q=x
  . simp[e']
  . rw[if_neg e'] at he;cases he⟩
 have hy:(0<=y/\y<n)\/y=x:=by
  have:∀{x y d:Int},Way ts x y d->x=y\/(0<=y/\y<n):=by
   intro x y d w
   induction w with
   | nil=>exact .inl rfl
   | cons ha _ ih=>
    rcases ih with rfl | q
    . have:=g.adj ha;exact .inr ⟨this.2.2.1,this.2.2.2.1⟩
    . exact .inr q
  rcases this h.1 with e | q
  . exact .inr e.symm
  . exact .inl q
 have hy':0<=y/\y<n:=hy.elim id fun e=>by omega
 have hl:=K.len y hy'.1 hy'.2
 have hlen:=K.ln
 have hlt:y.toNat<kn.length:=by omega
 have e1:fnl kn y=kn[y.toNat]:=by
  unfold fnl
  rw[if_pos hy'.1,zF,zD hlt];rfl
 have e2:=Len.uniq hl (show Len ts x y (some d) from h)
 exact K.bd _ (List.getElem_mem hlt) d (by rw[<-e1];exact e2)
theorem zLt (g:GW n ts){M:lLO}(h:Sqm n M)(f:Fw ts n (mat M))(c:Cov ts n n (mat M)):Rows ts n M:=by
 refine⟨h.ln,fun x hx hx'=>?_⟩
 obtain⟨r,h1,h2,h3⟩:=h.row hx hx'
 have e:∀y,mat M x y=fnl r y:=fun y=>by unfold mat;rw[if_pos hx,h2]
 rw[h2]
 refine⟨h3,fun y hy hy'=>by rw[<-e];exact f.len g c hx hx' hy hy',fun o ho d ed=>?_⟩
 obtain⟨j,hj,ej⟩:=zAL ho
 have hf:fnl r (j:Int)=some d:=by
  unfold fnl
  rw[if_pos (by omega),zF,zAB,zD hj,ej,ed];rfl
 have hl:=f.len g c hx hx' (y:=(j:Int)) (by omega) (by omega)
 rw[e,hf] at hl
 exact zFZ g x j hx hx' d hl
end WM
namespace WM
noncomputable def Btw (ts:List T3)(x y p:Int):Prop:=∃a b,IsD ts x p a/\IsD ts p y b/\IsD ts x y (a+b)
noncomputable def Nxt (ts:List T3)(x y p:Int):Prop:=∃l b,Adj ts x p l/\IsD ts p y b/\IsD ts x y (l+b)
variable {n x y:Int}{ts:List T3}
theorem Way.zero (g:GW n ts)(h:Way ts x y 0):x=y:=by
 have:∀{x y d:Int},Way ts x y d->d=0->x=y:=by
  intro x y d w
  cases w with
  | nil=>intro _;rfl
  | cons ha w'=>intro e;have:=g.adj ha;have:=w'.nn g;omega
 exact this h rfl
variable {d:Int}
theorem Way.in_ (g:GW n ts)(w:Way ts x y d)(hx:0<=x)(hx':x<n):0<=y/\y<n:=by
 induction w with
 | nil=>exact⟨hx,hx'⟩
 | cons ha _ ih=>have:=g.adj ha;exact ih this.2.2.1 this.2.2.2.1
theorem Btw.self (g:GW n ts)(h:IsD ts x y d):Btw ts x y x:=⟨0,d,zDr g x,h,by rw[zAn];exact h⟩
theorem zDq (g:GW n ts)(h:IsD ts x y d):d=0↔x=y:=by
 constructor
 . intro e;subst e;exact h.1.zero g
 . intro e;subst e;exact IsD.uniq h (zDr g x)
theorem Way.least (g:GW n ts)(h:Way ts x y d):∃e,IsD ts x y e:=by
 have:∀(m:Nat)(d:Int),Way ts x y d->d.toNat<=m->∃e,IsD ts x y e:=by
  intro m
  induction m with
  | zero=>
   intro d hd hm
   have:=hd.nn g
   have e:d=0:=by omega
   subst e
   exact⟨0,hd,fun f hf=>hf.nn g⟩
  | succ m ih=>
   intro d hd hm
   by_cases hl:∃f,Way ts x y f/\f<d
   . obtain⟨f,hf,hlt⟩:=hl
     have:=hf.nn g
     exact ih f hf (by omega)
   . refine⟨d,hd,fun f hf=>?_⟩
     apply zAm
     intro hn
     exact hl ⟨f,hf,by omega⟩
 exact this _ d h (zI _)
theorem Nxt.exists (g:GW n ts)(h:IsD ts x y d)(hne:x≠y):∃p,Nxt ts x y p:=by
 obtain⟨hw,hmin⟩:=h
 cases hw with
 | nil=>exact absurd rfl hne
 | cons ha w=>
  rename_i z l e
  obtain⟨f,hf⟩:=w.least g
  have h1:=hf.2 _ w
  have h2:=hmin _ (.cons ha hf.1)
  have:f=e:=by omega
  subst this
  exact⟨z,l,f,ha,hf,.cons ha hf.1,hmin⟩
variable {p:Int}
theorem Nxt.ne (g:GW n ts)(h:Nxt ts x y p):x≠y:=by
 obtain⟨l,b,ha,hb,hd⟩:=h
 intro e
 subst e
 have:=IsD.uniq hd (zDr g x)
 have:=g.adj ha
 have:=hb.1.nn g
 omega
theorem Nxt.btw (g:GW n ts){q:Int}(h:Btw ts x y p)(h':Nxt ts p y q):Btw ts x y q:=by
 obtain⟨a,b,h1,h2,h3⟩:=h
 obtain⟨l,c,ha,hc,hd⟩:=h'
 have e1:b=l+c:=IsD.uniq h2 hd
 refine⟨a+l,c,⟨h1.1.snoc ha,fun f hf=>?_⟩,hc,?_⟩
 . have:=h3.2 _ (hf.trans hc.1)
   omega
 . rw[e1,<-Int.add_assoc] at h3;exact h3
theorem Len.via {a:Int}{o:Option Int}(h1:IsD ts x p a)(h2:IsD ts x y d)(h3:Len ts p y o):∃b,o=some b/\d<=a+b:=by
 cases o with
 | none=>exact absurd (h1.1.symm.trans h2.1) (h3 _)
 | some b=>exact⟨b,rfl,h2.2 _ (h1.1.trans h3.1)⟩
end WM
namespace WM
end WM
namespace L2
open PySem PySem.Spec PyProof.Rows
noncomputable def intO:KeyOrd:=⟨Int,fun a b=>decide (a<b),fun a=>zu (by omega),fun a b c h1 h2=>zW (by have:=of_decide_eq_true h1;have:=of_decide_eq_true h2;omega),
 fun a b c h=>by
  have h':a<c:=of_decide_eq_true h
  by_cases hab:a<b
  . exact .inl (zW hab)
  . exact .inr (zW (by omega)),
 fun a b h1 h2=>by have:=of_decide_eq_false h1;have:=of_decide_eq_false h2;omega⟩
variable {s:Shared}
theorem zES {prog:Program}{w:World}{A:Around}{a:Addr}{vs:List Value}{ns:List Int}(hI:IntsAre vs ns)(h2:2<=vs.length) :
 SortT.Asks prog w A s a vs (O:=intO) (fun i=>ns.getD i 0) oneType':=by
 have hl:=hI.length
 have at_:∀i,i<vs.length->∃t,vs.getD i Value.none = .int (ns.getD i 0) t:=fun i hi=>by
  obtain⟨n,hn⟩:∃n,ns[i]? = some n:=⟨_,zD (by omega)⟩
  obtain⟨t,ht⟩:=hI.get i n hn
  exact⟨t,by rw[zF,zF,ht,hn];rfl⟩
 refine⟨fun h' Q E kh q=>?_,fun h' i j Q E kh hi hj q=>?_⟩
 . rw[ksk_kind (keys:=vs.toArray) (kz:=ns) (by simpa using hI) (by simpa using h2)]
   exact zC q
 . obtain⟨t,e1⟩:=at_ i hi
   obtain⟨u,e2⟩:=at_ j hj
   rw[e1,e2]
   exact PySem.W.kat_lt_int q
theorem zFG {vs:List Value}{ns:List Int}{out:List Nat}(hI:IntsAre vs ns)(p:SortT.Put (O:=intO) (fun i=>ns.getD i 0) vs.length out) :
 ∃ms:List Int,ms.Perm ns/\ms.Pairwise (· <= ·)/\zBL (ms.map V.int) (out.map fun i=>vs.getD i Value.none)/\ms.length=ns.length:=by
 have hl:=hI.length
 have hb:∀i∈out,i<vs.length:=fun i hi=>zBG.mp (p.perm.mem_iff.mp hi)
 refine⟨out.map fun i=>ns.getD i 0,?_,?_,?_,?_⟩
 . have h1:=p.perm.map fun i=>ns.getD i 0
   have h2:(List.range vs.length).map (fun i=>ns.getD i 0)=ns:=by
    rw[show vs.length=ns.length by omega]
    apply List.ext_getElem?
    intro j
    rw[zP]
    by_cases hj:j<ns.length
    . rw[List.getElem?_range hj,zD hj];simp[hj]
    . rw[zAF (by rw[zAV];omega),zAF (by omega)];rfl
   rw[h2] at h1
   exact h1
 . refine zAQ.mpr fun i j hi hj hij=>?_
   rw[zB] at hi hj
   have:=p.rise i j out[i] out[j] (zAr hij) (by simp) (by simp)
   have h3:decide (ns.getD out[j] 0<ns.getD out[i] 0)=false:=this
   have h4:=of_decide_eq_false h3
   rw[List.getElem_map,List.getElem_map]
   omega
 . have:∀l:List Nat,(∀i∈l,i<vs.length)->zBL ((l.map fun i=>ns.getD i 0).map V.int) (l.map fun i=>vs.getD i Value.none):=by
    intro l
    induction l with
    | nil=>intro _;exact .nil
    | cons i l ih=>
     intro h
     have hi:=h i zZ
     obtain⟨n,hn⟩:∃n,ns[i]? = some n:=⟨_,zD (by omega)⟩
     obtain⟨t,ht⟩:=hI.get i n hn
     refine .cons ?_ (ih fun j hj=>h j (zc _ hj))
     show zBy (V.int (ns.getD i 0)) (vs.getD i Value.none)
     rw[zF,zF,ht,hn]
     exact⟨t,rfl⟩
   exact this out hb
 . rw[zB,p.perm.length_eq,zAV];omega
section
variable {X:Cx}
theorem zGJ (hc:X.calm=true):zCg X (.builtin "sorted") (fun xs H Q=>∃p kvs ns,xs=[.ref p]/\H p=some (.dK kvs)/\kvs.map (·.1)=ns.map Sum.inl/\ns.length<64 /\
 ∀(l:Addr)(ms:List Int),H l=none->ms.Perm ns->ms.Pairwise (· <= ·)->Q (.ref l) (upd H l (.lst (ms.map V.int)))):=by
 intro pins s σ H xs us Q I r h
 obtain⟨p,kvs,ns,rfl,hd,hks,h64,q⟩:=h
 obtain⟨u,rfl,rx⟩:=zC3 r
 cases rx
 obtain⟨hz,lo,vs,rel,o,es,ep,ho,hx,hdat,_,hpr,hnd⟩:=zJB I.hok hd
 have key:∀(es:List DictEntry)(kvs:List (Key×V))(vs:List (Key×Value))(ns:List Int),KV kvs vs->Pairs (zBN X.prog X.w) es vs->kvs.map (·.1)=ns.map Sum.inl->IntsAre (es.map (·.key)) ns:=by
  intro es
  induction es with
  | nil=>
   intro kvs vs ns rel pr e
   cases pr
   cases rel
   cases ns with
   | nil=>exact .nil
   | cons n ns=>simp at e
  | cons d es ih=>
   intro kvs vs ns rel pr e
   cases pr with
   | cons k1 k2 k3=>
    cases rel with
    | cons hpq t=>
     cases ns with
     | nil=>simp at e
     | cons n ns=>
      simp only[zAX,List.cons.injEq] at e
      rw[<-hpq.1,e.1] at k1
      obtain⟨t0,e0⟩:=Value.isInt_shape (k:=n) (v:=d.key) k1
      rw[zAX,e0]
      exact .cons n t0 (ih _ _ _ t k3 e.2)
 have hI:IntsAre (es.toList.map (·.key)) ns:=key _ _ _ _ rel hpr hks
 have hl:=hI.length
 refine SortT.sorted_dict (O:=intO) (key:=fun i=>ns.getD i 0) (κ:=oneType') (vs:=es.toList.map (·.key)) (I.ok.hd hc) lo ⟨o,ho,hx,hdat⟩ rfl (by omega) (fun h2 s' a fa kp=>zES hI h2) fun h1 D h' t' out c pt k1 hD k2 ho=>?_
 obtain⟨ms,hp,hr,rz,hlz⟩:=zFG hI pt
 have I1:Inv X pins σ H { s with heap:=h1,toks:=s.toks }:=I.kept k1
 refine⟨.ref D,_,zCy (s:={ s with heap:=h1,toks:=s.toks }) (t':=t') I1 hD k2 ho rz ?_,rfl,q D ms (I1.hok.fresh hD) hp hr⟩
 have:sizeLine=16777216:=rfl
 rw[zB]
 omega
end
noncomputable def zJc (c:Addr)(q:Str):Heap->Prop:=fun h=>∃o vs t,h.get? c=some o/\o.data = .fields vs/\vs[1]? = some (.str q t)
noncomputable def zC4 (H:Hp)(P:Addr)(pos:Pos)(q:Str):Prop:=∃ps,H P=some (.tbl ps)/\TriplesOk ps.toList/\(codeAmong pos ps.toList=none\/∃c,codeAmong pos ps.toList=some (.ref c)/\H c=some (.ext (zJc c q)))
noncomputable def SmT (H H':Hp):Prop:=∀b o,H b=some o->(∃ps,o = .tbl ps)\/H' b=some o
theorem SmT.refl (H:Hp):SmT H H:=fun _ _ e=>.inr e
variable {H H':Hp}
theorem SmT.of (h:zAw H H'):SmT H H':=fun b o e=>.inr (h b o e)
theorem SmT.trans {H1 H2:Hp}(a:SmT H H1)(b:SmT H1 H2):SmT H H2:=fun c o e=>by
 rcases a c o e with z | z
 . exact .inl z
 . exact b c o z
variable {P:Addr}{pos:Pos}{q:Str}
theorem zC4.keep (h:zC4 H P pos q)(k:∀o,H P=some o->H' P=some o)(k2:∀c φ,H c=some (.ext φ)->H' c=some (.ext φ)):zC4 H' P pos q:=by
 obtain⟨ps,a,b,c⟩:=h
 exact⟨ps,k _ a,b,c.imp id fun ⟨c,e,f⟩=>⟨c,e,k2 _ _ f⟩⟩
theorem zC4.same (h:zC4 H P pos q)(k:zAw H H'):zC4 H' P pos q:=h.keep (fun _=>k _ _) fun _ _=>k _ _
noncomputable def zJd (mg:sOV)(h:Heap):Prop:=∃bm ob,mg "__builtins__" = some (.ref bm)/\bm≠builtinsNs/\h.get? bm=some ob/\ob.cls = .type "module" /\ ob.dict=some builtinsNs/\ob.data = .plain
theorem zLH {h:Heap}{a:Addr}{m m':sOV}(x:h.Ns a m)(y:h.Ns a m'):m=m':=by
 obtain⟨o,es,ep,e,d,_,f⟩:=x
 obtain⟨o',es',ep',e',d',_,f'⟩:=y
 rw[e] at e';cases e'
 rw[d] at d';cases d'
 funext n
 rw[<-f n,<-f' n]
variable {o:HO}
section
variable {X:Cx}{pins:lPO}{σ:St}{H:Hp}{s:Shared}
theorem Inv.growL {Pt c':Addr}{ps more:Array Value}{t':Nat}{h':Heap}(I:Inv X pins σ H s)(hP:H Pt=some (.tbl ps))(hp:s.heap.objs.size<=c')(k:∀b u,b≠Pt->s.heap.get? b=some u->h'.get? b=some u)
 (newP:h'.get? Pt=some (PySem.W.tabObj (ps++more)))(new:zBK X.prog X.w (upd (upd H Pt (.tbl (ps++more))) c' o) h' c' o) :
 Inv X pins σ (upd (upd H Pt (.tbl (ps++more))) c' o) { s with heap:=h',toks:=t' }:=by
 have hc:H c'=none:=I.hok.fresh hp
 have nP:∀b,H b=none->b≠Pt:=fun b n z=>by rw[z,hP] at n;cases n
 have nc:∀b u,s.heap.get? b=some u->b≠c':=fun b u e=>zT (zi (zQ e) hp)
 have up:∀b u,H b=some u->b≠Pt->(upd (upd H Pt (.tbl (ps++more))) c' o) b=some u:=fun b u e hb=>by rw[zk (zq e hc),zk hb];exact e
 refine I.un ⟨fun b u e n _ _=>k b u (nP b n) e,fun b u e n _ _=>⟨u.slots,k b u (nP b n) e⟩,fun b u e n _=>by rw[zk (nc b u e),zk (nP b n)];exact n,fun b u e _=>?_,fun b xs e=>up b _ e (zBu e hP (by intro z;cases z)),fun b ob u e=>up b _ e (zBu e hP (by intro z;cases z)),fun b qs e=>?_⟩ ?_
 . by_cases hb:b=Pt
   . rw[hb];exact⟨_,newP⟩
   . exact⟨u,k b u hb e⟩
 . by_cases hb:b=Pt
   . subst hb
     rw[hP] at e;cases e
     exact⟨more,by rw[zk (zq hP hc),zJ]⟩
   . exact⟨#[],by rw[up b _ e hb];simp⟩
 . intro b u e
   by_cases hbc:b=c'
   . subst hbc;rw[zJ] at e;cases e;exact new
   . rw[zk hbc] at e
     by_cases hb:b=Pt
     . subst hb;rw[zJ] at e;cases e;exact newP
     . rw[zk hb] at e
       refine (I.hok b u e).stay (fun d v hd q=>k d v ?_ q) (fun d q=>up d _ q (zBu q hP (by intro z;cases z))) fun d xs q=>up d _ q (zBu q hP (by intro z;cases z))
       rcases hd with z | z
       . rw[z];exact hb
       . exact zBu z hP (by intro z';cases z')
theorem lam_ev {P c:Addr}{params:Arguments}{body:Expr}{lscope:Scope}{lpos:Pos}{Q:vSP}{E:vSP}(I:Inv X pins σ H s)(T:zC4 H P lpos (X.env.qual ++ "<lambda>"))
 (hcode:X.env.code = .ref c)(C:PySem.W.CodeHd X.base c P)(hbm:zJd X.mg X.base)(hfree:∀y∈lscope.names,y.2 = .free->X.env.kindOf y.1=some .cell)(hdef:defaultsOf params X.env=([],[]))
 (h:∀(f:Addr)(pm cv ctv:Value)(s':Shared)(H':Hp),Inv X pins σ H' s'->SmT H H'->zC4 H' P lpos (X.env.qual ++ "<lambda>")->s.heap.objs.size<=f ->
  s'.heap.get? f=some { cls:=.type "function",data:=.func (PySem.W.kla_fn "<lambda>" (X.env.qual ++ "<lambda>") params body lscope (zC5 X.env.cells lscope.names []) pm cv ctv) } ->
  s'.heap.CodeRec cv (X.env.qual ++ "<lambda>")->Q (.ref f) s') :
 wpAny (model X.prog X.w) X.A (eval (.Lambda params body lscope lpos) X.env) Q E s:=by
 obtain⟨ps,hP,ht,hcase⟩:=T
 have oP:s.heap.get? P=some (PySem.W.tabObj ps):=I.hok P _ hP
 have hg:=I.mod.glob.keeps I.bk
 have C':PySem.W.CodeHd s.heap c P:=C.keeps I.bk
 have hcl:closureFor lscope X.env=pure (zC5 X.env.cells lscope.names []):=zCm fun y hy hf=>I.ok.has y.1 (.inl (hfree y hy hf))
 have nP:∀b o,X.base.get? b=some o->b≠P:=fun b o e z=>by
  have:=(I.bs b o e).2
  rw[z,hP] at this;cases this
 have hgP:mainGlobals≠P:=by
  obtain⟨o,es,ep,e,_⟩:=I.mod.glob
  exact nP _ _ e
 have hb:s.heap.BuiltinsAt X.mg P:=by
  obtain⟨bm,ob,b1,b2,b3,b4,b5,b6⟩:=hbm
  refine⟨bm,ob,b1,b2,fun z=>?_,nP _ _ b3,I.bk _ _ b3,b4,b5,b6⟩
  obtain⟨o,es,ep,e,hd,_⟩:=I.mod.glob
  rw[z,e] at b3;cases b3;rw[hd] at b6;cases b6
 refine PySem.W.kla_eval hdef ?_
 rcases hcase with hn | ⟨c1,hc1,hH⟩
 . refine PySem.W.kla_makeFunction (mg:=X.mg) hcl I.ok.glob hg hcode C' oP ht hn hgP hb fun c' ctv h' tk hx hge hlt hrec htb=>?_
   obtain⟨c2,oc,vs,t,e2,hoc,hd,hv⟩:=id hrec
   cases e2
   have kp:∀b u,b≠P->s.heap.get? b=some u->(h'.push (PySem.W.kla_obj "<lambda>" (X.env.qual ++ "<lambda>") params body lscope (zC5 X.env.cells lscope.names []) ((X.mg "__name__").getD .none) c' ctv)).get? b=some u:=fun b u hb' e=>zG _ (hx b u hb' e)
   have hcn:H c'=none:=I.hok.fresh hge
   have nPc:P≠c':=zq hP hcn
   refine h h'.objs.size ((X.mg "__name__").getD .none) (.ref c') ctv _ _ (I.growL (c':=c') (o:=.ext (zJc c' (X.env.qual ++ "<lambda>"))) (t':=tk) hP hge kp (zG _ htb) ⟨⟨oc,vs,t,zG _ hoc,hd,hv⟩,⟨oc,zG _ hoc⟩,fun h1 h2 ⟨o1,v1,t1,a1,a2,a3⟩ k12=>⟨o1,v1,t1,k12 _ a1,a2,a3⟩⟩) ?_ ?_ ?_ ?_ ?_
   . intro b o e
     by_cases hbP:b=P
     . left
       rw[hbP,hP] at e
       exact⟨ps,(zX e).symm⟩
     . right
       rw[zk (zq e hcn),zk hbP];exact e
   . refine⟨ps ++ #[rawInt lpos.line,rawInt lpos.col,.ref c'],by rw[zk nPc,zJ],?_,.inr ⟨c',?_,zJ⟩⟩
     . rw[Array.toList_append];exact TriplesOk_snoc _ _ _ _ ht
     . rw[Array.toList_append];exact codeAmong_snoc _ ht hn
   . have:=zAr (zAo hge hlt)
     exact this
   . exact zL _ rfl
   . exact hrec.keeps fun b o e=>zG _ e
 . obtain⟨⟨oc,vs,t,hoc,hd,hv⟩,_⟩:=I.hok c1 _ hH
   refine PySem.W.kla_makeFunctionHit (mg:=X.mg) hcl I.ok.glob hg hcode C' oP ht hc1 hb fun ctv h' tk hk hsz=>?_
   refine h h'.objs.size ((X.mg "__name__").getD .none) (.ref c1) ctv _ _ (I.kept (t':=tk) fun b u e=>zG _ (hk b u e)) (SmT.refl _) ⟨ps,hP,ht,.inr ⟨c1,hc1,hH⟩⟩ hsz (zL _ rfl) ⟨c1,oc,vs,t,rfl,zG _ (hk _ _ hoc),hd,hv⟩
end
theorem zMh {X:Cx}{sc:Scope}(h:(sc.names.all fun y=>y.2 != .free || X.env.kindOf y.1==some .cell)=true):∀y∈sc.names,y.2 = .free->X.env.kindOf y.1=some .cell:=fun y hy e=>by
 have a:=zBo.mp h y hy
 rw[e] at a
 simpa using a
section
variable {X:Cx}
noncomputable def zLa (j:Nat)(P:Addr)(lpos:Pos)(q:Str)(t:TA):TE:=fun σ H Q=>t σ H fun vs H1=>∃(l d:Addr)(ns:List Int)(kvs:List (Key×V))(val:Int->Int),vs=[.ref l]/\H1 l=some (.lst (ns.map V.int))/\ns≠[]/\σ[j]? = some (some (.ref d))/\H1 d=some (.dK kvs) /\
 (∀n∈ns,zCu kvs (Sum.inl n)=some (.int (val n)))/\zC4 H1 P lpos q/\∀(M:Int)(H2:Hp),M∈ns->(∀n∈ns,val M<=val n)->SmT H1 H2->zC4 H2 P lpos q->Q (.int M) H2
theorem zIW {k j:Nat}{P c:Addr}{dn pn:Str}{e:Expr}{t:TA}{params:Arguments}{lscope:Scope}{lpos pos np p1 p2 p3 kpos:Pos}
 (hc:X.calm=true)(hr:zDM (k+1) X.A)(hg:Gl X "min") (hm:X.mg "min" = none) (he:PA X [e] t)(hcode:X.env.code = .ref c)(C:PySem.W.CodeHd X.base c P)(hbm:zJd X.mg X.base)
 (hN:X.N[j]? = some dn)(hkd:X.env.kindOf dn=some .cell)(hS:lscope.kind = .function)(hco:lscope.isCoroutine=false)(hgen:lscope.isGenerator=false)(hcell:∀x∈lscope.names,x.2 ≠ .cell)
 (hfree:∀y∈lscope.names,y.2 = .free->X.env.kindOf y.1=some .cell)(hdn:lscope.names.lookup dn=some .free)(hpn:lscope.names.lookup pn=some .local)(hdef:defaultsOf params X.env=([],[]))
 (hbind:∀(q:Str)(body:Expr)(cl:List (Str×Addr))(pm cdv ct v:Value),bindArgs (PySem.W.kla_fn "<lambda>" q params body lscope cl pm cdv ct) ⟨[v],[]⟩=pure [(pn,v)])
 (hd1:(dn==("__debug__" : Str))=false:=by decide) (hd2:(dn==("__classdict__" : Str))=false:=by decide) (hd3:(pn==("__debug__" : Str))=false:=by decide)
 (hs1:backTo pos (starEach [e] X.env)=(false,eval e X.env)::backTo pos (starEach [] X.env):=by rfl)(hs2:(backTo pos (starEach [e] X.env)).any (·.1)=false:=by rfl) :
 PE X (.Call (.Name "min" np) [e] [⟨some "key",.Lambda params (.Subscript (.Name dn p1) (.Name pn p2) p3) lscope lpos,kpos⟩] pos) (zLa j P lpos (X.env.qual ++ "<lambda>") t):=by
 intro pins s σ H Q I h
 refine zBM (zCp I hg hm (by decide +kernel:bootBuiltins "min" = some (.builtin "min")) ?_)
 refine PyProof.Rows.callWith_kw (thn (he pos pins s σ H _ I h) fun us s1 ⟨vs,H1,I1,r,q1⟩=>?_) hs1 hs2
 obtain⟨l,d,ns,kvs,val,rfl,hl,hne,hσ,hdd,hval,T,q⟩:=q1
 obtain⟨u,rfl,rx⟩:=zC3 r
 cases rx
 show wpAny _ _ (evalAll ((do let v <-eval (.Lambda params (.Subscript (.Name dn p1) (.Name pn p2) p3) lscope lpos) X.env;standAt pos;pure v)::[])) _ _ s1
 refine wpAny_evalAll_cons (zA (lam_ev I1 T hcode C hbm hfree hdef fun f pm cv ctv s2 H2 I2 sm T2 hfge hf hrec=>zA (wpAny_standAt (zC (wpAny_evalAll_nil ?_)))))
 show wpAny _ _ (call (.builtin "min") [.ref l] [(Str.ofString "key",.ref f)]) _ _ s2
 have keep2:∀b o,H1 b=some o->(∀ps,o ≠ .tbl ps)->H2 b=some o:=fun b o e ho=>by
  rcases sm b o e with ⟨ps,z⟩ | z
  . exact absurd z (ho ps)
  . exact z
 have hl2:H2 l=some (.lst (ns.map V.int)):=keep2 _ _ hl (by intro ps z;cases z)
 have hd2':H2 d=some (.dK kvs):=keep2 _ _ hdd (by intro ps z;cases z)
 obtain⟨_,its,nn,rv,ho⟩:=I2.hok l _ hl2
 obtain⟨hz,lo,vs,rel,od,es,ep,hod,hdr⟩:=zJB I2.hok hd2'
 have hI:IntsAre its ns:=zBU rv
 obtain⟨m,F0⟩:=I2.fr
 have notL:∀b o,H2 b=some o->b≠X.env.locals:=fun b o e z=>by rw[z,I2.free] at e;cases e
 have kp:∀(h':Heap)(own:lPO),Fr X.base X.env.locals h' m->News X.base X.env.locals h' (zEV X.base s2.heap X.env.locals++own)->∀b o,b≠X.env.locals->s2.heap.get? b=some o->h'.get? b=some o:=fun h' own F' N' b o hb e'=>by
  cases qb:X.base.get? b with
  | some u=>
   have z:=I2.bk b u qb
   rw[e'] at z;cases z
   exact F'.keep b _ qb
  | none=>exact (N' (b,o) (zAe _ (zGn hb qb e'))).1
 obtain⟨m',hn',hloc⟩:=I2.loc
 have em:m'=m:=zLH hn' F0.ns
 subst em
 obtain⟨ud,rd,lk⟩:=hloc j dn (.ref d) hN hσ (.inr (.inl hkd))
 cases (show ud=Value.ref d from rd)
 obtain⟨cc,hcc,oc,hoc,hdc⟩:∃cc,X.env.cells.lookup dn=some cc/\s2.heap.IsCell cc (some (.ref d)):=by
  rcases lk with ⟨z,_⟩ | ⟨_,cc,a,b⟩
  . rw[hkd] at z;cases z
  . exact⟨cc,a,b⟩
 have hcl:(zC5 X.env.cells lscope.names []).lookup dn=some cc:=by
  obtain⟨c',hc'⟩:=zC1 ⟨cc,hcc⟩ lscope.names [] (PySem.mem_of_lookup hdn)
  rcases zDL _ _ hc' with z | z
  . simp at z
  . rw[hcc] at z;cases z;exact hc'
 have hsz0:X.env.locals<s1.heap.objs.size:=I1.lt
 have hfL:f≠X.env.locals:=zAG (zi hsz0 hfge)
 refine PyProof.Rows.kmk_min_letter (h₀:=X.base) (L:=X.env.locals) (m:=m') (news:=zEV X.base s2.heap X.env.locals) (ns:=ns) val (I2.ok.hd hc) F0 zKL (fun h' F' N'=>?_) hI (List.length_pos_iff.mpr hne) (fun n tn h' tk own hn F' N'=>?_) (fun M tM h' tk F' N' hM hbest=>?_)
 . exact⟨_,kp h' [] F' (by rw[zt];exact N') l _ (notL _ _ hl2) ho,rfl,nn,rfl⟩
 . have kk:=kp h' own F' N'
   obtain⟨c1,o1,v1,t1,e1,ho1,hd1',hv1⟩:=id hrec
   subst e1
   have hc1L:c1≠X.env.locals\/True:=.inr trivial
   have rec':h'.CodeRec (.ref c1) (X.env.qual ++ "<lambda>"):=by
    refine⟨c1,o1,v1,t1,rfl,kk c1 o1 (fun z=>?_) ho1,hd1',hv1⟩
    obtain⟨oL,esL,epL,hoL,hdL,_⟩:=F0.ns
    rw[z,hoL] at ho1;cases ho1;rw[hdL] at hd1';cases hd1'
   refine zBb (PySem.W.kla_callFunE hr.in1.depth (kk f _ hfL hf) rfl hco hgen rfl rec' ?_)
   rw[hbind]
   refine zC (wpAny_newFunctionEnv hcell (fun y hy=>?_) (fun h₁ hns hsb=>?_) hS)
   . obtain rfl:y=(pn,Value.int n tn):=zf.mp hy
     exact hpn
   . have hk₁:∀b o,h'.get? b=some o->h₁.get? b=some o:=fun b o e'=>hsb.extBut b o (zT (zQ e')) (zG _ e')
     refine⟨I2.mod.nolimit.keeps fun b o e'=>hk₁ b o (F'.keep b o e'),?_⟩
     show codeAny _ _ (.expr (.Subscript (.Name dn p1) (.Name pn p2) p3) (PySem.W.envX (X.env.qual ++ "<lambda>") lscope h'.objs.size f (.ref c1) (zC5 X.env.cells lscope.names []))) _ _
     refine PySem.W.kla_codeExpr (zLd PySem.F.slot_dict_getitem.lookup (fun _ _=>rfl) ?_)
     refine wpAny_Name (wpAny_loadName_free hS (show (PySem.W.envX (X.env.qual ++ "<lambda>") lscope h'.objs.size f (.ref c1) (zC5 X.env.cells lscope.names [])).kindOf dn=some .free from hdn) hcl ⟨oc,hk₁ _ _ (kk cc oc (I2.cne dn cc hcc) hoc),hdc⟩ ?_ hd2) hd1
     refine wpAny_Name (wpAny_loadName_local hS (show (PySem.W.envX (X.env.qual ++ "<lambda>") lscope h'.objs.size f (.ref c1) (zC5 X.env.cells lscope.names [])).kindOf pn=some .local from hpn) hns (v:=.int n tn) (by simp) ?_) hd3
     have dd:h₁.DictOf (zBN X.prog X.w) d vs:=⟨od,es,ep,hk₁ _ _ (kk d od (notL _ _ hd2') hod),hdr⟩
     refine⟨dd.typeIs,?_⟩
     obtain⟨w',hw,rw'⟩:=zHo.some_of (v:=.int (val n)) (o:=valueAt vs (Sum.inl n)) (by rw[<-hval n hn];exact rel.val (Sum.inl n))
     obtain⟨t',rfl⟩:=rw'
     refine wpAny_getItem_of (zHf (k:=Sum.inl n) ⟨tn,rfl⟩) dd.mapOf hw ?_
     exact⟨h₁,_,t',rfl,rfl,⟨F'.ns.keeps hk₁,fun b o e'=>hk₁ b o (F'.keep b o e'),F'.above⟩,fun p hp=>⟨hk₁ _ _ (N' p hp).1,(N' p hp).2⟩⟩
 . have kk:=kp h' [] F' (by rw[zt];exact N')
   have I3:Inv X pins σ H2 { s2 with heap:=h',toks:=tk }:=by
    refine I2.step (g':=s2.gens) (d':=s2.drawn) (ch:=[]) (fun _ z=>nomatch z) (fun b o hb _ _ e' _=>kk b o hb e') (fun b o hb _ _ e' _=>⟨o.slots,kk b o hb e'⟩) (fun _ _ _ _ n=>n) (fun b o _ e'=>?_) (fun _ _ e'=>e') (fun _ _ _ e'=>e') (fun b ps e'=>⟨#[],by rw[e'];simp⟩) (fun mm hmm=>?_) ?_ I2.bare
    . by_cases hb:b=X.env.locals
      . obtain⟨oL,esL,epL,hoL,_⟩:=F'.ns
        exact⟨oL,by rw[hb];exact hoL⟩
      . exact⟨o,kk b o hb e'⟩
    . have:=zLH hmm F0.ns
      subst this
      exact F'.ns
    . intro b u e'
      refine (I2.hok b u e').stay (fun x v hx z=>kk x v ?_ z) (fun _ z=>z) fun _ _ z=>z
      rcases hx with z1 | z1
      . rw[z1];exact notL _ _ e'
      . exact notL _ _ z1
   exact⟨.int M,H2,I3,⟨tM,rfl⟩,q M H2 hM hbest sm T2⟩
end
theorem zIq {P:Program}{w:World}{K:PySem.W.Frag}{mg mb:sOV}{CX:CXT}{k:Nat}{fa a PT:Addr}{fd:FuncData}{x:Str}{sp:Sp}{s₁:Shared}{vs:List Value}{ns:List Int}
 (KX:K.In s₁.heap)(hns:s₁.heap.Ns mainGlobals mg)(hb:s₁.heap.Ns builtinsNs mb)(hbb:∀x:Str,x ≠ "__name__" -> mb x=bootBuiltins x) (hlim:s₁.heap.NoLimit)(hg:s₁.gens = #[])
 (ha:s₁.heap.get? a=some { cls:=.type "list",data:=.seq vs.toArray }) (hi:IntsAre vs ns)(hl:ns.length<=sizeLine)(hr:zDM k callerA)
 (hT:s₁.heap.get? PT=some (PySem.W.tabObj #[]))(hC:isCodeTable s₁.heap PT)(hK:PySem.W.noTabs K=true)(hbm:zJd mg s₁.heap)
 (F:∀base:Heap,K.In base->base.Ns mainGlobals mg->zJd mg base->zAg P w K mg base CX k fa fd [x] sp)(hbind:∀(s:Shared)(u:Value),BindsTo s fd ⟨[u],[]⟩ [(x,u)])
 (hsp:∀H:Hp,H PT=some (.tbl #[])->SqL K H a (ns.map V.int)->sp [.ref a] H (fun v _=>v = .bl true) fun _ _ _=>False)
 (hCX:∀H e s',CX [] H s₁ (fun _ _ _=>False) e s'->False) :
 codeAny (model P w) callerA (.call (.ref fa) ⟨[.ref a],[]⟩) (fun r s'=>r = .ok (.ret (.bool true))/\OldK s₁.heap s'.heap/\s'.os=s₁.os/\AllBare s'.gens) s₁:=by
 have rv:=zFb hi
 have lenV:=hi.length
 have npa:PT≠a:=fun e=>by rw[e,ha] at hT;cases hT
 have kPT:K.lookup PT=none:=by
  cases q:K.lookup PT with
  | none=>rfl
  | some o=>
   have e:=KX PT o q
   rw[hT] at e
   cases e
   have h2:=zBo.mp hK (PT,_) (PySem.W.mem_of_lookupK q)
   exact absurd (show false=true from h2) zb
 have core:∀H:Hp,(∀b u,H b=some u->(b=PT/\u = .tbl #[])\/(b=a/\K.lookup a=none/\∃o xs,u = .frz o (.lst xs)))->H PT=some (.tbl #[])->SqL K H a (ns.map V.int)->HOk P w H s₁.heap ->
  codeAny (model P w) callerA (.call (.ref fa) ⟨[.ref a],[]⟩) (fun r s'=>r = .ok (.ret (.bool true))/\OldK s₁.heap s'.heap/\s'.os=s₁.os/\AllBare s'.gens) s₁:=by
  intro H hA hP hS hok
  have base_of:∀{b:Addr}{o:Obj},s₁.heap.get? b=some o->H b=none->(zJe s₁.heap H).get? b=some o:=fun e n=>zKS e n
  have noA:∀{b:Addr}{o:Obj},s₁.heap.get? b=some o->(∀ps,o.data ≠ .fields ps)->(∀ps n,o.data ≠ .seq ps n)->H b=none:=fun {b o} e d1 d2=>by
   cases q:H b with
   | none=>rfl
   | some u=>
    rcases hA b u q with ⟨rfl,_⟩ | ⟨rfl,_⟩
    . rw[hT] at e;cases e;exact absurd rfl (d1 #[])
    . rw[ha] at e;cases e;exact absurd rfl (d2 _ _)
  have nsK:∀{b:Addr}{m:sOV},s₁.heap.Ns b m->(zJe s₁.heap H).Ns b m:=fun {b m} ⟨o,es,ep,e,d,r⟩=>⟨o,es,ep,base_of e (noA e (fun ps z=>by rw[d] at z;cases z) (fun ps n z=>by rw[d] at z;cases z)),d,r⟩
  have hKb:K.In (zJe s₁.heap H):=fun b o e=>base_of (KX b o e) (by
   cases q:H b with
   | none=>rfl
   | some u=>
    rcases hA b u q with ⟨rfl,_⟩ | ⟨rfl,z,_⟩
    . rw[kPT] at e;cases e
    . rw[z] at e;cases e)
  have hBm:zJd mg (zJe s₁.heap H):=by
   obtain⟨bm,ob,b1,b2,b3,b4,b5,b6⟩:=hbm
   exact⟨bm,ob,b1,b2,base_of b3 (noA b3 (fun ps z=>by rw[b6] at z;cases z) (fun ps n z=>by rw[b6] at z;cases z)),b4,b5,b6⟩
  have hM:Mod K mg (zJe s₁.heap H):=⟨hKb,nsK hns,⟨mb,nsK hb,hbb⟩,let ⟨mc,h1,h2⟩:=hlim;⟨mc,nsK h1,h2⟩⟩
  have e0:Env0 P w K mg (zJe s₁.heap H) callerA [] s₁ H:=⟨rfl,hM,fun b o e=>zMW e,Nat.le_of_eq (zI4 _ _),trivial,fun b hb=>absurd (show b∈([]:List Addr) from hb) (by simp),hok,.of_eq hg⟩
  refine codeAny_mono ((F _ hKb (nsK hns) hBm).run callerA [] s₁ H ⟨[.ref a],[]⟩ [.ref a] [.ref a] _ _ hr e0 (hbind s₁ (.ref a)) (.cons rfl .nil) (hsp H hP hS)) fun r s' h=>?_
  cases r with
  | error e=>exact (hCX H e s' h).elim
  | ok fl=>
   cases fl with
   | next=>exact False.elim h
   | brk=>exact False.elim h
   | cont=>exact False.elim h
   | ret u=>
    obtain⟨v,H',os,bare,un,hok',r',q⟩:=h
    have q':v = .bl true:=q
    subst q'
    obtain rfl:u=Value.bool true:=r'
    obtain⟨more,hPn⟩:=un.tbls PT _ hP
    have objP:s'.heap.get? PT=some { cls:=.none,data:=.fields (#[]++more) }:=hok' PT _ hPn
    have keep:∀b o,b≠PT->s₁.heap.get? b=some o->s'.heap.get? b=some o:=fun b o hb e=>by
     cases q:H b with
     | none=>exact un.keep b o e q (by intro z;exact absurd (show b∈([]:List Addr) from z) (by simp)) (by simp)
     | some u=>
      rcases hA b u q with ⟨z,_⟩ | ⟨_,_,ob,xs,z⟩
      . exact absurd z hb
      . subst z
        have z2:=un.frzs b ob _ q
        obtain⟨e1,_⟩:=hok b _ q
        obtain⟨e2,_⟩:=hok' b _ z2
        rw[e] at e1;cases e1
        exact e2
    refine⟨rfl,⟨fun b o e=>?_,fun b o e=>?_⟩,os,bare⟩
    . by_cases hb:b=PT
      . subst hb
        rw[hT] at e;cases e
        exact .inr (.inl ⟨hC,rfl,#[],more,rfl,objP⟩)
      . exact .inl (keep b o hb e)
    . by_cases hb:b=PT
      . rw[hb];exact⟨_,objP⟩
      . exact⟨o,keep b o hb e⟩
 have okP:∀H:Hp,zBK P w H s₁.heap PT (.tbl #[]):=fun H=>hT
 cases hk:K.lookup a with
 | some o=>
  have e:=KX a o hk
  rw[ha] at e
  cases e
  refine core (fun b=>if b=PT then some (.tbl #[]) else none) (fun b u z=>?_) (if_pos rfl) (.inr ⟨_,vs.toArray,_,hk,rfl,rfl,rfl,by rw[zN,lenV];exact hl,by simpa using rv⟩) (fun b u z=>?_)
  all_goals
   have z':(if b=PT then some (HO.tbl #[]) else none)=some u:=z
   by_cases hb:b=PT
   . rw[if_pos hb] at z';cases z'
     first
      | exact .inl ⟨hb,rfl⟩
      | (subst hb;exact okP _)
   . rw[if_neg hb] at z';cases z'
 | none=>
  refine core (fun b=>if b=PT then some (.tbl #[]) else if b=a then some (.frz { cls:=.type "list",data:=.seq vs.toArray } (.lst (ns.map V.int))) else none) (fun b u z=>?_) (if_pos rfl)
   (.inl (.inr ⟨{ cls:=.type "list",data:=.seq vs.toArray },by show (if a=PT then _ else if a=a then _ else _)=_;rw[if_neg npa.symm,if_pos rfl]⟩)) (fun b u z=>?_)
  all_goals
   have z':(if b=PT then some (HO.tbl #[]) else if b=a then some (.frz { cls:=.type "list",data:=.seq vs.toArray } (.lst (ns.map V.int))) else none)=some u:=z
   by_cases hb:b=PT
   . rw[if_pos hb] at z';cases z'
     first
      | exact .inl ⟨hb,rfl⟩
      | (subst hb;exact okP _)
   . rw[if_neg hb] at z'
     by_cases hba:b=a
     . rw[if_pos hba] at z';cases z'
       first
        | exact .inr ⟨hba,hk,_,_,rfl⟩
        | (subst hba;exact⟨ha,by rw[zB];exact hl,vs,_,rv,ha⟩)
     . rw[if_neg hba] at z';cases z'
variable {x:Str}
theorem walk_T {l:PySem.W.OpenLaw}{n k:Nat}{q:Program}{loose:List Str}{XP:(Str->Option Value)->Heap->Prop}{YP:World->Heap->Prop}{d:DefRec}{K:Params->PySem.W.Frag}{CX:CXT}{sp:PySem.W.Frag->Addr->Sp}{tn:Str}
 (hn:l.most=some n)(hn2:n<=sizeLine)(hdf:d.params.defaults=[])(hr:zDM k callerA)(hrec:∃dn,(recsOf q).find? (fun e=>e.name==tn)=some dn)
 (hY:∀(w:World)(h:Heap),YP w h->(K w.params).In h)
 (F:∀(w:World)(mg:sOV)(fa:Addr)(h:Heap),(K w.params).In h->h.Ns mainGlobals mg->mg d.name=some (.ref fa) ->
  ∃(fd:FuncData)(c PT:Addr),PySem.W.tabIn (K w.params) tn=some (c,PT)/\PySem.W.noTabs (K w.params)=true/\(∀(s:Shared)(u:Value),BindsTo s fd ⟨[u],[]⟩ [(x,u)]) /\
   ∀base:Heap,(K w.params).In base->base.Ns mainGlobals mg->zJd mg base->zAg l.prog w (K w.params) mg base CX k fa fd [x] (sp (K w.params) PT))
 (hsp:∀(K:PySem.W.Frag)(PT:Addr)(H:Hp)(a:Addr)(ns:List Int),ns.length<=n->H PT=some (.tbl #[])->SqL K H a (ns.map V.int)->sp K PT [.ref a] H (fun v _=>v = .bl true) fun _ _ _=>False)
 (hCX:∀(H:Hp)(s:Shared)(e:Value)(s':Shared),CX [] H s (fun _ _ _=>False) e s'->False) :
 PySem.W.WalkO q loose XP YP l.row.toRowW d [] (fun f vs=>PySem.call f vs):=by
 refine Att.attach_call hn hdf fun w s₀ s₁ mg mb fa o pm cd doc a vs ns G Y ho hd hcd hmg hobj hints hlen hg=>?_
 have KX:=hY w _ Y
 obtain⟨fd,c,PT,htab,hnt,hb,hF⟩:=F w mg fa _ KX G.T.g hmg
 obtain⟨dn,hdn⟩:=hrec
 obtain⟨C,hPT⟩:=PySem.W.tab_of G.T KX hdn htab
 exact zIq KX G.T.g G.T.b G.T.builtins G.T.nolimit hg hobj hints (zAP hlen hn2) hr hPT (C.tab hPT).isCodeTable hnt G.T.bmain hF hb (fun H hP hS=>hsp _ PT H a ns hlen hP hS) fun H e s'=>hCX H s₁ e s'
structure zKm (K:PySem.W.Frag)(x qual:Str)(st:Stmt)(f:Addr)(fd:FuncData)(c:Addr):Prop where
 ex:∃(oc:Value)(od:Option Addr)(kV doc pm:Value)(an:Option Addr)(ct:Value)(osl:Array (Option Value)),
  fd=PySem.W.fnOf x qual (defArgs st) (defBody st) (defScope st) .none kV doc pm an (.ref c) ct/\K.lookup f=some ⟨oc,od,.func fd,osl⟩/\PySem.W.codeIn K (.ref c) qual=true
 kp:PySem.W.keepIn K (.ref f)=true
variable {K:PySem.W.Frag}{qual:Str}{st:Stmt}{f c:Addr}
theorem zKm.fn {fd:FuncData}(F:zKm K x qual st f fd c):Fun K x qual st f fd:=by
 obtain⟨oc,od,kV,doc,pm,an,ct,osl,h⟩:=F.ex
 exact⟨⟨oc,od,kV,doc,pm,an,.ref c,ct,osl,h⟩,F.kp⟩
theorem zKm.ok {P:Program}{w:World}{mg:sOV}{base:Heap}{fd:FuncData}{N ps:List Str}{k:Nat}{sp:Sp}(F:zKm K x qual st f fd c)(S:zAO N ps (defScope st))(len:∀vs H Q E,sp vs H Q E->vs.length=ps.length)
 (hbody:∀(A:Around)(outer:List Env)(s:Shared)(H:Hp)(vs:List V)(Q:VK)(E:XK),zDM k (A.deeper (envOfC qual (defScope st) s.heap.objs.size f (.ref c)))->sp vs H Q E ->
  ∃t,PSs (zJH CX0 P w K mg base N qual (defScope st) f (.ref c) A outer s H E).nox (defBody st) t/\t { nx:=fun _ H'=>Q .non H',rt:=Q } (start N vs) H):zAg P w K mg base CX0 (k+1) f fd ps sp:=by
 obtain⟨oc,od,kV,doc,pm,an,ct,osl,rfl,lk,hcd⟩:=F.ex
 refine zMi lk hcd S len fun A outer s H vs Q E hr hsp=>?_
 obtain⟨t,h,q⟩:=hbody A outer s H vs Q E hr hsp
 exact⟨t,h.nox,q⟩
theorem zMg {oc:Value}{od an:Option Addr}{osl:Array (Option Value)}{kV doc pm ct:Value}(l:K.lookup f=some ⟨oc,od,.func (PySem.W.fnOf x qual (defArgs st) (defBody st) (defScope st) .none kV doc pm an (.ref c) ct),osl⟩)
 (hc:PySem.W.codeIn K (.ref c) qual=true)(k:PySem.W.keepIn K (.ref f)=true):zKm K x qual st f (PySem.W.fnOf x qual (defArgs st) (defBody st) (defScope st) .none kV doc pm an (.ref c) ct) c:=⟨⟨oc,od,kV,doc,pm,an,ct,osl,rfl,l,hc⟩,k⟩
section
variable {κ:Type} [DecidableEq κ]
theorem zKN {kvs:List (κ×V)}{k:κ}{v:V}{kv:κ×V}(h:kv∈zDl kvs k v):kv∈kvs\/kv=(k,v):=by
 unfold zDl at h
 split at h
 . obtain⟨q,hq,e⟩:=zAM.mp h
   by_cases hk:q.1=k
   . rw[if_pos hk] at e;rw[<-e,hk];exact .inr rfl
   . rw[if_neg hk] at e;rw[<-e];exact .inl hq
 . rcases zm.mp h with q | q
   . exact .inl q
   . exact .inr (zf.mp q)
theorem nd_put {kvs:List (κ×V)}{k:κ}{v:V}(h:(kvs.map (·.1)).Nodup):((zDl kvs k v).map (·.1)).Nodup:=by
 cases e:zCu kvs k with
 | none=>exact zMY v h e
 | some x=>
  have ha:(kvs.any fun kv=>decide (kv.1=k))=true:=by rw[zCW,e];rfl
  unfold zDl
  rw[if_pos ha]
  have e3:(kvs.map fun kv=>if kv.1=k then (kv.1,v) else kv).map (·.1)=kvs.map (·.1):=by
   rw[List.map_map]
   refine List.map_congr_left fun kv _=>?_
   show (if kv.1=k then (kv.1,v) else kv).1=kv.1
   split <;> rfl
  rw[e3];exact h
theorem zFd (k j:κ):∀kvs:List (κ×V),zCu (zCV kvs k) j=if j=k then none else zCu kvs j
 | []=>by show (none:Option V)=_;split <;> rfl
 | p::r=>by
  have ih:=zFd k j r
  by_cases e:p.1=k
  . rw[zGB e,ih]
    by_cases hj:j=k
    . rw[if_pos hj,if_pos hj]
    . rw[if_neg hj,if_neg hj,zBd fun z=>hj (z.symm.trans e)]
  . rw[zGC e]
    by_cases hj:p.1=j
    . rw[zBk hj,zBk hj,if_neg fun z=>e (hj.trans z)]
    . rw[zBd hj,zBd hj,ih]
end
noncomputable def unkW:Key->Int
 | .inl i=>i
 | .inr _=>0
structure WD (n:Int)(kvs:List (Key×V))(wt:Int->Option Int):Prop where
 sh:∀kv∈kvs,∃p d,kv=(Sum.inl p,V.int d)/\0<=p/\p<n
 nd:(kvs.map (·.1)).Nodup
 at_:∀p:Int,zCu kvs (Sum.inl p)=(wt p).map V.int
noncomputable def zEg (kvs:List (Key×V)):List Int:=kvs.map fun kv=>unkW kv.1
variable {n:Int}{kvs:List (Key×V)}{wt:Int->Option Int}
theorem WD.keys (h:WD n kvs wt):kvs.map (·.1)=(zEg kvs).map Sum.inl:=by
 unfold zEg
 rw[List.map_map]
 refine List.map_congr_left fun kv hkv=>?_
 obtain⟨p,d,e,_⟩:=h.sh kv hkv
 rw[e];rfl
theorem WD.nds (h:WD n kvs wt):(zEg kvs).Nodup:=by
 have e:=h.nd
 rw[h.keys,List.Nodup,zA2] at e
 exact e.imp fun h e'=>h (by rw[e'])
theorem WD.len (h:WD n kvs wt)(h0:0<=n):(kvs.length:Int)<=n:=by
 have:=WM.nd_len (n:=n.toNat) h.nds fun x hx=>by
  obtain⟨kv,hkv,e⟩:=zAM.mp hx
  obtain⟨p,d,e2,h1,h2⟩:=h.sh kv hkv
  have:x=p:=by rw[<-e,e2];rfl
  omega
 unfold zEg at this
 rw[zB] at this
 omega
variable {p:Int}
theorem WD.mem (h:WD n kvs wt):p∈zEg kvs↔∃e,wt p=some e:=by
 have e:p∈zEg kvs↔(Sum.inl p:Key)∈kvs.map (·.1):=by
  rw[h.keys]
  constructor
  . intro m;exact zAM.mpr ⟨p,m,rfl⟩
  . intro m
    obtain⟨q,hq,e⟩:=zAM.mp m
    cases e;exact hq
 rw[e]
 have ha:=h.at_ p
 constructor
 . intro m
   cases hw:wt p with
   | some d=>exact⟨d,rfl⟩
   | none=>rw[hw] at ha;exact absurd m (zG0 ha)
 . rintro ⟨d,hw⟩
   rw[hw] at ha
   exact zLY ha
theorem WD.one {s:Int}(h0:0<=s)(h1:s<n):WD n [(Sum.inl s,V.int 0)] (fun q=>if q=s then some 0 else none):=by
 refine⟨fun kv hkv=>?_,by simp,fun p=>?_⟩
 . rw[zf.mp hkv];exact⟨s,0,rfl,h0,h1⟩
 . by_cases e:p=s
   . rw[if_pos e,e];exact zBk rfl
   . rw[if_neg e];exact (zBd fun z=>e (Sum.inl.inj z).symm).trans zJk
theorem WD.put (h:WD n kvs wt){d:Int}(h0:0<=p)(h1:p<n):WD n (zDl kvs (Sum.inl p) (.int d)) (fun q=>if q=p then some d else wt q):=by
 refine⟨fun kv hkv=>?_,nd_put h.nd,fun q=>?_⟩
 . rcases zKN hkv with z | z
   . exact h.sh kv z
   . exact⟨p,d,z,h0,h1⟩
 . rw[zJj]
   by_cases e:q=p
   . rw[if_pos e,if_pos (by rw[e])];rfl
   . rw[if_neg e,if_neg fun z=>e (Sum.inl.inj z)];exact h.at_ q
theorem WD.drop (h:WD n kvs wt):WD n (zCV kvs (Sum.inl p)) (fun q=>if q=p then none else wt q):=by
 refine⟨fun kv hkv=>h.sh kv (zGD hkv),zFL h.nd,fun q=>?_⟩
 rw[zFd]
 by_cases e:q=p
 . rw[if_pos e,if_pos (by rw[e])];rfl
 . rw[if_neg e,if_neg fun z=>e (Sum.inl.inj z)];exact h.at_ q
noncomputable def oV:Option Int->V
 | none=>.non
 | some d=>.int d
theorem zHH {n:Nat}{i:Int}(h0:0<=i)(h1:i<n):ixN n i=some i.toNat:=by
 unfold ixN
 rw[if_pos h0,if_pos h1]
theorem zAv {α:Type}{xs:List α}{i:Int}{v:α}(h0:0<=i)(h:xs[i.toNat]? = some v):atI xs i=some v:=by
 have:=zGv h
 rwa [zBg h0] at this
theorem SmT.get (k:SmT H H'){b:Addr}(e:H b=some o)(h:∀ps,o ≠ .tbl ps):H' b=some o:=by
 rcases k b o e with ⟨ps,z⟩ | z
 . exact absurd z (h ps)
 . exact z
theorem SmT.chg {l:Addr}(k:SmT H H')(h:H l=none):SmT H (upd H' l o):=fun b u e=>by
 rcases k b u e with z | z
 . exact .inl z
 . right
   rw[zk (zq e h)];exact z
theorem zC4.chg {l:Addr}{xs:List V}(T:zC4 H P pos q)(h:H l=some (.lst xs)):zC4 (upd H l o) P pos q:=by
 obtain⟨ps,hps,_⟩:=id T
 refine T.keep (fun u hu=>?_) fun c φ hc=>?_
 . rw[zk (zBu hps h (by intro z;cases z))];exact hu
 . rw[zk (zBu hc h (by intro z;cases z))];exact hc
theorem zKR {xs ys:List Int}:((List.range (min xs.length ys.length)).all (fun j=>xs.getD j 0==ys.getD j 0) && xs.length==ys.length)=decide (xs=ys):=by
 by_cases h:xs=ys
 . subst h;simp
 . rw[zu h]
   by_cases hl:xs.length=ys.length
   . have:∃j,j<xs.length/\xs.getD j 0≠ys.getD j 0:=by
      apply zAm
      intro hn
      refine h (List.ext_getElem hl fun j h1 h2=>?_)
      apply zAm
      intro hne
      exact hn ⟨j,h1,by simpa [zF,h1,h2] using hne⟩
     obtain⟨j,hj,hne⟩:=this
     rw[Bool.and_eq_false_iff]
     left
     rw[List.all_eq_false]
     exact⟨j,by rw[zBG];omega,by simpa using hne⟩
   . simp[hl]
section
variable {X:Cx}
theorem eqAts {A:Around}{us ws:List Value}{xs ys:List Int}(h1:IntsAre us xs)(h2:IntsAre ws ys)(j:Nat)(a:j<us.toArray.size)(b:j<ws.toArray.size):SeqAt.EqAt A s us.toArray[j] ws.toArray[j] (xs.getD j 0==ys.getD j 0):=by
 have l1:=h1.length
 have l2:=h2.length
 rw[zN] at a b
 obtain⟨n,hn⟩:∃n,xs[j]? = some n:=⟨_,zD (by omega)⟩
 obtain⟨m,hm⟩:∃m,ys[j]? = some m:=⟨_,zD (by omega)⟩
 obtain⟨t,ht⟩:=h1.get j n hn
 obtain⟨u,hu⟩:=h2.get j m hm
 have e1:us.toArray[j] = .int n t:=by
  rw[zD a] at ht
  simpa using zX ht
 have e2:ws.toArray[j] = .int m u:=by
  rw[zD b] at hu
  simpa using zX hu
 rw[e1,e2,zF,zF,hn,hm]
 exact SeqAt.EqAt.int_int n t m u
end
noncomputable def zFT (scope:Scope)(yc:Str)(cl:List (Str×Addr))(C:Addr)(env:Env):Env:=
 { scope:=relabel scope env,locals:=C,globals:=env.globals,cells:=(yc,C+1)::cl,qual:=env.qual,func:=none,code:=env.code,frame:=env.frame,builtins:=env.builtins }
variable {cl:List (Str×Addr)}
theorem zKK {M:Model}{A:Around}{E:vSP}{scope:Scope}{globals:Addr}{yc:Str}{env:Env}{Q:Env->Shared->Prop}(hcf:∀n acc,cellsFrom n scope.names acc=(yc,n)::acc)
 (hQ:∀h':Heap,h'.Ns s.heap.objs.size (fun _=>none)->(∀b o,s.heap.get? b=some o->h'.get? b=some o)->h'.IsCell (s.heap.objs.size+1) none ->
  Q (newEnv scope s.heap.objs.size globals ((yc,s.heap.objs.size+1)::cl) qual none .none (some env) builtinsNs) { s with heap:=h',toks:=s.toks }) :
 wpAny M A (newFunctionEnv scope globals cl [] qual none .none (some env)) Q E s:=by
 simp only[newFunctionEnv,Option.isSome_some,if_true]
 refine zA (wpAny_alloc ?_)
 refine zA (wpAny_layCells _ (fun name kind cells=>by cases hkc:kind==NameKind.cell <;> simp[hkc]) _ _ _ _ ?_)
 have ok:=cellsFrom_ok scope.names (s.heap.push { cls:=.type "dict",data:=.dict #[] }) (s.heap.objs.size+1) [] ⟨fun _ _ hm=>(nomatch hm),zBD⟩ (by rw[zAR];exact zI _)
 rw[zAR] at ok
 rw[show ({ s with heap:=s.heap.push { cls:=.type "dict",data:=.dict #[] } }:Shared).heap.objs.size=s.heap.objs.size+1 from zAR ..]
 rw[hcf] at ok ⊢
 refine zA ?_
 rw[List.forIn_nil]
 refine zC (zC ?_)
 exact hQ _ ((Heap.Ns.new s.heap (.type "dict")).keeps (pushCells_keeps _ _)) (fun b o e=>pushCells_keeps _ _ b o (zG _ e)) (ok.empty _ _ zZ).1
noncomputable def zCb (X:Cx)(pl:lPO)(N':List Str)(scope:Scope)(yc:Str)(fp:List Addr)(s3:Shared)(H3:Hp):Cx where
 prog:=X.prog
 w:=X.w
 K:=X.K
 mg:=X.mg
 base:=X.base
 A:=X.A
 N:=N'
 s₀:=s3
 H₀:=H3
 env:=zFT scope yc (zC5 X.env.cells scope.names []) s3.heap.objs.size X.env
 outer:=X.stack
 stack:=X.stack
 ex:=fp
 fn:=fun x=>x==yc
 calm:=X.calm
 pn:=pl
 xe:=fun _ _=>False
structure zDZ (X:Cx)(scope:Scope)(yc:Str):Prop where
 kind:scope.kind = .function
 cf:∀n acc,cellsFrom n scope.names acc=(yc,n)::acc
 own:scope.names.lookup yc=some .cell
 one:∀y∈scope.names,y.2 = .cell->y.1=yc
 names:∀y∈scope.names,y.2 = .local->scope.names.lookup y.1=some .local
 free:∀y∈scope.names,y.2 = .free->X.env.kindOf y.1=some .cell
section
variable {X:Cx}{pins:lPO}{σ:St}{H3:Hp}{s3:Shared}{scope:Scope}{fp:List Addr}{N' own cn:List Str}{ci:List Nat}{cv:List V}{yc:Str}
theorem look1 {n:Addr}(h:((yc,n)::cl).lookup x=some c):(x=yc/\c=n)\/(x≠yc/\cl.lookup x=some c):=by
 rw[zA7] at h
 cases hx:x==yc with
 | true=>rw[hx] at h;cases h;exact .inl ⟨by simpa using hx,rfl⟩
 | false=>rw[hx] at h;exact .inr ⟨by simpa using hx,h⟩
theorem zHG {n:Addr}(h:x≠yc):((yc,n)::cl).lookup x=cl.lookup x:=by
 rw[zA7,show (x==yc)=false by simpa using h]
theorem zGI (ok:X.Ok)(S:zDZ X scope yc){n:Addr}(h:(relabel scope X.env).names.lookup x=some .cell\/(relabel scope X.env).names.lookup x=some .free) :
 ∃c,((yc,n)::zC5 X.env.cells scope.names []).lookup x=some c:=by
 by_cases hxy:x=yc
 . subst hxy
   exact⟨n,by rw[zA7,beq_self_eq_true]⟩
 rw[zHG hxy]
 have e:(relabel scope X.env).names.lookup x=(scope.names.lookup x).map fun k=>if (k==NameKind.free && X.env.scope.kind == .function && X.env.kindOf x==some .cell)=true then NameKind.cell else k:=zB0 scope.names
 have hf:scope.names.lookup x=some .free:=by
  cases q:scope.names.lookup x with
  | none=>rw[e,q] at h;simp at h
  | some k=>
   by_cases hk:k = .free
   . rw[hk]
   . have hb:(k==NameKind.free)=false:=by simpa using hk
     rw[e,q] at h
     simp only[zAp,hb,Bool.false_and,zBP,if_false,zBc] at h
     rcases h with h | h
     . exact absurd (S.one _ (PySem.mem_of_lookup q) h) hxy
     . exact absurd h hk
 exact zC1 (ok.has x (.inl (S.free _ (PySem.mem_of_lookup hf) rfl))) scope.names [] (PySem.mem_of_lookup hf)
theorem zC0 (I:Inv X pins σ H3 s3){n:Addr}(h:((yc,n)::zC5 X.env.cells scope.names []).lookup x=some c):(x=yc/\c=n)\/(x≠yc/\X.env.cells.lookup x=some c/\c<s3.heap.objs.size):=by
 rcases look1 h with z | ⟨z,e⟩
 . exact .inl z
 . have e':=zCx e
   obtain⟨v,o,ho,_⟩:=I.cell x c e'
   exact .inr ⟨z,e',zQ ho⟩
theorem zKh (I:Inv X pins σ H3 s3)(S:zDZ X scope yc)(f:∀b∈fp,zGY X pins H3 b)(fz:∀b∈fp,b<s3.heap.objs.size):(zCb X (X.pn++pins) N' scope yc fp s3 H3).Ok where
 mod:=I.ok.mod
 kind:=S.kind
 glob:=I.ok.glob
 blt:=I.ok.blt
 above:=zI _
 inj:=fun x y c h1 h2=>by
  rcases zC0 I h1 with ⟨a,b⟩ | ⟨a,b,d⟩ <;> rcases zC0 I h2 with ⟨a',b'⟩ | ⟨a',b',d'⟩
  . rw[a,a']
  . rw[b] at d';exact absurd d' (Nat.not_lt.mpr (zBf _))
  . rw[b'] at d;exact absurd d (Nat.not_lt.mpr (zBf _))
  . exact I.ok.inj x y c b b'
 has:=fun x h=>zGI I.ok S h
 cab:=fun x c h e=>by
  have hx:x=yc:=by simpa using (show (x==yc)=true from h)
  rcases zC0 I e with ⟨_,b⟩ | ⟨a,_⟩
  . rw[b];exact zBf _
  . exact absurd hx a
 hd:=I.ok.hd
 frames:=I.ok.frames
 stk:=.inl rfl
 exf:=fun b hb=>⟨zT (fz b hb),fun x c h=>by
  have:=fz b hb
  rcases zC0 I h with ⟨_,d⟩ | ⟨_,d,_⟩
  . intro z
    rw[<-z,d] at this;exact absurd this (Nat.not_lt.mpr (zBf _))
  . exact (f b hb).2.2.2.2.1 x c d⟩
 bs:=I.bs
 bsz:=zAP I.ok.bsz I.sz
 noex:=fun b o e hb=>by
  rcases (f b hb).2.2.2.1 with z | z
  . exact I.ok.noex b o e z
  . exact absurd (zi (zQ e) (zAP I.ok.bsz z)) (zBF _)
 exfs:=fun b hb z=>by
  rcases zV.mp (I.stkSub b z) with q | q
  . exact (f b hb).2.1 q
  . exact (f b hb).2.2.1 q
 funs:=I.stack
 frf:=I.stkFree
theorem zJK {h1:Heap}{t:Nat}(I:Inv X pins σ H3 s3)(S:zDZ X scope yc)(f:∀b∈fp,zGY X pins H3 b)(fz:∀b∈fp,b<s3.heap.objs.size)
 (hN:N'=own++cn)(hc:zEY X scope cn ci)(hv:ci.map (fun j=>σ[j]?)=cv.map fun v=>some (some v))(hl:cn.length=ci.length)
 (hns:h1.Ns s3.heap.objs.size (fun _=>none))(hk:∀b o,s3.heap.get? b=some o->h1.get? b=some o)(hcl:h1.IsCell (s3.heap.objs.size+1) none) :
 Inv (zCb X (X.pn++pins) N' scope yc fp s3 H3) [] (List.replicate own.length none++cv.map some) H3 { s3 with heap:=h1,toks:=t }:=by
 have lenv:cv.length=ci.length:=by
  have:=congrArg List.length hv
  simpa using this.symm
 refine⟨zKh I S f fz,rfl,I.bare,Un.kept hk,⟨_,hns,fun i x v e1 e2 e3=>?_⟩,fun x c e=>?_,I.hok.fresh (zI _),fun x c e=>?_,fun p hp=>?_,I.hok.kept hk,?_⟩
 . -- a captured name
   have hi:own.length<=i:=by
    by_cases hi:own.length<=i
    . exact hi
    . rw[zh (by simpa using hi),zBX] at e2
      split at e2 <;> cases e2
   rw[za (by simpa using hi),zAY,zP] at e2
   have e1':(own++cn)[i]? = some x:=by rw[<-hN];exact e1
   rw[za hi] at e1'
   obtain⟨j,hj,hNj,hkx,hfr⟩:=hc.get e1'
   have hcv:cv[i-own.length]? = some v:=by
    cases q:cv[i-own.length]? with
    | none=>rw[q] at e2;cases e2
    | some v'=>rw[q] at e2;cases e2;rfl
   have hσ:σ[j]? = some (some v):=by
    have:=congrArg (fun l:List (Option (Option V))=>l[i-own.length]?) hv
    simp only[zP,hj,hcv,zAp,zBc] at this
    exact this
   obtain⟨m,_,hl'⟩:=I.loc
   obtain⟨u,r,q⟩:=hl' j x v hNj hσ (.inr (.inl hkx))
   have hkd:(relabel scope X.env).names.lookup x=some .cell\/(relabel scope X.env).names.lookup x=some .free:=by
    have e:(relabel scope X.env).names.lookup x=(scope.names.lookup x).map fun k=>if (k==NameKind.free && X.env.scope.kind == .function && X.env.kindOf x==some .cell)=true then NameKind.cell else k:=zB0 scope.names
    rw[e,hfr,zAp]
    by_cases cc:(NameKind.free==NameKind.free && X.env.scope.kind == .function && X.env.kindOf x==some .cell)=true
    . rw[if_pos cc];exact .inl rfl
    . rw[if_neg cc];exact .inr rfl
   obtain⟨c',hc'⟩:=zGI (n:=s3.heap.objs.size+1) I.ok S hkd
   have hxy:x≠yc:=fun z=>by rw[z,S.own] at hfr;cases hfr
   refine⟨u,r,.inr ⟨hkd,c',hc',?_⟩⟩
   rcases q with ⟨z,_⟩ | ⟨_,c,hcc,o,ho,hd⟩
   . rw[hkx] at z;cases z
   . have e:c=c':=zX (hcc.symm.trans (zCx ((zHG hxy).symm.trans hc')))
     subst e
     exact⟨o,hk c o ho,hd⟩
 . rcases zC0 I e with ⟨_,d⟩ | ⟨_,d,_⟩
   . rw[d];exact⟨_,hcl⟩
   . obtain⟨v,o,ho,hd⟩:=I.cell x c d
     exact⟨v,o,hk c o ho,hd⟩
 . rcases zC0 I e with ⟨_,d⟩ | ⟨_,d,_⟩
   . rw[d];exact I.hok.fresh (zBf _)
   . exact I.freeC x c d
 . have hp':p∈X.pn++pins:=by rw[zt] at hp;exact hp
   obtain⟨e,n,ne,nf,d⟩:=I.pin p hp'
   refine⟨hk _ _ e,n,zT (zQ e),fun z=>?_,d⟩
   rcases zV.mp (I.stkSub p.1 z) with q | q
   . exact ne q
   . exact nf q
 . show (List.replicate own.length none++cv.map some).length=N'.length
   rw[hN,zO,zO,zAY,zB,lenv,hl]
theorem zHk {elt target iter:Expr}{ifs:List Expr}{cpos:Pos}{wi:TI}{g:TG}{ti:TT}{te:TE}{use:Option (Value->Sem Unit)}{Q0:vSP}{Q:VK}(hcalm:X.calm=true)(S:zDZ X scope yc)(hc:zEY X scope cn ci)(hl:cn.length=ci.length)
 (hi:PI X target iter wi)(hg:∀pl fp s3 H3,PG (zCb X pl (own++cn) scope yc fp s3 H3) target g)(ht:∀pl fp s3 H3,PTs (zCb X pl (own++cn) scope yc fp s3 H3) ifs ti)
 (he:∀pl fp s3 H3,PE (zCb X pl (own++cn) scope yc fp s3 H3) elt te)(hs:∀x,foldedSetIterable iter X.env x=pure x)(I:Inv X pins σ H s)(h:zHx own.length ci wi g ti te σ H Q)
 (fin:∀(D C:Addr)(H5:Hp)(s6:Shared)(m6:sOV),Inv X pins σ H5 s6->s6.heap.Ns C m6->H5 C=none->C≠X.env.locals->X.s₀.heap.objs.size<=C->(∀x c,X.env.cells.lookup x=some c->c≠C) ->
  (∀p∈X.pn++pins,p.1≠C)->Q (.ref D) H5->compPost (model X.prog X.w) X.A X.xe use Q0 (.ref D) C (.ok .next) s6) :
 wpAny (model X.prog X.w) X.A (comprehension (.ListComp elt [⟨target,iter,ifs,0⟩] scope pos) scope X.env cpos (newList []) false (eval iter X.env) use) Q0 X.xe s:=by
 have hcl:closureFor scope X.env=pure (zC5 X.env.cells scope.names []):=zCm fun y hy hf=>I.ok.has y.1 (.inl (S.free y hy hf))
 refine wpAny_comprehension_free (use:=use) rfl hs hcl S.kind S.names ?_
 refine thn (hi pins s σ H _ I h) fun v s1 h1=>thn h1 fun itv s2 h2=>?_
 obtain⟨it,fp,tn,J,H2,e,I2,T,st2,f2,cv,hv,hD⟩:=h2
 subst e
 have lenv:cv.length=ci.length:=by
  have:=congrArg List.length hv
  simpa using this.symm
 have I3:=I2.lnew (ys:=[]) (its:=[]) (t':=s2.toks) .nil (zg _)
 obtain⟨W,⟨m0,w0⟩,turn⟩:=hD s2.heap.objs.size I2.fresh
 have fz:∀b∈fp,b<s2.heap.objs.size:=fun b hb=>by
  obtain⟨o,ho,_⟩:=T.obj _ _ st2 b hb
  exact zQ ho
 refine zv ?_
 refine zKK S.cf (fun h4 hns4 hk4 hc4=>?_)
 generalize hs3:({ s2 with heap:=s2.heap.push { cls:=.type "list",dict:=none,data:=.seq ([]:List Value).toArray } }:Shared)=s3 at hns4 hk4 hc4 ⊢
 have I3':Inv X pins σ (upd H2 s2.heap.objs.size (.lst [])) s3:=by rw[<-hs3];exact I3
 have hsz3:s3.heap.objs.size=s2.heap.objs.size+1:=by rw[<-hs3];exact zAR ..
 have k23:∀b o,s2.heap.get? b=some o->s3.heap.get? b=some o:=fun b o e=>by rw[<-hs3];exact zG _ e
 have k34:∀b o,s3.heap.get? b=some o->h4.get? b=some o:=hk4
 have nD:∀b∈fp,b≠s2.heap.objs.size:=fun b hb=>zT (fz b hb)
 have f3:∀b∈fp,zGY X pins (upd H2 s2.heap.objs.size (.lst [])) b:=fun b hb=>⟨by rw[zk (nD b hb)];exact (f2 b hb).1,(f2 b hb).2⟩
 have fz3:∀b∈fp,b<s3.heap.objs.size:=fun b hb=>by rw[hsz3];exact zAl (fz b hb)
 have I4:Inv (zCb X (X.pn++pins) (own++cn) scope yc fp s3 (upd H2 s2.heap.objs.size (.lst []))) [] (List.replicate own.length none++cv.map some) (upd H2 s2.heap.objs.size (.lst [])) { s3 with heap:=h4,toks:=s3.toks }:=
  zJK I3' S f3 fz3 rfl hc hv hl hns4 k34 hc4
 have st4:tn 0 h4:=T.keep _ _ _ st2 fun b hb o e=>k34 b o (k23 b o e)
 generalize hX:zCb X (X.pn++pins) (own++cn) scope yc fp s3 (upd H2 s2.heap.objs.size (.lst []))=X' at I4
 have hg':PG X' target g:=by rw[<-hX];exact hg _ _ _ _
 have ht':PTs X' ifs ti:=by rw[<-hX];exact ht _ _ _ _
 have he':PE X' elt te:=by rw[<-hX];exact he _ _ _ _
 have ePr:X'.prog=X.prog:=by rw[<-hX];rfl
 have eW:X'.w=X.w:=by rw[<-hX];rfl
 have eK:X'.K=X.K:=by rw[<-hX];rfl
 have eA:X'.A=X.A:=by rw[<-hX];rfl
 have eE:X'.env=zFT scope yc (zC5 X.env.cells scope.names []) s3.heap.objs.size X.env:=by rw[<-hX];rfl
 have eXe:X'.xe=fun _ _=>False:=by rw[<-hX];rfl
 have eC:X'.calm=true:=by rw[<-hX];exact hcalm
 have eex:X'.ex=fp:=by rw[<-hX];rfl
 have epn:X'.pn=X.pn++pins:=by rw[<-hX];rfl
 have es0:X'.s₀=s3:=by rw[<-hX];rfl
 have eH0:X'.H₀=upd H2 s2.heap.objs.size (.lst []):=by rw[<-hX];rfl
 have efs:X'.fs=frs X.stack:=by rw[<-hX];rfl
 have ok':=I4.ok
 have stat:∀{H':Hp},(∀b∈fp,H' b=none)->∀b∈fp,zGY X' [] H' b:=fun hn b hb=>by
  have hb':b∈X'.ex:=by rw[eex];exact hb
  refine⟨hn b hb,(ok'.exf b hb').1,ok'.exfs b hb',.inl hb',(ok'.exf b hb').2,fun p hp=>?_⟩
  rw[epn,zt] at hp
  exact (f2 b hb).2.2.2.2.2 p hp
 have wk:∀(σ2:St),(σ2.length=own.length+cv.length/\σ2.drop own.length=cv.map some)->∀{pl:lPO}{H':Hp}{s':Shared},Inv X' pl σ2 H' s'->Inv X' pl (List.replicate own.length none++cv.map some) H' s':=fun σ2 hq pl H' s' I'=>by
  refine I'.weak (by rw[hq.1,zO,zAY,zB]) fun i v hi=>?_
  by_cases hlt:i<own.length
  . rw[zh (by simpa using hlt),zBX] at hi
    split at hi <;> cases hi
  . rw[za (by simpa using hlt),zAY,<-hq.2,List.getElem?_drop] at hi
    rw[show own.length+(i-own.length)=i by omega] at hi
    exact hi
 have loop:codeAny (model X.prog X.w) X.A (.compLoop (.ListComp elt [⟨target,iter,ifs,0⟩] scope pos) 0 (.ref it) (.ref s2.heap.objs.size) (zFT scope yc (zC5 X.env.cells scope.names []) s3.heap.objs.size X.env))
  (compPost (model X.prog X.w) X.A X.xe use Q0 (.ref s2.heap.objs.size) s3.heap.objs.size) { s3 with heap:=h4,toks:=s3.toks }:=by
  refine zDh (fun n s'=>∃i ys H',Inv X' [] (List.replicate own.length none++cv.map some) H' s'/\tn i s'.heap/\(∀b∈fp,H' b=none)/\W i n ys H') ?_ m0
   ⟨0,[],_,I4,st4,fun b hb=>(f3 b hb).1,w0⟩
  rintro n s5 ⟨i,ys,H5,I5,st5,fr5,w5⟩
  rcases turn i n ys H5 w5 with ⟨stop,qn⟩ | ⟨go,hsz,N,hN,step⟩
  . have d:=T.done X' ePr eW eK eC i [] s5 _ H5 (fun _ _=>False) I5 (stat fr5) st5 stop
    rw[eA] at d
    refine thn d fun r s6 ⟨hr,I6⟩=>?_
    subst hr
    obtain⟨m6,hn6,_⟩:=I6.loc
    rw[eE] at hn6
    have hn6':s6.heap.Ns s3.heap.objs.size m6:=hn6
    have un6:Un (frs X.stack) fp (upd H2 s2.heap.objs.size (.lst [])) H5 s3.heap s6.heap:=by
     have b6:=I6.base
     rw[efs,eex,eH0,es0] at b6
     exact b6
    have os6:s6.os=s3.os:=by have o6:=I6.os;rw[es0] at o6;exact o6
    have hok6:HOk X.prog X.w H5 s6.heap:=by have o6:=I6.hok;rw[ePr,eW] at o6;exact o6
    have I7:Inv X pins σ H5 s6:=I3'.call' (ch:=fp) os6 un6 hok6 I6.bare fun b hb=>⟨(f2 b hb).2.2.2.1,(f2 b hb).2.1,(f2 b hb).2.2.2.2.1,(f2 b hb).2.2.2.2.2⟩
    have fr6:H5 s3.heap.objs.size=none:=by
     have q:=I6.free
     rw[eE] at q
     exact q
    refine fin s2.heap.objs.size s3.heap.objs.size H5 s6 m6 I7 hn6' fr6 (zAG I3'.lt) I3'.sz (fun x c e=>?_) (fun p hp=>?_) qn
    . obtain⟨_,o,ho,_⟩:=I3'.cell x c e
      exact zT (zQ ho)
    . exact zT (zQ (I3'.pin p hp).1)
  . have d:=T.item X' ePr eW eK eC i [] s5 _ H5 (fun _ _=>False) I5 (stat fr5) st5 go
    rw[eA] at d
    refine thn d fun r s6 ⟨u,hr,h6⟩=>?_
    subst hr
    refine thn h6 fun _ s7 ⟨x,H7,I7,r7,y7,st7,fr7⟩=>?_
    have I7':=I7.pinned (stat fr7) (T.obj _ _ st7)
    have g7:=hg' _ s7 _ H7 x u _ I7' r7 (step x H7 y7)
    rw[ePr,eW,eA,eE,eXe] at g7
    refine thn g7 fun _ s8 ⟨σ8,H8,I8,q8,ti8⟩=>?_
    have t8:=ht' _ s8 σ8 H8 _ I8 ti8
    rw[ePr,eW,eA,eE,eXe] at t8
    refine thn t8 fun ok s9 ⟨H9,I9,q9⟩=>?_
    have again:∀{ys':List V}{H':Hp}{s':Shared},Inv X' ([]++zEq fp s7.heap) σ8 H' s'->N ys' H' ->
     ∃m,m<n/\∃i ys H',Inv X' [] (List.replicate own.length none++cv.map some) H' s'/\tn i s'.heap/\(∀b∈fp,H' b=none)/\W i m ys H':=fun {ys' H' s'} I' n'=>by
     obtain⟨m',hm,w'⟩:=hN ys' H' n'
     refine⟨m',hm,i+1,ys',H',(wk σ8 q8 I').unpinned,T.keep _ _ _ st7 fun b hb o e=>(I'.pin (b,o) (ze _ (ze _ (zCP hb e)))).1,fun b hb=>?_,w'⟩
     obtain⟨o,e,_⟩:=T.obj _ _ st7 b hb
     exact (I'.pin (b,o) (ze _ (ze _ (zCP hb e)))).2.1
    cases ok with
    | false=>exact again I9 q9
    | true=>
     have e9:=he' _ s9 σ8 H9 _ I9 q9
     rw[ePr,eW,eA,eE,eXe] at e9
     refine thn e9 fun u10 s10 ⟨y,H10,I10,r10,hD10,n10⟩=>?_
     have a10:=zBr (X:=X') _ s10 σ8 H10 (.ref s2.heap.objs.size) [y] (.ref s2.heap.objs.size) [u10] (fun _ H'=>N (ys++[y]) H') I10 rfl (.cons r10 .nil) ⟨_,_,_,rfl,rfl,hD10,hsz,n10⟩
     rw[ePr,eW,eA,eXe] at a10
     exact thn a10 fun _ s11 ⟨_,H11,I11,_,n11⟩=>again I11 n11
 exact codeAny_compStart_list loop (T.self X.A 0 _ _ _ st4 loop)
theorem zJ4 {elt target iter:Expr}{ifs:List Expr}{pos pos' cpos:Pos}{wi:TI}{g:TG}{ti:TT}{te:TE}{i:Nat}{x:Str}(hN:X.N.Nodup)(hix:X.N[i]? = some x)(hx:Loc X.env.scope x)(hcalm:X.calm=true)(S:zDZ X scope yc)(hc:zEY X scope cn ci)(hl:cn.length=ci.length)
 (hi:PI X target iter wi)(hg:∀pl fp s3 H3,PG (zCb X pl (own++cn) scope yc fp s3 H3) target g)(ht:∀pl fp s3 H3,PTs (zCb X pl (own++cn) scope yc fp s3 H3) ifs ti)
 (he:∀pl fp s3 H3,PE (zCb X pl (own++cn) scope yc fp s3 H3) elt te)(hs:∀x,foldedSetIterable iter X.env x=pure x:=by intro _;rfl)
 (hsw:swapsWith (.ListComp elt [⟨target,iter,ifs,0⟩] scope cpos) (some (.Name x pos')) pos.line X.env=pure true:=by rfl)
 (hf:X.fn x=true\/X.env.scope.names.lookup x=some .local:=by first | exact .inl rfl | exact .inr rfl | assumption) :
 PS X (.Assign [.Name x pos'] (.ListComp elt [⟨target,iter,ifs,0⟩] scope cpos) pos) (tAsg (zHx own.length ci wi g ti te) (zKV i)):=by
 intro pins s σ H D I h
 rw[exec_Assign_Name_used _ _ _ _ hsw]
 refine zA (wpAny_standAt (zA ?_))
 show wpAny _ X.A (do let _ <-comprehension (.ListComp elt [⟨target,iter,ifs,0⟩] scope cpos) scope X.env _ (newList []) false (eval iter X.env) (some (assign (.Name x pos') X.env))) _ _ s
 refine zA (zAz (zHk (use:=some (assign (.Name x pos') X.env)) (Q0:=fun _ s'=>SP X pins D .next s') hcalm S hc hl hi hg ht he hs I h (fun D' C H5 s6 m6 I7 hn fr nL ge nC nP q=>?_)) (fun _ s' hq=>zC (zC hq)) fun _ _ e=>e)
 obtain⟨oC,es,ep,hoC,hd,r1⟩:=hn
 have nf:C∉X.fs:=fun hb=>by
  obtain⟨_,o,ho,_⟩:=I7.ok.funs.mem hb
  exact absurd (zi (zQ ho) ge) (zBF _)
 have I7':Inv X (pins++[(C,oC)]) σ H5 s6:=I7.pins_of fun p hp=>by
  rcases zm.mp hp with z | z
  . exact I7.pin p (ze _ z)
  . rw[zf.mp z]
    exact⟨hoC,fr,nL,nf,fun v e=>by rw[hd] at e;cases e⟩
 show wpAny _ X.A (assign (.Name x pos') X.env (.ref D')) _ _ s6
 refine wpAny_assign_Name (zCh I7' hN hix hx (show zBy (.ref D') (.ref D') from rfl) (fun s' I'=>?_) hf)
 have hC':=(I'.pin (C,oC) (ze _ (ze _ (zf.mpr rfl)))).1
 refine⟨m6,⟨oC,es,ep,hC',hd,r1⟩,fun h' hs'=>⟨_,H5,?_,q⟩⟩
 have I2:Inv X pins (σ.set i (some (.ref D'))) H5 s':=I'.pins_of fun p hp=>I'.pin p (ze _ (zAe _ hp))
 exact I2.turned (t':=s'.toks) (it:=C) (fun b o hb e=>hs'.extBut b o hb e) fr nL (.inr ge) nC nP
end
noncomputable def cscOk1 (outer inner:Scope)(yc:Str):Bool:=inner.names.all fun y=>(y.2 != .cell || y.1==yc) && (y.2 != .local || inner.names.lookup y.1==some .local) && (y.2 != .free || outer.names.lookup y.1==some .cell)
theorem csc1 {X:Cx}{scope:Scope}{yc:Str}(hk:scope.kind = .function)(hcf:∀n acc,cellsFrom n scope.names acc=(yc,n)::acc)(ho:scope.names.lookup yc=some .cell)(h:cscOk1 X.env.scope scope yc=true):zDZ X scope yc:=by
 have a:=zBo.mp h
 refine⟨hk,hcf,ho,fun y hy e=>?_,fun y hy e=>?_,fun y hy e=>?_⟩
 . have:=a y hy
   rw[e] at this
   simpa using this
 . have:=a y hy
   rw[e] at this
   simpa using this
 . have:=a y hy
   rw[e] at this
   have h2:X.env.scope.names.lookup y.1=some .cell:=by simpa using this
   exact h2
noncomputable def zLb (ta:TA):TE:=fun σ H Q=>ta σ H fun vs H1=>∃j:Int,vs=[.int j]/\0<=j/\j<=1000/\∀l,H1 l=none->Q (.ref l) (upd H1 l (.lst ((WM.lowTo j.toNat).map V.int)))
theorem zJi:∀(vs:List Value)(n:Nat),vs.length=n->(∀(j:Nat)(v:Value),vs[j]? = some v->∃t,v = .int (0+(j:Int)*1) t)->zBL ((WM.lowTo n).map V.int) vs:=by
 have key:∀(vs:List Value)(a:Nat),(∀(j:Nat)(v:Value),vs[j]? = some v->∃t,v = .int ((a+j:Nat):Int) t)->zBL ((List.range' a vs.length).map fun (i:Nat)=>V.int (i:Int)) vs:=by
  intro vs
  induction vs with
  | nil=>intro _ _;exact .nil
  | cons v r ih=>
   intro a h
   obtain⟨t,ht⟩:=h 0 v rfl
   rw[zn,List.range'_succ,zAX]
   refine .cons ⟨t,by rw[ht];rfl⟩ (ih (a+1) fun j u hj=>?_)
   obtain⟨t',ht'⟩:=h (j+1) u hj
   exact⟨t',by rw[ht'];congr 1;omega⟩
 intro vs n e h
 subst e
 have:=key vs 0 fun j v hj=>by
  obtain⟨t,ht⟩:=h j v hj
  exact⟨t,by rw[ht];congr 1;omega⟩
 unfold WM.lowTo
 rw[List.map_map,List.range_eq_range']
 exact this
section
variable {X:Cx}
theorem zIY {a:Expr}{ta:TA}{p1 p2 pos1 pos2:Pos}(hc:X.calm=true)(hgL:Gl X "list") (hmL:X.mg "list" = none) (hgR:Gl X "range") (hmR:X.mg "range" = none) (ha:PA X [a] ta)(hs:starEach [a] X.env=[(false,eval a X.env)]:=by rfl)
 (he:starEach [.Call (.Name "range" p2) [a] [] pos2] X.env=[(false,eval (.Call (.Name "range" p2) [a] [] pos2) X.env)]:=by rfl):PE X (.Call (.Name "list" p1) [.Call (.Name "range" p2) [a] [] pos2] [] pos1) (zLb ta):=by
 intro pins s σ H Q I h
 refine zBM (zCp I hgL hmL (by decide +kernel:bootBuiltins "list" = some (.type "list")) ?_ (by decide) (by decide))
 refine PyProof.Rows.callWith_type1 ?_ he rfl
 rw[he]
 refine Calls.spliced_cons ?_
 refine Call_ (zCp I hgR hmR boot_range (PyProof.Rows.callWith_type1 (thn (ha pos2 pins s σ H _ I h) fun us s1 ⟨vs,H1,I1,r1,q1⟩=>?_) hs rfl))
 obtain⟨j,e,h0,h1,q⟩:=q1
 subst e
 cases r1 with
 | cons r rr=>
  cases rr
  obtain⟨t,rfl⟩:=r
  refine call_range_1 ?_
  refine Calls.spliced_nil ?_
  have hz:Builtin.Range.rangeSize 0 j 1=(j.toNat:Int):=by rw[rangeSize_one];split <;> omega
  refine call_list_range (I.ok.hd hc) (IsRange.new ..) (small_one (by omega) (by omega) (by omega) (by omega)) hz (by omega) fun h' tk acc c' kp hD hI=>?_
  have kp1:∀b o,s1.heap.get? b=some o->h'.get? b=some o:=fun b o e=>kp b o (zG _ e)
  have rv:zBL ((WM.lowTo j.toNat).map V.int) acc.toList:=zJi acc.toList _ (by rw[Array.length_toList];exact hI.1) fun i v hi=>hI.2 i v (by rw[<-hi,Array.getElem?_toList])
  have hsz:s1.heap.objs.size<=(s1.heap.push { cls:=.type "range",data:=.fields #[.int 0 s1.toks,.int j t,.int 1 (s1.toks+1)] }).objs.size:=by rw[zAR];exact zBf _
  refine⟨.ref _,_,I1.laid (t':=tk) kp1 hsz (show zBK X.prog X.w _ h' _ (.lst ((WM.lowTo j.toNat).map V.int)) from ⟨?_,acc.toList,c',rv,by rw[Array.toArray_toList];exact hD⟩),rfl,q _ (I1.hok.fresh hsz)⟩
  rw[zB,WM.lowTo,zB,zAV]
  have:sizeLine=16777216:=rfl
  omega
theorem zGK:zCg X (.builtin "sorted") (fun xs H Q=>∃(p:Addr)(ns:List Int),xs=[.ref p]/\SqL X.K H p (ns.map V.int)/\ns.length<64 /\
 ∀(l:Addr)(ms:List Int),H l=none->ms.Perm ns->ms.Pairwise (· <= ·)->Q (.ref l) (upd H l (.lst (ms.map V.int)))):=by
 intro pins s σ H xs us Q I r h
 obtain⟨p,ns,rfl,hq,h64,q⟩:=h
 obtain⟨u,rfl,rx⟩:=zC3 r
 cases rx
 obtain⟨its,r',pl,hz⟩:=I.list hq
 have hI:IntsAre its ns:=zBU r'
 have hl:=hI.length
 refine SortT.sorted_list (O:=intO) (key:=fun i=>ns.getD i 0) (κ:=oneType') pl.isList (by omega) (fun h2 s' a fa kp=>zES hI h2) fun D h' out c pt hD kp ho=>?_
 obtain⟨ms,hp,hr,rz,hlz⟩:=zFG hI pt
 refine⟨.ref D,_,zCy (t':=s.toks) I hD kp ho rz ?_,rfl,q D ms (I.hok.fresh hD) hp hr⟩
 have:sizeLine=16777216:=rfl
 rw[zB]
 omega
end
section
variable {X:Cx}{pl:lPO}{N':List Str}{sc:Scope}{fp:List Addr}{s3:Shared}{H3:Hp}
theorem zFU:zCg (zBs X pl N' sc fp s3 H3) (.builtin "len") (fun xs H Q=>∃p ys,xs=[.ref p]/\(SqL X.K H p ys\/SqT X.K H p ys)/\Q (.int ys.length) H):=zAS
end
section
variable {X:Cx}
noncomputable def rNeE (K:PySem.W.Frag):R2:=fun x y H Q=>∃(a b:Addr)(xs:List V),x = .ref a/\y = .ref b/\SqL K H a xs/\SqL K H b []/\Q (.bl (!xs.isEmpty)) H
noncomputable def rEqE (K:PySem.W.Frag):R2:=fun x y H Q=>∃(a b:Addr)(xs:List V),x = .ref a/\y = .ref b/\SqL K H a xs/\SqL K H b []/\Q (.bl xs.isEmpty) H
theorem zLE (hu:X.A.units<cLine):OpR X (compareOp .NotEq) (rNeE X.K):=by
 intro pins s σ H x y v u Q I rx ry h
 obtain⟨a,b,xs,rfl,rfl,ha,hb,q⟩:=h
 cases rx
 cases ry
 obtain⟨its,r,pl,hz⟩:=I.list ha
 obtain⟨its2,r2,pl2,hz2⟩:=I.list hb
 have l1:=r.length
 have l2:=r2.length
 cases xs with
 | nil=>
  refine PySem.EqBoolInt.of_rcne (SeqAt.RcNeAt.lists (e:=fun _=>true) pl.isList pl2.isList (by rw[zN,zN,<-l1,<-l2]) hu (fun j a b=>absurd a (by rw[zN,<-l1];exact zBz _))) ⟨.bl _,H,I,rfl,?_⟩
  rw[zN,<-l1]
  exact q
 | cons x xs=>
  refine PySem.EqBoolInt.of_rcne (SeqAt.RcNeAt.lists_lengths pl.isList pl2.isList (by rw[zN,zN,<-l1,<-l2];rfl) hu) ⟨.bl _,H,I,rfl,?_⟩
  exact q
theorem zIb (hu:X.A.units<cLine):OpR X (compareOp .Eq) (rEqE X.K):=by
 intro pins s σ H x y v u Q I rx ry h
 obtain⟨a,b,xs,rfl,rfl,ha,hb,q⟩:=h
 cases rx
 cases ry
 obtain⟨its,r,pl,hz⟩:=I.list ha
 obtain⟨its2,r2,pl2,hz2⟩:=I.list hb
 have l1:=r.length
 have l2:=r2.length
 cases xs with
 | nil=>
  refine SeqAt.eq_listAt (e:=fun _=>true) pl.isList pl2.isList (by rw[zN,zN,<-l1,<-l2]) hu (fun j a b=>absurd a (by rw[zN,<-l1];exact zBz _)) ⟨.bl _,H,I,rfl,?_⟩
  rw[zN,<-l1]
  exact q
 | cons x xs=>
  refine SeqAt.eq_list_lengthsAt pl.isList pl2.isList (by rw[zN,zN,<-l1,<-l2];rfl) hu ⟨.bl _,H,I,rfl,?_⟩
  exact q
end
end L2
namespace L2
open PySem PyProof.Rows
noncomputable def Kp (s0:Shared)(h:Heap):Prop:=∀b o,s0.heap.get? b=some o->h.get? b=some o
structure MinIt (prog:Program)(w:World)(A:Around)(s0:Shared)(I:Addr)(its:List Value)(itAt:Nat->Heap->Prop):Prop where
 stay:∀j h h',itAt j h->h'.get? I=h.get? I->itAt j h'
 next:∀(j:Nat)(h:Heap)(tk:Nat)(v:Value)(Q:Option Value->Shared->Prop)(E:vSP),Kp s0 h->itAt j h->its[j]? = some v ->
  (∀h',itAt (j+1) h'->(∀b,b≠I->h'.get? b=h.get? b)->Q (some v) { s0 with heap:=h',toks:=tk })->wpAny (model prog w) A (pyNext (.ref I)) Q E { s0 with heap:=h,toks:=tk }
 fin:∀(j:Nat)(h:Heap)(tk:Nat)(Q:Option Value->Shared->Prop)(E:vSP),Kp s0 h->itAt j h->its[j]? = none ->
  (∀h',(∀b o,b≠I->h.get? b=some o->h'.get? b=some o)->Q none { s0 with heap:=h',toks:=tk })->wpAny (model prog w) A (pyNext (.ref I)) Q E { s0 with heap:=h,toks:=tk }
section
variable {prog:Program}{w:World}{A:Around}{s0:Shared}{I S:Addr}{its:List Value}{itAt:Nat->Heap->Prop}
theorem Kp.upd {h:Heap}{f:Obj->Obj}(K:Kp s0 h)(hS:s0.heap.objs.size<=S):Kp s0 (h.update S f):=fun b o e=>by
 rw[Heap.get?_update_ne _ _ _ _ (zT (zi (zQ e) hS))];exact K b o e
theorem Kp.but {h h':Heap}(K:Kp s0 h)(hI:s0.heap.objs.size<=I)(k:∀b o,b≠I->h.get? b=some o->h'.get? b=some o):Kp s0 h':=fun b o e=>
 k b o (zT (zi (zQ e) hI)) (K b o e)
theorem zIn {R:Result->Shared->Prop}{kw:List (Str×Value)}(M:MinIt prog w A.in1 s0 I its itAt)(bt:Nat->Nat->Bool)(hS:s0.heap.objs.size<=S)(hI:s0.heap.objs.size<=I)(hSI:S≠I)
 (cmp:∀(i j:Nat)(vi vj:Value)(h:Heap)(tk:Nat)(Q E:vSP),Kp s0 h->its[i]? = some vi->its[j]? = some vj->Q (.bool (bt i j)) { s0 with heap:=h,toks:=tk }->wpAny (model prog w) A.in1 (richCompare .Lt vi vj) Q E { s0 with heap:=h,toks:=tk })
 (hR:∀(v:Value)(h:Heap)(tk:Nat),its[argBest bt (its.length-1)]? = some v->Kp s0 h->R (.ok (.ret v)) { s0 with heap:=h,toks:=tk })
 : ∀(r j:Nat)(h:Heap)(tk:Nat)(vb:Value)(c:Nat),its.length-(j+1)=r->j+1<=its.length->Kp s0 h->itAt (j+1) h->its[argBest bt j]? = some vb ->
  h.get? S=some { cls:=.type "list",data:=.seq #[vb,vb] c }->codeAny (model prog w) A (.builtin "min.loop" { pos:=[.ref I,.none,.ref S],kw:=kw }) R { s0 with heap:=h,toks:=tk }:=by
 intro r
 induction r with
 | zero=>
  intro j h tk vb c hr hj K hit hv hSo
  refine codeAny_builtin PySem.F.entry_min_loop ?_
  unfold Builtin.«min.loop»
  refine zA (zA0 hSo rfl ?_)
  dsimp only
  refine zA (wpAny_tryCatch (M.fin (j+1) h tk _ _ K hit (zAF (by omega)) fun h' k=>?_))
  have hS':=k S _ hSI hSo
  refine zA (wpAny_updateSeq hS' rfl (zA (wpAny_letGo (zC ?_))) (by show 2<=sizeLine;decide) (by show 0<=sizeLine+1;decide))
  refine hR vb _ tk ?_ ((K.but hI k).upd hS)
  rw[show its.length-1=j by omega];exact hv
 | succ r ih=>
  intro j h tk vb c hr hj K hit hv hSo
  obtain⟨x,hx⟩:∃x,its[j+1]? = some x:=⟨_,zD (by omega)⟩
  refine codeAny_builtin PySem.F.entry_min_loop ?_
  unfold Builtin.«min.loop»
  refine zA (zA0 hSo rfl ?_)
  dsimp only
  refine zA (wpAny_tryCatch (M.next (j+1) h tk x _ _ K hit hx fun h' hit' k=>?_))
  have K':Kp s0 h':=K.but hI fun b o hb e=>by rw[k b hb];exact e
  have hS':h'.get? S=some { cls:=.type "list",data:=.seq #[vb,vb] c }:=by rw[k S hSI];exact hSo
  refine zA (zC ?_)
  refine zA (wpAny_tryCatch (zx (zA (cmp (j+1) (argBest bt j) x vb h' tk _ _ K' hx hv ?_))))
  refine zA (zx (zBA (zA (wpAny_letGo (zC ?_)))))
  have eb:argBest bt (j+1)=if bt (j+1) (argBest bt j)=true then j+1 else argBest bt j:=argBest.eq_2 bt j
  cases e:bt (j+1) (argBest bt j) with
  | true=>
   rw[if_pos e] at eb
   refine zA (wpAny_updateSeq hS' rfl (zA (wpAny_letGo (zC ⟨rfl,?_⟩))) (by show 2<=sizeLine;decide) (by show 2<=sizeLine+1;decide))
   exact ih (j+1) _ tk x c (by omega) (by omega) (K'.upd hS) (M.stay _ _ _ hit' (Heap.get?_update_ne _ _ _ _ (Ne.symm hSI))) (by rw[eb];exact hx) (zAC _ hS' rfl)
  | false=>
   rw[e,if_neg (by decide)] at eb
   refine zA (wpAny_letGo (zC ⟨rfl,?_⟩))
   exact ih (j+1) h' tk vb c (by omega) (by omega) K' hit' (by rw[eb];exact hv) hS'
theorem zEu {R:Result->Shared->Prop}{d:Value}(M:MinIt prog w A.in1 s0 I its itAt)(bt:Nat->Nat->Bool)(hS:s0.heap.objs.size<=S)(hI:s0.heap.objs.size<=I)(hSI:S≠I)
 (cmp:∀(i j:Nat)(vi vj:Value)(h:Heap)(tk:Nat)(Q E:vSP),Kp s0 h->its[i]? = some vi->its[j]? = some vj->Q (.bool (bt i j)) { s0 with heap:=h,toks:=tk }->wpAny (model prog w) A.in1 (richCompare .Lt vi vj) Q E { s0 with heap:=h,toks:=tk })
 (hR:∀(v:Value)(h:Heap)(tk:Nat),its[argBest bt (its.length-1)]? = some v->Kp s0 h->R (.ok (.ret v)) { s0 with heap:=h,toks:=tk })
 (h0:its=[]->∀(h:Heap)(tk:Nat),Kp s0 h->R (.ok (.ret d)) { s0 with heap:=h,toks:=tk })
 (h:Heap)(tk:Nat)(c:Nat)(K:Kp s0 h)(hit:itAt 0 h)(hSo:h.get? S=some { cls:=.type "list",data:=.seq #[] c }) :
 codeAny (model prog w) A (.builtin "min.loop" { pos:=[.ref I,.none,.ref S],kw:=[(Str.ofString "default",d)] }) R { s0 with heap:=h,toks:=tk }:=by
 refine codeAny_builtin PySem.F.entry_min_loop ?_
 unfold Builtin.«min.loop»
 refine zA (zA0 hSo rfl ?_)
 dsimp only
 cases e:its with
 | nil=>
  subst e
  refine zA (wpAny_tryCatch (M.fin 0 h tk _ _ K hit rfl fun h' k=>?_))
  exact zA (zBm (zC (h0 rfl h' tk (K.but hI k))))
 | cons x xs=>
  have hx:its[0]? = some x:=by rw[e];rfl
  refine zA (wpAny_tryCatch (M.next 0 h tk x _ _ K hit hx fun h' hit' k=>?_))
  have K':Kp s0 h':=K.but hI fun b o hb e=>by rw[k b hb];exact e
  have hS':h'.get? S=some { cls:=.type "list",data:=.seq #[] c }:=by rw[k S hSI];exact hSo
  refine zA (zC ?_)
  refine zA (wpAny_updateSeq hS' rfl (zC ⟨rfl,?_⟩) (by show 0<=sizeLine;decide) (by show 2<=sizeLine+1;decide))
  refine zIn M bt hS hI hSI cmp hR (its.length-1) 0 _ tk x (c+1) rfl (by rw[e];simp) (K'.upd hS) (M.stay _ _ _ hit' (Heap.get?_update_ne _ _ _ _ (Ne.symm hSI))) hx (zAC _ hS' rfl)
end
theorem wpAny_of_eq {α:Type}{M:Model}{A:Around}{E:vSP}{s:Shared}{m m':Sem α}{Q:α->Shared->Prop}(e:m=m')(h:wpAny M A m' Q E s):wpAny M A m Q E s:=by subst e;exact h
theorem zET {O:KeyOrd}(ky:Nat->O.α):∀k,argBest (fun i j=>O.blt (ky i) (ky j)) k<=k/\∀j,j<=k->O.blt (ky j) (ky (argBest (fun i j=>O.blt (ky i) (ky j)) k))=false
 | 0=>⟨zI _,fun j hj=>by obtain rfl:j=0:=(by omega);exact O.irrefl _⟩
 | k+1=>by
  obtain⟨h1,h2⟩:=zET ky k
  rw[argBest.eq_2]
  cases e:O.blt (ky (k+1)) (ky (argBest (fun i j=>O.blt (ky i) (ky j)) k)) with
  | true=>
   rw[if_pos rfl]
   refine⟨zI _,fun j hj=>?_⟩
   by_cases c:j=k+1
   . subst c;exact O.irrefl _
   . cases e2:O.blt (ky j) (ky (k+1)) with
     | false=>rfl
     | true=>rw[<-h2 j (by omega)];exact (O.trans _ _ _ e2 e).symm
  | false=>
   rw[if_neg (by decide)]
   refine⟨by omega,fun j hj=>?_⟩
   by_cases c:j=k+1
   . subst c;exact e
   . exact h2 j (by omega)
theorem zGM {prog:Program}{w:World}{A:Around}{s:Shared}{p:Addr}{its:List Value}{d:Value}{Q E:vSP}(hA:A.handled=none)(bt:Nat->Nat->Bool)(hp:s.heap.IsList p its.toArray\/s.heap.IsTuple p its.toArray)
 (cmp:∀(i j:Nat)(vi vj:Value)(h:Heap)(tk:Nat)(Q E:vSP),Kp s h->its[i]? = some vi->its[j]? = some vj->Q (.bool (bt i j)) { s with heap:=h,toks:=tk }->wpAny (model prog w) A.in1 (richCompare .Lt vi vj) Q E { s with heap:=h,toks:=tk })
 (hR:∀(v:Value)(h:Heap)(tk:Nat),its[argBest bt (its.length-1)]? = some v->Kp s h->Q v { s with heap:=h,toks:=tk })
 (h0:its=[]->∀(h:Heap)(tk:Nat),Kp s h->Q d { s with heap:=h,toks:=tk }) :
 wpAny (model prog w) A (call (.builtin "min") [.ref p] [(Str.ofString "default",d)]) Q E s:=by
 refine zBb (codeAny_call_builtin PySem.F.plain_min PySem.F.entry_min (wpAny_of_eq (show checkBuiltinCall "min" { pos:=[.ref p],kw:=[(Str.ofString "default",d)] }=pure () from rfl) (zC ?_)))
 unfold Builtin.min
 refine zA (wpAny_of_eq (show Builtin.Builtins.bindParams "min" ["key", "default"] 0 { kw:=[(Str.ofString "default",d)] }=pure [none,some d] from rfl) (zC ?_))
 dsimp only
 refine zA (zC ?_)
 have kp0:∀(o1 o2:Obj),Kp s ((s.heap.push o1).push o2):=fun o1 o2 b o e=>zG _ (zG _ e)
 rcases hp with hp | hp
 . refine zA (wpAny_pyIter_list hp (zA (wpAny_newList (zC ⟨rfl,?_⟩) (by show 0<=sizeLine;decide))))
   have hSe:(s.heap.push { cls:=.type "list_iterator",data:=.fields #[.ref p,.int 0 0] }).objs.size=s.heap.objs.size+1:=zAR ..
   rw[hSe]
   refine zEu (s0:=s) (I:=s.heap.objs.size) (S:=s.heap.objs.size+1) (itAt:=fun j h=>h.IsListIter s.heap.objs.size p j) ⟨fun j h h' a e=>?_,fun j h tk v Q E K hit hv q=>?_,fun j h tk Q E K hit hv q=>?_⟩ bt (zBf _) (zI _) (Nat.succ_ne_self _) cmp hR h0 _ s.toks 0 (kp0 _ _) ?_ ?_
   . obtain⟨o,ho,hc⟩:=a
     exact⟨o,by rw[e];exact ho,hc⟩
   . obtain⟨o,ho,hc⟩:=hp
     exact wpAny_pyNext_list_item hit ⟨o,K _ _ ho,hc⟩ (by rw[zAZ];exact hv) fun h' a b=>q h' a fun c hc=>b.2 c hc
   . obtain⟨o,ho,hc⟩:=hp
     exact wpAny_pyNext_list_end hA hit ⟨o,K _ _ ho,hc⟩ (by rw[zAZ];exact hv) fun h' b=>q h' b
   . exact⟨_,zG _ (zL _ rfl),rfl,rfl⟩
   . rw[<-hSe];exact zL _ rfl
 . refine zA (wpAny_pyIter_tuple hp (zA (wpAny_newList (zC ⟨rfl,?_⟩) (by show 0<=sizeLine;decide))))
   have hSe:(s.heap.push { cls:=.type "tuple_iterator",data:=.fields #[.ref p,.int 0 0] }).objs.size=s.heap.objs.size+1:=zAR ..
   rw[hSe]
   refine zEu (s0:=s) (I:=s.heap.objs.size) (S:=s.heap.objs.size+1) (itAt:=fun j h=>h.IsTupleIter s.heap.objs.size p j) ⟨fun j h h' a e=>?_,fun j h tk v Q E K hit hv q=>?_,fun j h tk Q E K hit hv q=>?_⟩ bt (zBf _) (zI _) (Nat.succ_ne_self _) cmp hR h0 _ s.toks 0 (kp0 _ _) ?_ ?_
   . obtain⟨o,ho,hc⟩:=a
     exact⟨o,by rw[e];exact ho,hc⟩
   . obtain⟨o,ho,hc⟩:=hp
     exact wpAny_pyNext_tuple_item hit ⟨o,K _ _ ho,hc⟩ (by rw[zAZ];exact hv) fun h' a b=>q h' a fun c hc=>b.2 c hc
   . obtain⟨o,ho,hc⟩:=hp
     exact wpAny_pyNext_tuple_end hA hit ⟨o,K _ _ ho,hc⟩ (by rw[zAZ];exact hv) fun h' b=>q h' b
   . exact⟨_,zG _ (zL _ rfl),rfl,rfl⟩
   . rw[<-hSe];exact zL _ rfl
section
variable {X:Cx}
noncomputable def rMinD (K:PySem.W.Frag)(x dv:V)(H:Hp)(Q:VK):Prop:=∃(p:Addr)(ys:List V),x = .ref p/\(SqL K H p ys\/SqT K H p ys)/\(ys=[]->Q dv H) /\
 ((∃ks,zAW H ys ks/\∀(i:Nat)(y:V)(k:List Int),ys[i]? = some y->ks[i]? = some k->(∀k'∈ks,HT.lexLt k' k=false)->Q y H)\/(∃ns:List Int,ys=ns.map V.int/\∀n∈ns,(∀m∈ns,n<=m)->Q (.int n) H))
noncomputable def tMinD (K:PySem.W.Frag)(t:TA)(td:TE):TE:=fun σ H Q=>t σ H fun vs H1=>∃x,vs=[x]/\td σ H1 fun dv H2=>rMinD K x dv H2 Q
theorem zIX {e de:Expr}{t:TA}{td:TE}{pos np kpos:Pos}(hc:X.calm=true)(hu:X.A.units+1<cLine)(hg:Gl X "min") (hm:X.mg "min" = none) (he:PA X [e] t)(hd:PE X de td)
 (hs1:backTo pos (starEach [e] X.env)=(false,eval e X.env)::backTo pos (starEach [] X.env):=by rfl)(hs2:(backTo pos (starEach [e] X.env)).any (·.1)=false:=by rfl) :
 PE X (.Call (.Name "min" np) [e] [⟨some "default",de,kpos⟩] pos) (tMinD X.K t td):=by
 intro pins s σ H Q I h
 refine zBM (zCp I hg hm (by decide +kernel:bootBuiltins "min" = some (.builtin "min")) ?_)
 refine PyProof.Rows.callWith_kw (thn (he pos pins s σ H _ I h) fun us s1 ⟨vs,H1,I1,r,q1⟩=>?_) hs1 hs2
 obtain⟨x,rfl,q1⟩:=q1
 obtain⟨u,rfl,rx⟩:=zC3 r
 show wpAny _ _ (evalAll ((do let v <-eval de X.env;standAt pos;pure v)::[])) _ _ s1
 refine wpAny_evalAll_cons (zA (thn (hd pins s1 σ H1 _ I1 q1) fun ud s2 ⟨dv,H2,I2,rd,q2⟩=>zA (wpAny_standAt (zC (wpAny_evalAll_nil ?_)))))
 show wpAny _ _ (call (.builtin "min") [u] [(Str.ofString "default",ud)]) _ _ s2
 obtain⟨p,ys,rfl,hp,q0,hk⟩:=q2
 cases rx
 obtain⟨its,rv,hpp⟩:∃its:List Value,zBL ys its/\(s2.heap.IsList p its.toArray\/s2.heap.IsTuple p its.toArray):=by
  rcases hp with hp | hp
  . obtain⟨its,r',pl,_⟩:=I2.list hp
    exact⟨its,r',.inl pl.isList⟩
  . obtain⟨its,r',pl,_⟩:=I2.tuple hp
    exact⟨its,r',.inr pl⟩
 have hlen:=rv.length
 have e0:its=[]->ys=[]:=fun z=>zBW.mp (by rw[hlen,z];rfl)
 rcases hk with ⟨ks,T,q⟩ | ⟨ns,rfl,q⟩
 . have hl:=T.length
   refine zGM (I2.ok.hd hc) (fun i j=>zLL.blt (ks.getD i []) (ks.getD j [])) hpp (fun i j vi vj h tk Q E K hi hj q=>?_) (fun v h tk hv K=>?_) (fun z h tk K=>⟨dv,H2,I2.kept K,rd,q0 (e0 z)⟩)
   . have look:∀(i:Nat)(v:Value),its[i]? = some v->∃(p:Addr)(k:List Int)(us:List Value),v = .ref p/\ks[i]? = some k/\IntsAre us k/\IsTup h p us.toArray:=fun i v hv=>by
      have hi:i<ys.length:=by have:=(zK.mp hv).1;omega
      obtain⟨p,k,e1,e2,e3,_⟩:=T.get (i:=i) (x:=ys[i]) (by simp[hi])
      obtain⟨u,hu,ru⟩:=rv.get (i:=i) (x:=ys[i]) (by simp[hi])
      rw[hv] at hu;cases hu
      rw[e1] at ru
      cases (show v=Value.ref p from ru)
      obtain⟨_,us,rv',o,ho,hc⟩:=I2.hok p _ e3
      exact⟨p,k,us,rfl,e2,zBU rv',o,K _ _ ho,hc⟩
     obtain⟨p1,k1,us1,rfl,g1,i1,t1⟩:=look i vi hi
     obtain⟨p2,k2,us2,rfl,g2,i2,t2⟩:=look j vj hj
     refine HT.lt_tupInts (ns:=k1) (ms:=k2) t1 t2 i1 i2 hu ?_
     have:zLL.blt (ks.getD i []) (ks.getD j [])=HT.lexLt k1 k2:=by rw[zF,zF,g1,g2];rfl
     rw[<-this];exact q
   . obtain⟨b1,b2⟩:=zET (O:=zLL) (fun i=>ks.getD i []) (its.length-1)
     have hlt:=(zK.mp hv).1
     generalize eb:argBest (fun i j=>zLL.blt (ks.getD i []) (ks.getD j [])) (its.length-1)=bi at hv hlt b1 b2
     have hy:bi<ys.length:=by omega
     obtain⟨u,hu,ru⟩:=rv.get (i:=bi) (x:=ys[bi]) (by simp[hy])
     rw[hv] at hu;cases hu
     obtain⟨pa,k,e1,e2,e3,_⟩:=T.get (i:=bi) (x:=ys[bi]) (by simp[hy])
     refine⟨ys[bi],H2,I2.kept K,ru,q bi ys[bi] k (by simp[hy]) e2 fun k' hk'=>?_⟩
     obtain⟨j,hj,ej⟩:=zAL hk'
     have:=b2 j (by omega)
     have g1:ks.getD j []=k':=by rw[zF,zD hj,ej];rfl
     have g2:ks.getD bi []=k:=by rw[zF,e2];rfl
     rw[g1,g2] at this
     exact this
 . have hI:IntsAre its ns:=zBU rv
   have hl:=hI.length
   have look:∀(i:Nat)(v:Value),its[i]? = some v->∃t,v = .int (ns.getD i 0) t:=fun i v hv=>by
    have hi:i<ns.length:=by have:=(zK.mp hv).1;omega
    obtain⟨u,hu,ru⟩:=rv.get (i:=i) (x:=.int ns[i]) (by simp[hi])
    rw[hv] at hu;cases hu
    obtain⟨t,rfl⟩:=(show ∃t,v=Value.int ns[i] t from ru)
    exact⟨t,by rw[zF,zD hi];rfl⟩
   refine zGM (I2.ok.hd hc) (fun i j=>decide (ns.getD i 0<ns.getD j 0)) hpp (fun i j vi vj h tk Q E K hi hj q=>?_) (fun v h tk hv K=>?_) (fun z h tk K=>⟨dv,H2,I2.kept K,rd,q0 (e0 z)⟩)
   . obtain⟨t1,rfl⟩:=look i vi hi
     obtain⟨t2,rfl⟩:=look j vj hj
     exact PyProof.Rows.lt_int q
   . obtain⟨b1,b2⟩:=argBest_lt (fun i=>ns.getD i 0) (its.length-1)
     have hlt:=(zK.mp hv).1
     generalize eb:argBest (fun i j=>decide (ns.getD i 0<ns.getD j 0)) (its.length-1)=bi at hv hlt b1 b2
     obtain⟨t,rfl⟩:=look bi v hv
     have hy:bi<ns.length:=by omega
     refine⟨.int (ns.getD bi 0),H2,I2.kept K,⟨t,rfl⟩,q _ ?_ fun m hm=>?_⟩
     . rw[zF,zD hy];exact List.getElem_mem hy
     . obtain⟨j,hj,ej⟩:=zAL hm
       have:=b2 j (by omega)
       have g1:ns.getD j 0=m:=by rw[zF,zD hj,ej];rfl
       rw[g1] at this
       exact this
end
end L2
namespace L2
open PySem PySem.Spec PyProof.Rows
section
variable {X:Cx}
theorem zBE {x:Str}{T:String}{pos:Pos}(hm:X.mg x=none)(hg:Gl X x:=by rfl)(hv:bootBuiltins x=some (.type T):=by decide +kernel)(hn:x ≠ "__name__" := by decide) (hdb:(x==("__debug__" : Str))=false:=by decide):PE X (.Name x pos) (tC (.ty T)):=
 fun pins s σ H Q I h=>zCp I hg hm hv ⟨.ty T,H,I,rfl,h⟩ hn hdb
theorem zAK:zCg X (.builtin "isinstance") (fun xs H Q=>∃x T t b,xs=[x,.ty T]/\zGT X.K H x t/\PySem.W.kitOne X.K t (.type T)=some b/\Q (.bl b) H):=by
 intro pins s σ H xs us Q I r h
 obtain⟨x,T,t,b,rfl,ty,e,q⟩:=h
 obtain⟨u,w',rfl,rx,rT⟩:=zGZ r
 cases (show w'=Value.type T from rT)
 exact zIy I rx ty e fun tk=>⟨.bl b,H,I.tok tk,rfl,q⟩
theorem zGj {st:Stmt}:PS X st (fun _ _ _=>False):=fun _ _ _ _ _ _ h=>h.elim
end
section
variable {prog:Program}{w:World}{A:Around}{s0:Shared}{I l:Addr}{bs:List Bool}
theorem zKj {R:Result->Shared->Prop}(hA:A.handled=none)(hI:s0.heap.objs.size<=I)(hl:s0.heap.IsList l (bs.map Value.bool).toArray)
 (hR:∀(h:Heap)(tk:Nat),Kp s0 h->R (.ok (.ret (.bool (bs.all id)))) { s0 with heap:=h,toks:=tk }) :
 ∀(r j:Nat)(h:Heap)(tk:Nat),bs.length-j=r->j<=bs.length->Kp s0 h->h.IsListIter I l j->(bs.take j).all id=true ->
  codeAny (model prog w) A (.builtin "all.loop" { pos:=[.ref I] }) R { s0 with heap:=h,toks:=tk }:=by
 have hl':∀h,Kp s0 h->h.IsList l (bs.map Value.bool).toArray:=fun h K=>by
  obtain⟨o,ho,hc⟩:=hl
  exact⟨o,K _ _ ho,hc⟩
 intro r
 induction r with
 | zero=>
  intro j h tk hr hj K hit ha
  refine codeAny_builtin PySem.F.entry_all_loop ?_
  unfold Builtin.«all.loop»
  refine zA (wpAny_pyNext_list_end hA hit (hl' h K) (by rw[zAZ];exact zAF (by rw[zB];omega)) fun h' b=>?_)
  refine zA (zBm (zC ?_))
  rw[zY (by omega)] at ha
  have:=hR h' tk (K.but hI b)
  rw[ha] at this
  exact this
 | succ r ih=>
  intro j h tk hr hj K hit ha
  obtain⟨x,hx⟩:∃x,bs[j]? = some x:=⟨_,zD (by omega)⟩
  refine codeAny_builtin PySem.F.entry_all_loop ?_
  unfold Builtin.«all.loop»
  refine zA (wpAny_pyNext_list_item hit (hl' h K) (x:=.bool x) (by rw[zAZ,zP,hx];rfl) fun h' hit' b=>?_)
  have K':Kp s0 h':=K.but hI fun c o hc e=>by rw[b.2 c hc];exact e
  refine zA (zx (zBA (zA (wpAny_letGo ?_))))
  cases x with
  | true=>
   refine zC ⟨rfl,?_⟩
   exact ih (j+1) h' tk (by omega) (by omega) K' hit' (by rw[zAH,hx,List.all_append,ha];rfl)
  | false=>
   refine zA (zBm (zC ?_))
   have e:bs.all id=false:=by
    cases z:bs.all id with
    | false=>rfl
    | true=>have:=zBo.mp z false (zU hx);simp at this
   have:=hR h' tk K'
   rw[e] at this
   exact this
end
section
variable {X:Cx}
theorem zHO:∀{bs:List Bool}{its:List Value},zBL (bs.map V.bl) its->its=bs.map Value.bool
 | [],[],_=>rfl
 | b::bs,u::its,h=>by
  cases h with
  | cons h1 h2=>rw[zAX,<-zHO h2,show u=Value.bool b from h1]
 | [],_::_,h=>by cases h
 | _::_,[],h=>by cases h
theorem zC2 (hc:X.calm=true):zCg X (.builtin "all") (fun xs H Q=>∃(p:Addr)(bs:List Bool),xs=[.ref p]/\SqL X.K H p (bs.map V.bl)/\Q (.bl (bs.all id)) H):=by
 intro pins s σ H xs us Q I r h
 obtain⟨p,bs,rfl,hq,q⟩:=h
 obtain⟨u,rfl,rx⟩:=zC3 r
 cases rx
 obtain⟨its,r',pl,hz⟩:=I.list hq
 rw[zHO r'] at pl
 refine zBb (codeAny_call_builtin PySem.F.plain_all PySem.F.entry_all (wpAny_of_eq (m':=pure ()) rfl (zC ?_)))
 unfold Builtin.all
 refine zA (wpAny_of_eq (m':=pure (Value.ref p)) rfl (zC (zA (wpAny_pyIter_list pl.isList (zC ⟨rfl,?_⟩)))))
 refine zKj (s0:=s) (l:=p) (bs:=bs) (I.ok.hd hc) (zI _) pl.isList ?_ bs.length 0 _ s.toks rfl (zg _) (fun b o e=>zG _ e) ?_ rfl
 . exact fun h tk K=>⟨.bl _,H,I.kept K,rfl,q⟩
 . exact⟨_,zL _ rfl,rfl,rfl⟩
end
theorem zLo {prog:Program}{w:World}{h:Heap}(led:Bool):(h.push { cls:=.type "set",data:=.set #[] 0 (SetTable.fresh 0 0 led) }).SetOf (intKind prog w) h.objs.size (fun _=>false) 0:=by
 refine⟨_,#[],0,_,zL _ rfl,⟨rfl,rfl,rfl⟩,rfl,?_,fun k=>⟨fun z=>by simp at z,fun ⟨e,he,_⟩=>by simp at he⟩,by decide,?_,rfl⟩
 . first | exact ElemsOf.nil | trivial | (intro e he;simp at he)
 . cases led <;> first | rfl | decide +kernel
theorem zGu {prog:Program}{w:World}{A:Around}{s:Shared}{l:Addr}{its:List Value}{ns:List Int}{Q E:vSP}(hA:A.handled=none)(hl:s.heap.IsTuple l its.toArray)(hi:IntsAre its ns)(hz:its.length+1<scanBound)
 (q:∀(h:Heap)(tk:Nat),Kp s h->h.SetOf (intKind prog w) s.heap.objs.size (fun k'=>(firstMet (fun i=>ns.getD i 0) its.length).any fun x=>x==k') (firstMet (fun i=>ns.getD i 0) its.length).length->Q (.ref s.heap.objs.size) { s with heap:=h,toks:=tk }) :
 wpAny (model prog w) A (call (.type "set") [.ref l]) Q E s:=by
 refine zBb (codeAny_of_tree (zC ⟨Code.quiet_builtin _ (by decide +kernel),codeAny_builtin PySem.F.entry_type_call ?_⟩))
 unfold Builtin.«type.__call__»
 dsimp only
 rw[if_neg (by rw[PySem.F.called_set.notType];decide)]
 rw[if_neg (by rw[PySem.F.called_set.canCreate];decide)]
 obtain⟨c,tl,hm⟩:=PySem.F.called_set.mro
 refine zA (wpAny_of_eq (PySem.F.typeCall_set_1 _) (zC (zA (wpAny_of_eq hm (zC ?_)))))
 refine zA (wpAny_of_eq PySem.F.called_set.made (zC (zA (zC ?_))))
 refine zA (zx (zBb (codeAny_mono (code_set_new_1 (E:=E) (.ref l) (Q₁:=fun obj s₁=>obj = .ref s.heap.objs.size/\∃led,s₁={ s with heap:=s.heap.push { cls:=.type "set",data:=.set #[] 0 (SetTable.fresh 0 0 led) } }) fun led=>⟨rfl,led,rfl⟩) fun r s₁ e=>?_)))
 match r,e with
 | .ok (.ret obj),e=>
  obtain⟨rfl,led,rfl⟩:=e
  have h0:Kp s (s.heap.push { cls:=.type "set",data:=.set #[] 0 (SetTable.fresh 0 0 led) }):=fun b o e=>zG _ e
  have ht:∀h,Kp s h->h.IsTuple l its.toArray:=fun h K=>by
   obtain⟨o,ho,hr⟩:=hl
   exact⟨o,K _ _ ho,hr⟩
  have hlt:l<s.heap.objs.size:=by
   obtain⟨o,ho,_⟩:=hl
   exact zQ ho
  have tyS:Shared.TypeIs { s with heap:=s.heap.push { cls:=.type "set",data:=.set #[] 0 (SetTable.fresh 0 0 led) } } (.ref s.heap.objs.size) "set" := ⟨_,zL _ rfl,rfl⟩
  show wpAny _ _ _ _ _ _
  refine zA (zAj tyS PySem.F.called_set.sub ?_)
  refine zA (zx ?_)
  unfold callSpecial?
  refine zA (wpAny_specialOf tyS PySem.F.called_set.init.lookup (zx (zA (wpAny_of_eq (PySem.F.called_set.init.bind _) (zC (zA (zBb (codeAny_call_builtin PySem.F.called_set.init.plain PySem.F.entry_set_init (check_set_init_1 tyS ?_)))))))))
  unfold Builtin.«set.__init__»
  refine zA (wpAny_of_eq (m':=pure ()) rfl (zC ?_))
  dsimp only
  refine zA (zA (zA (zBY tyS (wpAny_of_eq (m':=pure (Value.type "set")) rfl (zC (wpAny_of_eq (m':=pure "set") rfl (zC ?_)))))))
  refine zA (wpAny_of_eq (m':=pure ()) rfl (zC (zA (zC ?_))))
  refine zA (zA (zA (wpAny_load (zL _ rfl) ?_)))
  refine wpAny_of_eq (m':=pure (#[],0,SetTable.fresh 0 0 led)) (by cases led <;> rfl) (zC (wpAny_of_eq (m':=pure false) (by cases led <;> rfl) (zC ?_)))
  have tyT:∀h tk,Kp s h->Shared.TypeIs { s with heap:=h,toks:=tk } (.ref l) "tuple" := fun h tk K=>by
   obtain⟨o,ho,hr⟩:=ht h K
   exact⟨o,ho,hr.1⟩
  show wpAny _ _ (Builtin.Frozenset.updateFrom "set.__init__" s.heap.objs.size (.ref l) >>= _) _ _ _
  unfold Builtin.Frozenset.updateFrom
  refine zA (zA (zA (zAj (tyT _ _ h0) PySem.F.sub_tuple_set (zAj (tyT _ _ h0) (b:=false) rfl ?_))))
  refine zA (zBY (tyT _ _ h0) ?_)
  refine zA (wpAny_pyIter_tuple (ht _ h0) (zA (wpAny_runValue ?_)))
  have hsz:(s.heap.push { cls:=.type "set",data:=.set #[] 0 (SetTable.fresh 0 0 led) }).objs.size=s.heap.objs.size+1:=zAR ..
  refine codeAny_set_update_loopS (Walks.toS (Walks.tuple (A:=(A.under (Code.builtin "type.__call__" { pos:=[.type "set",.ref l] })).in1.in1) hA (s.heap.push { cls:=.type "set",data:=.set #[] 0 (SetTable.fresh 0 0 led) }).objs.size l (zT (by rw[hsz];exact zAl hlt)) its.toArray)) s.heap.objs.size ?_ (fun i=>ns.getD i 0) ?_ (by simpa using hz) its.toArray.size 0 _ rfl (zg _) ?_ ?_ ?_
  . rw[hsz]
    intro z
    rcases zV.mp z with z | z
    . exact absurd z (zT (zBS _))
    . exact absurd (zf.mp z) (zAG hlt)
  . intro i v hv
    rw[zAZ] at hv
    exact hi.int_at i v hv
  . exact⟨⟨_,zL _ rfl,rfl,rfl⟩,ht _ fun b o e=>zG _ (h0 b o e)⟩
  . have:=zLo (prog:=prog) (w:=w) (h:=s.heap) led
    obtain⟨o,es,ep,t,ho,hr⟩:=this
    exact⟨o,es,ep,t,zG _ ho,hr⟩
  . intro s' mv so
    refine zC (zC (zC (zC ?_)))
    obtain⟨h',g',d',t',o'⟩:=s'
    obtain rfl:g'=s.gens:=mv.gens
    obtain rfl:d'=s.drawn:=mv.drawn
    obtain rfl:o'=s.os:=mv.os
    refine q h' t' (fun b o e=>mv.heap b o ?_ (zG _ (h0 b o e))) (by simpa using so)
    have hb:b<s.heap.objs.size:=zQ e
    intro z
    rw[hsz] at z
    rcases zV.mp z with z | z
    . exact absurd z (zT hb)
    . exact absurd (zf.mp z) (zT (zAl hb))
 | .ok .next,e=>exact e.elim
 | .ok .brk,e=>exact e.elim
 | .ok .cont,e=>exact e.elim
 | .error v,e=>exact e
theorem zEO {ns:List Int}(h:ns.Nodup):∀k,k<=ns.length->firstMet (fun i=>ns.getD i 0) k=ns.take k
 | 0,_=>rfl
 | k+1,hk=>by
  rw[firstMet_succ,zEO h k (by omega)]
  have hx:ns[k]? = some (ns.getD k 0):=by rw[zF,zD (by omega)];rfl
  unfold step_dedup
  rw[if_neg,zAH,hx]
  . rfl
  . intro z
    obtain⟨y,hy,e⟩:=zB7.mp z
    have e':y=ns.getD k 0:=by simpa using e
    obtain⟨j,hj,ej⟩:=zAL hy
    rw[zw] at hj
    rw[List.getElem_take] at ej
    obtain⟨hk',ek⟩:=zK.mp hx
    have:=(List.nodup_iff_pairwise_ne.mp h)
    have:=zAQ.mp this j k (by omega) (by omega) (by omega)
    exact this (by rw[ej,ek,e'])
section
variable {X:Cx}
theorem zJO (hc:X.calm=true):zCg X (.type "set") (fun xs H Q=>∃(p:Addr)(ns:List Int),xs=[.ref p]/\SqT X.K H p (ns.map V.int)/\ns.length<=1000 /\
 ∀d S,H d=none->Q (.ref d) (upd H d (.set S (firstMet (fun i=>ns.getD i 0) ns.length).length))):=by
 intro pins s σ H xs us Q I r h
 obtain⟨p,ns,rfl,hq,hl,q⟩:=h
 obtain⟨u,rfl,rx⟩:=zC3 r
 cases rx
 obtain⟨its,rv,pl,hz⟩:=I.tuple hq
 have hi:=zBU rv
 have hil:=hi.length
 refine zGu (I.ok.hd hc) pl hi (by have:scanBound=4096:=rfl;omega) fun h tk K so=>?_
 rw[hil] at so
 exact⟨.ref s.heap.objs.size,_,I.laid (a:=s.heap.objs.size) (t':=tk) K (zI _) (show zBK X.prog X.w _ _ _ (.set _ _) from so),rfl,q _ _ I.fresh⟩
theorem zJP:zCg X (.builtin "len") (fun xs H Q=>∃(a:Addr)(S:Int->Bool)(n:Nat),xs=[.ref a]/\H a=some (.set S n)/\Q (.int n) H):=by
 intro pins s σ H xs us Q I r h
 obtain⟨a,S,n,rfl,ha,q⟩:=h
 obtain⟨u,rfl,rx⟩:=zC3 r
 cases rx
 obtain⟨o,es,ep,t,ho,ex,hd,_,_,hb,hf,hn⟩:=(show zBK X.prog X.w H s.heap a (.set S n) from I.hok a _ ha)
 refine call_len_set ho ex hd hf (by have:scanBound=4096:=rfl;omega) ⟨.int n,H,I.tok _,⟨_,by rw[hn]⟩,q⟩
noncomputable def tBMT (r:V->List V->Hp->VK->Prop)(to:TE)(t:TA):TE:=fun σ H Q=>to σ H fun x H1=>(∃p ys,x = .ref p/\H1 p=some (.tup ys))/\t σ H1 fun xs H2=>r x xs H2 Q
variable {o e:Expr}{es:List Expr}{to:TE}{t:TA}{name:Str}{apos cpos:Pos}{id:String}{r:V->List V->Hp->VK->Prop}
theorem zCS (slot:Slot "tuple" name id) (hty:typeOf (.builtin id)=pure (.type "method_descriptor")) (hm:MtR X id r)(ho:PE X o to)(ha:PA X (e::es) t)
 (hbase:attributeBase o name X.env (eval o X.env)=eval o X.env:=by rfl)
 (hfew:((backTo cpos (starEach (e::es) X.env)).all (fun x=>!x.1) && (backToKw cpos (keywordEach [] X.env)).all (fun x=>x.1.isSome)
  && decide ((e::es).length+([]:List Keyword).length+(if ([]:List Keyword).isEmpty then 0 else 1)<30))=true:=by rfl)
 (hline:(apos.endLine==cpos.line)=true:=by rfl)(hs:starEach (e::es) X.env=(false,eval e X.env)::starEach es X.env:=by rfl)(hplain:(backTo cpos (starEach es X.env)).any (·.1)=false:=by rfl) :
 PE X (.Call (.Attribute o name apos) (e::es) [] cpos) (tBMT r to t):=by
 intro pins s σ H Q I h
 refine wpAny_Call_method_late hbase hfew hline rfl (thn (ho pins s σ H _ I h) fun v s1 ⟨x,H1,I1,r1,⟨p,ys,ex,hp⟩,q1⟩=>?_)
 subst ex
 cases (show v=Value.ref p from r1)
 obtain⟨⟨_,o2,ho2,hd2⟩,its,rv,ob,hob,hcl,_⟩:=(show zBK X.prog X.w H1 s1.heap p (.tup ys) from I1.hok p _ hp)
 refine⟨"tuple",id,PySem.F.plainAttrs_tuple,slot,hty,⟨ob,hob,hcl⟩,fun a ea=>?_,?_⟩
 . cases ea
   exact⟨o2,ho2,hd2⟩
 have hA:=ha cpos pins s1 σ H1 _ I1 q1
 rw[hs] at hA ⊢
 refine Calls.callWith_builtin (by show (false || (backTo cpos (starEach es X.env)).any (·.1))=false;rw[hplain] <;> rfl) (Calls.evalArgs_plain ?_)
 exact thn hA fun us s2 ⟨vs,H2,I2,r2,q2⟩=>hm pins s2 σ H2 (.ref p) vs (.ref p) us Q I2 rfl r2 q2
end
section
variable {prog:Program}{w:World}{A:Around}{E:vSP}
theorem zI3 {its:Array Value}{ns:List Int}{v:Int}{tv:Tok}{i:Nat}{R:Option PySem.Fin×Unit->Shared->Prop}(hi:IntsAre its.toList ns)(hv:ns[i]? = some v)(hno:∀j,j<i->ns[j]?≠some v)
 (f:Nat->Option PySem.Fin×Unit->Sem (ForInStep (Option PySem.Fin×Unit)))
 (hf:∀(j:Nat)(x:Option PySem.Fin×Unit),f j x=(match its[j]? with
  | some y=>do
   let b <-eqBool y (.int v tv)
   if b=true then do
    let r <-retInt j
    pure (.done (some r,()))
   else pure (.yield (none,()))
  | _=>pure (.yield (none,()))))
 (s:Shared)(hR:∀tk,R (some (.done (.ret (.int i s.toks))),()) { s with toks:=tk }) :
 ∀(r j:Nat)(b:Option PySem.Fin×Unit),i-j=r->j<=i->wpAny (model prog w) A (forIn (List.range' j (its.size-j) 1) b f) R E s:=by
 have hsz:its.size=ns.length:=by have:=hi.length;simpa using this
 have hil:i<ns.length:=(zK.mp hv).1
 have look:∀j,j<ns.length->∃t,its[j]? = some (.int (ns.getD j 0) t):=fun j hj=>by
  have hj':j<its.size:=by omega
  obtain⟨t,ht⟩:=hi.int_at j (its[j]'hj') (by rw[Array.getElem?_toList,Array.getElem?_eq_getElem hj'])
  exact⟨t,by rw[Array.getElem?_eq_getElem hj',ht]⟩
 intro r
 induction r with
 | zero=>
  intro j b hr hj
  obtain rfl:j=i:=by omega
  rw[show its.size-j=(its.size-j-1)+1 by omega,List.range'_succ,List.forIn_cons,hf]
  obtain⟨t,ht⟩:=look j hil
  rw[ht]
  refine zA (zA (wpAny_eqBool_int ?_))
  have e:ns.getD j 0=v:=by rw[zF,hv];rfl
  rw[e,show (v==v)=true by simp]
  refine zA (zA (wpAny_mkInt (zC (zC (zC ?_)))))
  exact hR _
 | succ r ih=>
  intro j b hr hj
  rw[show its.size-j=(its.size-(j+1))+1 by omega,List.range'_succ,List.forIn_cons,hf]
  obtain⟨t,ht⟩:=look j (by omega)
  rw[ht]
  refine zA (zA (wpAny_eqBool_int ?_))
  have hj':ns[j]? = some (ns.getD j 0):=by rw[zF,zD (by omega)];rfl
  have e:¬ ns.getD j 0=v:=fun z=>hno j (by omega) (by rw[hj',z])
  rw[show (ns.getD j 0==v)=false by simpa using e]
  refine zC ?_
  exact ih (j+1) _ (by omega) (by omega)
end
section
variable {X:Cx}
theorem zBv:MtR X "tuple.index" (fun x xs H Q=>∃(p:Addr)(ns:List Int)(i:Nat)(v:Int),x = .ref p/\xs=[.int v]/\SqT X.K H p (ns.map V.int)/\ns[i]? = some v/\(∀j,j<i->ns[j]?≠some v)/\Q (.int i) H):=by
 intro pins s σ H x xs v us Q I rx r h
 obtain⟨p,ns,i,k,rfl,rfl,hq,hi,hno,q⟩:=h
 cases (show v=Value.ref p from rx)
 obtain⟨u,rfl,t,rfl⟩:=zC3 r
 obtain⟨its,rv,⟨ob,hob,hcl,n,hdat⟩,hz⟩:=I.tuple hq
 have hI:=zBU rv
 refine zBb (codeAny_call_builtin PySem.F.slot_tuple_index.plain PySem.F.entry_tuple_index (PySem.F.slot_tuple_index.check _ _ _ _ _ _ _ _ ⟨ob,hob,hcl⟩ (PySem.F.args_tuple_index_2 _ _) ?_))
 unfold Builtin.«tuple.index»
 refine zA (wpAny_of_eq (m':=pure (Value.ref p,[Value.int k t])) rfl (zC ?_))
 refine zA (zA (zA0 hob hdat (zC ?_)))
 refine zA (zC (zA (zC (zA ?_))))
 rw[Std.Legacy.Range.forIn_eq_forIn_range']
 have hsz:(Std.Legacy.Range.mk 0 (min its.toArray.size its.toArray.size) 1 (by decide)).size=its.toArray.size-0:=by
  show (min its.toArray.size its.toArray.size-0+1-1)/1=_
  rw[Nat.min_self];omega
 rw[hsz]
 refine zI3 (its:=its.toArray) (ns:=ns) (v:=k) (tv:=t) (i:=i) hI hi hno _ (fun j x=>by rfl) s (fun tk=>?_) i 0 _ (by omega) (zg _)
 exact zC ⟨.int i,H,I.tok _,⟨_,rfl⟩,q⟩
end
section
variable {X:Cx}{pl:lPO}{N':List Str}{sc:Scope}{fp:List Addr}{s3:Shared}{H3:Hp}
theorem zEF:MtR (zBs X pl N' sc fp s3 H3) "tuple.index" (fun x xs H Q=>∃(p:Addr)(ns:List Int)(i:Nat)(v:Int),x = .ref p/\xs=[.int v]/\SqT X.K H p (ns.map V.int)/\ns[i]? = some v/\(∀j,j<i->ns[j]?≠some v)/\Q (.int i) H):=zBv
end
end L2
namespace WM
open L2
structure En where
 h:Int
 l:Int
 u:Option Int
 d:Option Int
noncomputable def Hub (es:List En):Prop:=es.Pairwise fun a b=>a.h<b.h
theorem zCd {α:Type}{l:List α}{i:Nat}{x:α}(p:α->Bool)(h:l[i]? = some x):(l.take (i+1)).filter p=(l.take i).filter p++(if p x=true then [x] else []):=by
 rw[zAH,h,List.filter_append]
 show _++List.filter p [x]=_
 rw[zB6]
 rfl
end WM
namespace L2
open PySem PyProof.Rows
end L2
namespace WM
end WM
namespace L2
open PySem PySem.Spec PyProof.Rows
end L2
namespace SortT
open PySem PySem.W PySem.Calls PyProof.Rows
end SortT
namespace L2
open PySem PySem.Spec PyProof.Rows
section
variable {X:Cx}
noncomputable def rCatA (K:PySem.W.Frag):R2:=fun x y H Q=>∃a b xs ys,x = .ref a/\y = .ref b/\SqT K H a xs/\SqT K H b ys/\xs.length+ys.length<=sizeLine /\
 (xs=[]->Q (.ref b) H)/\(xs≠[]->ys=[]->Q (.ref a) H)/\(xs≠[]->ys≠[]->∀p,H p=none->Q (.ref p) (upd H p (.tup (xs++ys))))
theorem zMq {prog:Program}{w:World}{A:Around}{E:vSP}{s:Shared}{t b:Addr}{ws:List Value}{Q:vSP}(ht:IsTup s.heap t #[])(hb:IsTup s.heap b ws.toArray)
 (h:Q (.ref b) s):wpAny (model prog w) A (binaryOp .Add (.ref t) (.ref b)) Q E s:=by
 obtain⟨⟨cls,dd,data,sl⟩,ho,hc,n,hd⟩:=id ht
 obtain⟨⟨cls2,dd2,data2,sl2⟩,ho2,hc2,n2,hd2⟩:=id hb
 simp only at hc hd hc2 hd2
 subst hc hd hc2 hd2
 exact concat_meets ⟨_,ho,rfl⟩ ⟨_,ho2,rfl⟩ noFill_tuple_add seq_tuple_add PySem.F.slot_tuple_add PySem.F.entry_tuple_add (PySem.F.args_tuple_add_2 _ _)
  (tuple_addW0 t b #[] ws.toArray n n2 dd dd2 sl sl2 rfl) ⟨ho,ho2,h⟩
theorem zL8:OpR X (binaryOp .Add) (rCatA X.K):=by
 intro pins s σ H x y v u Q I rx ry h
 obtain⟨a,b,xs,ys,rfl,rfl,ha,hb,hz,q0,q1,q2⟩:=h
 by_cases hx:xs=[]
 . subst hx
   cases rx
   cases ry
   obtain⟨its,r1,p1,_⟩:=I.tuple ha
   obtain⟨its2,r2,p2,_⟩:=I.tuple hb
   cases r1
   exact zMq p1 p2 ⟨.ref b,H,I,rfl,q0 rfl⟩
 . exact zL7 pins s σ H _ _ v u Q I rx ry ⟨a,b,xs,ys,rfl,rfl,ha,hb,hx,hz,q1 hx,q2 hx⟩
end
end L2
namespace HT
open PySem PySem.Spec PyProof.Rows
end HT
namespace L2
open PySem PySem.Spec PyProof.Rows
end L2
namespace HT
open PySem PySem.Spec PyProof.Rows
variable {sl:Addr}
section
variable {prog:Program}{w:World}{A:Around}{E:vSP}{s:Shared}
theorem getItem_tuple_all {t:Addr}{items:Array Value}{vl vu:Value}{lo hi:Option Int}{Q:vSP}(ht:IsTup s.heap t items)(hs:s.heap.IsSliceOf sl vl vu .none)(pl:IsPart vl lo)(pu:IsPart vu hi)
 (hw:sIx items.size 0 lo=0/\sIx items.size items.size hi=items.size)(h:Q (.ref t) s):wpAny (model prog w) A (getItem (.ref t) (.ref sl)) Q E s:=by
 obtain⟨os,hos,hcs,hds⟩:=id hs
 have hTs:s.TypeIs (.ref sl) "slice" := ⟨os,hos,hcs⟩
 unfold getItem
 try with_reducible refine zx ?_
 first | refine zA (zC ?_) | skip
 refine zA (wpAny_sequenceKey ht.typeIs (by decide) ?_)
 refine zA (zAD (name:=Str.ofString "__getitem__") ht.typeIs PyProof.Rows.slot_tuple_getitem
  (zAE PyProof.Rows.slot_tuple_getitem ht.typeIs entry_tuple_getitem ?_ (args_tuple_getitem _ _)))
 show wpAny _ _ (Builtin.Tuple.tupleItemsOf (.ref t) >>= _) _ _ s
 refine zA (tupleItemsOf_ ht ?_)
 refine zA (zBY hTs ?_)
 rw[if_pos (by decide)]
 refine zA (zCo hs pl pu ?_)
 have hyes:(((sIx items.size 0 lo:Nat):Int)==0 && (1:Int)==1 && (sIx items.size items.size hi-sIx items.size 0 lo)==items.size)=true:=by
  rw[hw.1,hw.2];simp
 show wpAny _ _ (if (((sIx items.size 0 lo:Nat):Int)==0 && (1:Int)==1 && (sIx items.size items.size hi-sIx items.size 0 lo)==items.size)=true then _ else _) _ _ s
 rw[if_pos hyes]
 unfold Builtin.Tuple.tupleIsExact
 refine zA (zA (zBY ht.typeIs (zC ?_)))
 rw[if_pos (by decide)]
 first
  | exact zA (zBm (zC ⟨_,rfl,zC h⟩))
  | exact zA (zBm (zC (zC ⟨_,rfl,zC h⟩)))
  | exact zA (zBm (zA (zC (zC ⟨_,rfl,zC h⟩))))
  | exact zBm (zC ⟨_,rfl,zC h⟩)
theorem zDj {vk:Value}{n:Nat}{os:Obj}{Q:Int×Int×Nat->Shared->Prop}(hos:s.heap.get? sl=some os)(hds:os.data = .fields #[.none,.none,vk])(pk:IsPart vk (some (-1)))
 (h:Q ((n:Int)-1,-1,n) s):wpAny (model prog w) A (Builtin.Slice.sliceApplied (.ref sl) (pure (n:Int))) Q E s:=by
 unfold Builtin.Slice.sliceApplied Builtin.Slice.sliceFields
 refine zA (zA (zAx hos hds (x:=.none) rfl (zA (zAx hos hds (x:=.none) rfl (zA (zAx hos hds (x:=vk) rfl (zC ?_)))))))
 refine zA (zDR pk ?_)
 show wpAny _ _ (if ((-1:Int)==0)=true then _ else _) _ _ s
 rw[if_neg (by decide)]
 refine zA (slicePart_none (zA (slicePart_none (zA (zC ?_)))))
 have e:Builtin.Slice.sliceAdjust none none (-1) (n:Int)=((n:Int)-1,-1):=rfl
 show wpAny _ _ (match Builtin.Slice.sliceAdjust none none (-1) (n:Int) with | (lo,hi)=>pure (lo,(-1:Int),Builtin.Slice.slicePlaces lo hi (-1))) _ _ s
 rw[e]
 have e2:Builtin.Slice.slicePlaces ((n:Int)-1) (-1) (-1)=n:=by
  unfold Builtin.Slice.slicePlaces
  rw[if_neg (by decide)]
  cases n with
  | zero=>rfl
  | succ m=>
   rw[if_pos (by omega),Int.neg_neg,Int.ediv_one]
   omega
 show wpAny _ _ (pure ((n:Int)-1,(-1:Int),Builtin.Slice.slicePlaces ((n:Int)-1) (-1) (-1))) _ _ s
 rw[e2]
 exact zC h
theorem zHK {α β:Type}{f g:α->Option β}:∀{l:List α},(∀m∈l,f m=g m)->l.filterMap f=l.filterMap g
 | [],_=>rfl
 | a::l,h=>by
  have ih:=zHK (l:=l) fun m hm=>h m (zc _ hm)
  rw[zBC,zBC,h a zZ,ih]
theorem zJ8 (xs:Array Value):((List.range xs.size).filterMap fun (m:Nat)=>xs[(((xs.size:Int)-1)+(m:Int)*(-1)).toNat]?).toArray=xs.toList.reverse.toArray:=by
 have e:((List.range xs.size).filterMap fun (m:Nat)=>xs[(((xs.size:Int)-1)+(m:Int)*(-1)).toNat]?)=((List.range xs.size).map fun k=>xs.size-1-k).filterMap (xs[·]?):=by
  rw[List.filterMap_map]
  apply zHK
  intro m hm
  have:=zBG.mp hm
  show xs[_]? = xs[_]?
  rw[show (((xs.size:Int)-1)+(m:Int)*(-1)).toNat=xs.size-1-m by omega]
 rw[e,PySem.W.krv_range,List.filterMap_reverse,PySem.W.krv_all]
theorem getItem_tuple_rev {t:Addr}{items:Array Value}{vk:Value}{os:Obj}{Q:vSP}(ht:IsTup s.heap t items)(hos:s.heap.get? sl=some os)(hcs:os.cls = .type "slice") (hds:os.data = .fields #[.none,.none,vk])(pk:IsPart vk (some (-1)))
 (h:Q (.ref s.heap.objs.size) { s with heap:=s.heap.push { cls:=.type "tuple",data:=.seq items.toList.reverse.toArray } }) (hsz:items.size<=sizeLine):wpAny (model prog w) A (getItem (.ref t) (.ref sl)) Q E s:=by
 have hTs:s.TypeIs (.ref sl) "slice" := ⟨os,hos,hcs⟩
 have htake:sizeOk (.seq items.toList.reverse.toArray):=by
  show items.toList.reverse.toArray.size<=sizeLine
  rw[zN,List.length_reverse,Array.length_toList]
  exact hsz
 unfold getItem
 try with_reducible refine zx ?_
 first | refine zA (zC ?_) | skip
 refine zA (wpAny_sequenceKey ht.typeIs (by decide) ?_)
 refine zA (zAD (name:=Str.ofString "__getitem__") ht.typeIs PyProof.Rows.slot_tuple_getitem
  (zAE PyProof.Rows.slot_tuple_getitem ht.typeIs entry_tuple_getitem ?_ (args_tuple_getitem _ _)))
 show wpAny _ _ (Builtin.Tuple.tupleItemsOf (.ref t) >>= _) _ _ s
 refine zA (tupleItemsOf_ ht ?_)
 refine zA (zBY hTs ?_)
 rw[if_pos (by decide)]
 refine zA (zDj hos hds pk ?_)
 have hno:¬ ((((items.size:Int)-1)==0 && (-1:Int)==1 && items.size==items.size)=true):=by
  intro q
  rw[zAf,zAf] at q
  exact absurd q.1.2 (by decide)
 show wpAny _ _ (if (((items.size:Int)-1)==0 && (-1:Int)==1 && items.size==items.size)=true then _ else _) _ _ s
 rw[if_neg hno,zJ8]
 first
  | exact zA (m:=Builtin.Tuple.tupleExact _) (zv (zC ⟨_,rfl,zC h⟩) htake)
  | exact zA (m:=Builtin.Tuple.tupleExact _) (zv (zA (zC (zC ⟨_,rfl,zC h⟩))) htake)
  | exact zA (zA (m:=Builtin.Tuple.tupleExact _) (zv (zC (zC ⟨_,rfl,zC h⟩)) htake))
  | exact zA (zA (m:=Builtin.Tuple.tupleExact _) (zv (zC ⟨_,rfl,zC h⟩) htake))
end
end HT
namespace L2
open PySem PySem.Spec PyProof.Rows
section
variable {X:Cx}{e:Expr}{te:TE}{pos p2 p3 p4:Pos}
noncomputable def rSlA (K:PySem.W.Frag):V->Option Int->Option Int->Hp->VK->Prop:=fun x lo hi H Q=>∃a xs,x = .ref a/\SqT K H a xs /\
 ((HT.sIx xs.length 0 lo=0/\HT.sIx xs.length xs.length hi=xs.length)->Q (.ref a) H)/\(¬ (HT.sIx xs.length 0 lo=0/\HT.sIx xs.length xs.length hi=xs.length)->∀p,H p=none->Q (.ref p) (upd H p (.tup (zFR xs lo hi))))
theorem zLm:SlR X (rSlA X.K):=by
 intro pins s σ H x v vl vu lo hi sl Q I rx hs pl pu h
 obtain⟨a,xs,rfl,hx,q1,q2⟩:=h
 by_cases c:HT.sIx xs.length 0 lo=0/\HT.sIx xs.length xs.length hi=xs.length
 . cases rx
   obtain⟨its,r,ht,hz⟩:=I.tuple hx
   have hlen:its.toArray.size=xs.length:=by rw[zN];exact r.length.symm
   refine⟨"tuple",_,PyProof.Rows.slot_tuple_getitem.lookup,ht.typeIs,?_⟩
   exact HT.getItem_tuple_all ht hs pl pu (by rw[hlen];exact c) ⟨.ref a,H,I,rfl,q1 c⟩
 . exact sl_tup pins s σ H _ v vl vu lo hi sl Q I rx hs pl pu ⟨a,xs,rfl,hx,c,q2 c⟩
noncomputable def tRev (K:PySem.W.Frag)(te:TE):TE:=fun σ H Q=>te σ H fun x H1=>∃a xs,x = .ref a/\SqT K H1 a xs/\∀p,H1 p=none->Q (.ref p) (upd H1 p (.tup xs.reverse))
theorem zFa {xs:List V}{us:List Value}(h:zBL xs us):zBL xs.reverse us.reverse:=by
 induction h with
 | nil=>exact .nil
 | cons r _ ih=>rw[List.reverse_cons,List.reverse_cons];exact ih.append (.cons r .nil)
theorem pe_rev {m:Expr}{ops:Value->Value->List Value}(he:PE X e te)(hm:PE X m (tC (.int (-1))))(hsub:∀a d,subscripted (.Slice none none (some m) p2) false a d=operate (ops a d) (getItem a d)):PE X (.Subscript e (.Slice none none (some m) p2) pos) (tRev X.K te):=by
 intro pins s σ H Q I h
 refine Subscript_ (thn (he pins s σ H _ I h) fun v s1 ⟨x,H1,I1,r1,q1⟩=>?_)
 obtain⟨a,xs,rfl,hx,q⟩:=q1
 refine wpAny_Slice ?_
 rw[evalPart_none]
 refine zC (zC ?_)
 rw[evalPart_some]
 refine thn (hm pins s1 σ H1 (fun y H2=>y = .int (-1)/\H2=H1) I1 ⟨rfl,rfl⟩) fun vk s3 ⟨y,H3,I3,rk,ey,eH⟩=>?_
 subst ey eH
 obtain⟨t,rfl⟩:=rk
 cases r1
 have I4:Inv X pins σ H3 { s3 with heap:=s3.heap.push { cls:=.type "slice",data:=.fields #[.none,.none,.int (-1) t] } }:=I3.kept (t':=s3.toks) fun b ob q=>zG _ q
 obtain⟨its,r,ht,hz⟩:=I4.tuple hx
 have hlen:its.toArray.size=xs.length:=by rw[zN];exact r.length.symm
 show wpAny (model X.prog X.w) X.A (subscriptTail e (.Slice none none (some m) p2) (.ref a) (.ref s3.heap.objs.size)) (EP X pins σ Q) X.xe { s3 with heap:=s3.heap.push { cls:=.type "slice",data:=.fields #[.none,.none,.int (-1) t] } }
 refine tail_any (ops:=ops (.ref a) (.ref s3.heap.objs.size)) ht.typeIs PyProof.Rows.slot_tuple_getitem.lookup (HT.getItem_tuple_rev ht (zL _ rfl) rfl rfl (.int (-1) t) ?_ (by rw[hlen];exact hz)) (hsub _ _)
 refine⟨.ref _,_,I4.laid (t':=s3.toks) (o:=.tup xs.reverse) (fun b ob q=>zG _ q) (zI _) ?_,rfl,q _ (I4.hok.fresh (zI _))⟩
 exact⟨⟨by rw[List.length_reverse];exact hz,_,zL _ rfl,rfl⟩,_,zFa r,IsTup.new _ _⟩
end
section
variable {X:Cx}{pins:lPO}{σ:St}{H:Hp}{s:Shared}{h':Heap}
theorem Inv.turnedLaid {t':Nat}{fp:List Addr}{a:Addr}{o:HO}(I:Inv X pins σ H s)(hf:∀b∈fp,zGY X pins H b)(k:∀b u,b∉fp->s.heap.get? b=some u->h'.get? b=some u)(hp:s.heap.objs.size<=a)
 (new:zBK X.prog X.w (upd H a o) h' a o):Inv X pins σ (upd H a o) { s with heap:=h',toks:=t' }:=by
 have fr:H a=none:=I.hok.fresh hp
 have nfp:∀b u,H b=some u->b∉fp:=fun b u e z=>by rw[(hf b z).1] at e;cases e
 have na:∀b u,H b=some u->b≠a:=fun b u e z=>by rw[z,fr] at e;cases e
 refine I.step (g':=s.gens) (d':=s.drawn) (ch:=fp) (fun b hb=>?_) (fun b u _ _ hc e _=>k b u hc e) (fun b u _ _ hc e _=>⟨u.slots,k b u hc e⟩) (fun b u hc e n=>?_) (fun b u hc e=>⟨u,k b u hc e⟩)
  (fun b xs e=>by rw[zk (na b _ e)];exact e) (fun b u w e=>by rw[zk (na b _ e)];exact e) (fun b ps e=>⟨#[],by rw[zk (na b _ e),e];simp⟩) (fun m hm=>?_) (fun b u e=>?_) I.bare
 . obtain⟨f0,f1,f2,f3,f4,f5⟩:=hf b hb
   exact⟨f3,f1,f4,f5⟩
 . rw[zk (zT (zi (zQ e) hp))]
   exact n
 . obtain⟨u,es,ep,ho,r⟩:=hm
   exact⟨u,es,ep,k _ u (fun z=>(hf _ z).2.1 rfl) ho,r⟩
 . by_cases z:b=a
   . subst z
     rw[zJ] at e
     cases e
     exact new
   . rw[zk z] at e
     refine (I.hok b u e).stay (fun c v hc q=>k c v ?_ q) (fun c q=>by rw[zk (na c _ q)];exact q) fun c xs q=>by rw[zk (na c _ q)];exact q
     rcases hc with z | z
     . rw[z];exact nfp b u e
     . exact nfp c _ z
end
section
variable {X:Cx}
theorem zLX:∀(Ts:List String)(its:List Value),zBL (Ts.map V.ty) its->its=Ts.map Value.type:=by
 intro Ts
 induction Ts with
 | nil=>intro its h;cases h;rfl
 | cons a r ih=>
  intro its h
  cases h with
  | cons h1 h2=>rw[ih _ h2,show _=Value.type a from h1];rfl
theorem zCn:zCg X (.builtin "isinstance") (fun xs H Q=>∃(x:V)(tp:Addr)(Ts:List String)(t:Value)(b:Bool),xs=[x,.ref tp]/\H tp=some (.tup (Ts.map V.ty))/\zGT X.K H x t/\PySem.W.kitAny X.K t (Ts.map Value.type)=some b/\Q (.bl b) H):=by
 intro pins s σ H xs us Q I r h
 obtain⟨x,tp,Ts,t,b,rfl,ht,ty,e,q⟩:=h
 obtain⟨u,w',rfl,rx,rT⟩:=zGZ r
 cases (show w'=Value.ref tp from rT)
 obtain⟨⟨z,o2,e2,d2⟩,its,rv,ob,e3,c3,n3,s3⟩:=(show zBK X.prog X.w H s.heap tp (.tup (Ts.map V.ty)) from I.hok tp _ ht)
 have hits:=zLX Ts its rv
 obtain⟨c',d',da',sl'⟩:=ob
 simp only at c3 s3
 subst c3 s3 hits
 have h:∀tk,EP X pins σ Q (.bool b) { s with toks:=tk }:=fun tk=>⟨.bl b,H,I.tok tk,rfl,q⟩
 cases ty with
 | non=>cases (show u=Value.none from rx);exact PySem.W.kia_tup PySem.W.kitx_none I.kIn True.intro e3 e (fun z=>nomatch z) h
 | bl y=>cases (show u=Value.bool y from rx);exact PySem.W.kia_tup PySem.W.kitx_bool I.kIn True.intro e3 e (fun z=>nomatch z) h
 | int i=>obtain⟨t,q⟩:=(show ∃t,u=Value.int i t from rx);cases q;exact PySem.W.kia_tup PySem.W.kitx_int I.kIn True.intro e3 e (fun z=>nomatch z) h
 | str y=>obtain⟨t,q⟩:=(show ∃t,u=Value.str y t from rx);cases q;exact PySem.W.kia_tup PySem.W.kitx_str I.kIn True.intro e3 e (fun z=>nomatch z) h
 | flt y=>obtain⟨t,q⟩:=(show ∃t,u=Value.float y t from rx);cases q;exact PySem.W.kia_tup PySem.W.kitx_float I.kIn True.intro e3 e (fun z=>nomatch z) h
 | @lst a xs ea=>
  cases (show u=Value.ref a from rx)
  obtain⟨_,_,n,_,h1⟩:=(show zBK X.prog X.w H s.heap a (.lst xs) from I.hok a _ ea)
  exact PySem.W.kia_tup PySem.W.kitx_list I.kIn ⟨_,h1,rfl⟩ e3 e (fun z=>nomatch z) h
 | @frz a ob xs ea=>
  cases (show u=Value.ref a from rx)
  obtain⟨_,_,_,n,_,h1⟩:=(show zBK X.prog X.w H s.heap a (.frz ob (.lst xs)) from I.hok a _ ea)
  exact PySem.W.kia_tup PySem.W.kitx_list I.kIn ⟨_,h1,rfl⟩ e3 e (fun z=>nomatch z) h
 | @tup a xs ea=>
  cases (show u=Value.ref a from rx)
  obtain⟨_,_,_,p⟩:=(show zBK X.prog X.w H s.heap a (.tup xs) from I.hok a _ ea)
  obtain⟨o,h1,h2,_⟩:=p
  exact PySem.W.kia_tup PySem.W.kitx_tuple I.kIn ⟨o,h1,h2⟩ e3 e (fun z=>nomatch z) h
 | @dK a kvs ea=>
  cases (show u=Value.ref a from rx)
  obtain⟨_,_,vs,_,p⟩:=(show zBK X.prog X.w H s.heap a (.dK kvs) from I.hok a _ ea)
  obtain⟨o,es,ep,h1,h2,_⟩:=p
  exact PySem.W.kia_tup PySem.W.kitx_dict I.kIn ⟨o,h1,h2.1⟩ e3 e (fun z=>nomatch z) h
 | @dT a kvs ea=>
  cases (show u=Value.ref a from rx)
  obtain⟨_,_,xs,_,o,es,ep,h1,h2,_⟩:=(show zBK X.prog X.w H s.heap a (.dT kvs) from I.hok a _ ea)
  exact PySem.W.kia_tup PySem.W.kitx_dict I.kIn ⟨o,h1,h2.1⟩ e3 e (fun z=>nomatch z) h
 | @ins a C dx fs ea cl ha hn htk hm=>
  cases (show u=Value.ref a from rx)
  obtain⟨mA,O,_⟩:=zI2 I.hok ea
  obtain⟨od,J,_⟩:=O.look
  exact PySem.W.kia_tup (PySem.W.kitx_own (cl.get _) cl.hd ha hn htk hm) I.kIn J e3 e (fun z=>nomatch z) h
end
end L2
namespace L2
open PySem PySem.Spec PyProof.Rows
open PySem.AutoSeq1 (wpAny_loadPart')
section
variable {prog:Program}{w:World}{A:Around}{E:vSP}{s:Shared}
theorem zHY {it t:Addr}{i:Nat}{items:Array Value}{x:Value}{Q:vSP}(hi:s.heap.IsTupleIter it t i)(ht:s.heap.IsTuple t items)(hx:items[i]? = some x)
 (hQ:∀h',h'.IsTupleIter it t (i+1)->Heap.SameBut it s.heap h'->Q x { s with heap:=h' }):wpAny (model prog w) A (Builtin.SmallTypes.nextOf (.ref it)) Q E s:=by
 obtain⟨oi,hoi,ci,di⟩:=id hi
 obtain⟨ot,hot,_,nt,dt⟩:=ht
 unfold Builtin.SmallTypes.nextOf
 refine zA (zAD (name:=Str.ofString "__next__") hi.typeIs PySem.F.slot_tuple_iterator_next (zAE PySem.F.slot_tuple_iterator_next hi.typeIs PySem.F.entry_tuple_iterator_next ?_ (PySem.F.args_tuple_iterator_next_1 _)))
 show wpAny (model prog w) _ (field (.ref it) 0 >>= _) _ _ s;refine zA (zAx hoi di (x:=.ref t) rfl ?_)
 show wpAny (model prog w) _ (if (Value.ref t==Value.none)=true then _ else _) _ _ s;rw[if_neg (show ¬ ((Value.ref t==Value.none)=true) from zb)]
 show wpAny (model prog w) _ (field (.ref it) 1 >>= _) _ _ s;refine zA (zAx hoi di (x:=.int i 0) rfl ?_)
 show wpAny (model prog w) _ (seqItems? (.ref t) >>= _) _ _ s;refine zA (zA0 hot dt ?_)
 simp only[hx,zAB]
 refine zA (zBZ hoi di (by simp) (zC ⟨x,rfl,zC (hQ _ ?_ (zAb ..))⟩))
 refine⟨_,zAC _ hoi (Obj.isFreed_of_fields (Obj.data_mapFields di _)),(Obj.cls_mapFields ..).trans ci,?_⟩
 rw[Obj.data_mapFields di];simp[rawInt]
theorem zGA {it t:Addr}{i:Nat}{items:Array Value}{Q:vSP}(hA:A.handled=none)(hi:s.heap.IsTupleIter it t i)(ht:s.heap.IsTuple t items)(hx:items[i]? = none)
 (hE:∀h' e,Heap.ExtBut it s.heap h'->(∃o,h'.get? e=some o/\o.cls = .type "StopIteration")->E (.ref e) { s with heap:=h' }):wpAny (model prog w) A (Builtin.SmallTypes.nextOf (.ref it)) Q E s:=by
 obtain⟨oi,hoi,ci,di⟩:=id hi
 obtain⟨ot,hot,_,nt,dt⟩:=ht
 unfold Builtin.SmallTypes.nextOf
 refine zA (zAD (name:=Str.ofString "__next__") hi.typeIs PySem.F.slot_tuple_iterator_next (zAE PySem.F.slot_tuple_iterator_next hi.typeIs PySem.F.entry_tuple_iterator_next ?_ (PySem.F.args_tuple_iterator_next_1 _)))
 show wpAny (model prog w) _ (field (.ref it) 0 >>= _) _ _ s;refine zA (zAx hoi di (x:=.ref t) rfl ?_)
 show wpAny (model prog w) _ (if (Value.ref t==Value.none)=true then _ else _) _ _ s;rw[if_neg (show ¬ ((Value.ref t==Value.none)=true) from zb)]
 show wpAny (model prog w) _ (field (.ref it) 1 >>= _) _ _ s;refine zA (zAx hoi di (x:=.int i 0) rfl ?_)
 show wpAny (model prog w) _ (seqItems? (.ref t) >>= _) _ _ s;refine zA (zA0 hot dt ?_)
 simp only[hx,zAB]
 refine zA (zBm (zA (zBZ hoi di (by simp) ?_)))
 show wpAny (model prog w) _ (newExc (.type "StopIteration") [] >>= _) _ _ _;refine zA ?_
 simp only[newTuple,newExc]
 refine zA (zv ?_ (by size_fits));refine zA (m:=firstArgMember _ _) (PySem.wpAny_of_eq (a:=Value.none) (by first | rfl | (simp only[firstArgMember];rfl)) ?_)
 refine zv ?_ (by size_fits);simp only[raiseNew];refine zA (wpAny_handled ?_)
 first
  | rw[show A.in1.handled=none from hA]
  | rw[hA]
 exact zA (zC (wpAny_throw (hE _ _ (((zAb ..).extBut.push _).push _) ⟨_,zL _ rfl,rfl⟩)))
end
theorem zGE {prog:Program}{w:World}{A:Around}(hA:A.handled=none)(it t:Addr)(hne:t≠it)(items:Array Value) :
 Draws prog w A it [it,t] items.size (fun i v=>items[i]? = some v) (fun i h=>h.IsTupleIter it t i/\h.IsTuple t items) where
 live:=fun _ _ st=>by
  obtain⟨⟨o,ho,_⟩,_⟩:=st
  exact⟨o,ho⟩
 frame:=fun _ h h' st hk=>by
  obtain⟨⟨o,ho,r⟩,o2,ho2,r2⟩:=st
  exact⟨⟨o,hk it (by simp) o ho,r⟩,o2,hk t (by simp) o2 ho2,r2⟩
 item:=fun i s Q E hi st hQ=>zHY st.1 st.2 (x:=items[i]) (by simp[hi]) fun h' a b=>hQ _ h' s.toks (by simp[hi]) ⟨a,st.2.extBut b.extBut hne⟩ b
 done:=fun s Q E st hE=>zGA hA st.1 st.2 (by simp) hE
end L2
namespace L2
open PySem PySem.Spec PyProof.Rows
open PySem.AutoSeq1 (wpAny_loadPart')
variable {H:Hp}{h':Heap}
theorem Inv.turnedFp {X:Cx}{pins:lPO}{σ:L2.St}{s:Shared}{t':Nat}{fp:List Addr}(I:Inv X pins σ H s)(hf:∀b∈fp,zGY X pins H b)(k:∀b u,b∉fp->s.heap.get? b=some u->h'.get? b=some u):Inv X pins σ H { s with heap:=h',toks:=t' }:=by
 have nfp:∀b u,H b=some u->b∉fp:=fun b u e z=>by rw[(hf b z).1] at e;cases e
 refine I.step (g':=s.gens) (d':=s.drawn) (ch:=fp) (fun b hb=>?_) (fun b u _ _ hc e _=>k b u hc e) (fun b u _ _ hc e _=>⟨u.slots,k b u hc e⟩) (fun _ _ _ _ n=>n) (fun b u hc e=>⟨u,k b u hc e⟩)
  (fun _ _ e=>e) (fun _ _ _ e=>e) (fun b ps e=>⟨#[],by rw[e];simp⟩) (fun m hm=>?_) (fun b u e=>?_) I.bare
 . obtain⟨f0,f1,f2,f3,f4,f5⟩:=hf b hb
   exact⟨f3,f1,f4,f5⟩
 . obtain⟨u,es,ep,ho,r⟩:=hm
   exact⟨u,es,ep,k _ u (fun z=>(hf _ z).2.1 rfl) ho,r⟩
 . refine (I.hok b u e).stay (fun c v hc q=>k c v ?_ q) (fun _ q=>q) fun _ _ q=>q
   rcases hc with z | z
   . rw[z];exact nfp b u e
   . exact nfp c _ z
structure ZAp (zp tI tO i1 i2:Addr)(fp1 fp2:List Addr):Prop where
 zTI:tI≠zp
 zTO:tO≠zp
 z1:i1≠zp
 z2:i2≠zp
 IO:tI≠tO
 I1:tI≠i1
 I2:tI≠i2
 O1:tO≠i1
 O2:tO≠i2
 i12:i1≠i2
 a1:zp∉fp1/\tO∉fp1/\i2∉fp1
 a2:zp∉fp2/\tO∉fp2/\i1∉fp2
section
variable {prog:Program}{w:World}{A:Around}{E:vSP}{s:Shared}
theorem zHq {zp tI tO i1 i2:Addr}{fp1 fp2:List Addr}{n1 n2 k:Nat}{P1 P2:Nat->Value->Prop}{St1 St2:Nat->Heap->Prop}{a b:Value}{Q:vSP}(D1:Draws prog w A i1 fp1 n1 P1 St1)(D2:Draws prog w A i2 fp2 n2 P2 St2)(Z:ZAp zp tI tO i1 i2 fp1 fp2)
 (gz:IsZip s.heap zp tI tO .none)(gI:IsPair s.heap tI (.ref i1) (.ref i2))(gO:IsPair s.heap tO a b)(s1:St1 k s.heap)(s2:St2 k s.heap)(l1:k<n1)(l2:k<n2)
 (qd:∀x y h' tk,P1 k x->P2 k y->IsZip h' zp tI tO (rawInt s.heap.objs.size)->IsPair h' tO x y->St1 (k+1) h'->St2 (k+1) h'->IsPair h' s.heap.objs.size x y->h'.objs.size=s.heap.objs.size+1 ->
  (∀c o,c≠zp->c≠tO->c≠i1->c≠i2->s.heap.get? c=some o->h'.get? c=some o)->Q (.ref s.heap.objs.size) { s with heap:=h',toks:=tk }) :
 wpAny (model prog w) A (Builtin.«zip.__next__» ⟨[.ref zp],[]⟩) (fun fin s'=>∃v,fin = .done (.ret v)/\Q v s') E s:=by
 obtain⟨hp,g,d,tk₀,os⟩:=s
 show wpAny _ _ (field (.ref zp) 2 >>= _) _ _ _
 refine zA (zAx gz rfl (x:=.bool false) rfl ?_)
 show wpAny _ _ (field (.ref zp) 3 >>= _) _ _ _
 refine zA (zAx gz rfl (x:=.ref tI) rfl (zA (zA0 gI rfl ?_)))
 show wpAny _ _ (Builtin.SmallTypes.ownedTupleIsFree (.ref zp) >>= _) _ _ _
 unfold Builtin.SmallTypes.ownedTupleIsFree
 refine zA (zA (zAx gz rfl (x:=.none) rfl (zC ?_)))
 simp only[if_true]
 refine zA (zBm (zA (zAx gz rfl (x:=.ref tO) rfl (zA (wpAny_setField_rec gz (by simp) fun h₁ z₁ e₁=>?_)))))
 replace z₁:IsZip h₁ zp tI tO .ellipsis:=z₁
 replace e₁:Heap.SameBut zp hp h₁:=e₁
 refine zA ?_
 simp only[List.zipIdx_cons,List.zipIdx_nil,List.forIn_cons,List.forIn_nil]
 have t1:St1 k h₁:=D1.frame k hp h₁ s1 fun b hb o e=>e₁.extBut _ _ (fun x=>Z.a1.1 (x ▸ hb)) e
 have t2:St2 k h₁:=D2.frame k hp h₁ s2 fun b hb o e=>e₁.extBut _ _ (fun x=>Z.a2.1 (x ▸ hb)) e
 refine zA (zA (wpAny_onRaise ?_))
 show wpAny _ _ (Builtin.SmallTypes.nextOf (.ref i1) >>= _) _ _ _
 refine zA (D1.item k _ _ _ l1 t1 fun x h₂ tk₂ p1 u1 e₂=>zC ?_)
 replace e₂:Heap.SameBut i1 h₁ h₂:=e₂
 have hO₂:IsPair h₂ tO a b:=e₂.extBut _ _ Z.O1 (e₁.extBut _ _ Z.zTO gO)
 refine zA (zA0 hO₂ rfl (zA (wpAny_updateSeq_pair hO₂ fun h₃ hO₃ e₃=>?_)))
 replace hO₃:IsPair h₃ tO x b:=hO₃
 replace e₃:Heap.SameBut tO h₂ h₃:=e₃
 refine zA (wpAny_letGo (zC ?_))
 have u1₃:St1 (k+1) h₃:=D1.frame _ h₂ h₃ u1 fun b hb o e=>e₃.extBut _ _ (fun x=>Z.a1.2.1 (x ▸ hb)) e
 have t2₃:St2 k h₃:=D2.frame k h₁ h₃ t2 fun b hb o e=>e₃.extBut _ _ (fun x=>Z.a2.2.1 (x ▸ hb)) (e₂.extBut _ _ (fun x=>Z.a2.2.2 (x ▸ hb)) e)
 refine zA (zA (wpAny_onRaise ?_))
 show wpAny _ _ (Builtin.SmallTypes.nextOf (.ref i2) >>= _) _ _ _
 refine zA (D2.item k _ _ _ l2 t2₃ fun y h₄ tk₄ p2 u2 e₄=>zC ?_)
 replace e₄:Heap.SameBut i2 h₃ h₄:=e₄
 have hO₄:IsPair h₄ tO x b:=e₄.extBut _ _ Z.O2 hO₃
 refine zA (zA0 hO₄ rfl (zA (wpAny_updateSeq_pair hO₄ fun h₅ hO₅ e₅=>?_)))
 replace hO₅:IsPair h₅ tO x y:=hO₅
 replace e₅:Heap.SameBut tO h₄ h₅:=e₅
 refine zA (wpAny_letGo (zC (zC (zA (zA0 hO₅ rfl (zA (wpAny_newTuple ?_)))))))
 have u1₅:St1 (k+1) h₅:=D1.frame _ h₃ h₅ u1₃ fun b hb o e=>e₅.extBut _ _ (fun x=>Z.a1.2.1 (x ▸ hb)) (e₄.extBut _ _ (fun x=>Z.a1.2.2 (x ▸ hb)) e)
 have u2₅:St2 (k+1) h₅:=D2.frame _ h₄ h₅ u2 fun b hb o e=>e₅.extBut _ _ (fun x=>Z.a2.2.1 (x ▸ hb)) e
 have sz:h₅.objs.size=hp.objs.size:=by rw[e₅.1,e₄.1,e₃.1,e₂.1,e₁.1]
 have z₅:IsZip h₅ zp tI tO .ellipsis:=e₅.extBut _ _ Z.zTO.symm (e₄.extBut _ _ Z.z2.symm (e₃.extBut _ _ Z.zTO.symm (e₂.extBut _ _ Z.z1.symm z₁)))
 have k₅:∀c o,c≠zp->c≠tO->c≠i1->c≠i2->hp.get? c=some o->h₅.get? c=some o:=fun c o c1 c2 c3 c4 e=>e₅.extBut _ _ c2 (e₄.extBut _ _ c4 (e₃.extBut _ _ c2 (e₂.extBut _ _ c3 (e₁.extBut _ _ c1 e))))
 have zlt:zp<h₅.objs.size:=zQ z₅
 show wpAny _ _ (Builtin.SmallTypes.ownedTupleHandOut (.ref zp) (.ref h₅.objs.size) >>= _) _ _ _
 unfold Builtin.SmallTypes.ownedTupleHandOut
 have z₆:IsZip (h₅.push { cls:=.type "tuple",data:=.seq #[x,y] }) zp tI tO .ellipsis:=zG _ z₅
 refine zA (zA (wpAny_setField_rec z₆ (by simp) fun h₇ z₇ e₇=>?_))
 replace z₇:IsZip h₇ zp tI tO (rawInt h₅.objs.size):=z₇
 refine wpAny_setField_rec z₇ (by simp) fun h₈ z₈ e₈=>?_
 replace z₈:IsZip h₈ zp tI tO (rawInt h₅.objs.size):=z₈
 have up:∀c o,c≠zp->h₅.get? c=some o->h₈.get? c=some o:=fun c o c1 e=>e₈.extBut _ _ c1 (e₇.extBut _ _ c1 (zG _ e))
 have hT₈:IsPair h₈ h₅.objs.size x y:=e₈.extBut _ _ (zAG zlt) (e₇.extBut _ _ (zAG zlt) (zL _ rfl))
 have sz8:h₈.objs.size=h₅.objs.size+1:=by rw[e₈.1,e₇.1,zAR]
 rw[sz] at z₈ hT₈ sz8
 refine zC ⟨_,rfl,?_⟩
 show Q (.ref h₅.objs.size) _
 rw[sz]
 exact qd x y h₈ tk₄ p1 p2 z₈ (up _ _ Z.zTO hO₅) (D1.frame _ h₅ h₈ u1₅ fun b hb o e=>up b o (fun x=>Z.a1.1 (x ▸ hb)) e) (D2.frame _ h₅ h₈ u2₅ fun b hb o e=>up b o (fun x=>Z.a2.1 (x ▸ hb)) e) hT₈ sz8 fun c o c1 c2 c3 c4 e=>up c o c1 (k₅ c o c1 c2 c3 c4 e)
theorem zJg {zp tI tO i1 i2:Addr}{fp1 fp2:List Addr}{St:Heap->Prop}{a b:Value}{Q:Fin->Shared->Prop}(fr:∀h h',St h->(∀b∈fp1,∀o,h.get? b=some o->h'.get? b=some o)->St h')
 (dn:∀(s:Shared)(Q:vSP)(E:vSP),St s.heap->(∀h' e,Heap.ExtBut i1 s.heap h'->(∃o,h'.get? e=some o/\o.cls = .type "StopIteration")->E (.ref e) { s with heap:=h' })->wpAny (model prog w) A (Builtin.SmallTypes.nextOf (.ref i1)) Q E s) (Z:ZAp zp tI tO i1 i2 fp1 fp2)
 (gz:IsZip s.heap zp tI tO .none)(gI:IsPair s.heap tI (.ref i1) (.ref i2))(gO:IsPair s.heap tO a b)(s1:St s.heap)
 (qe:∀h' e,(∀c o,c≠zp->c≠i1->s.heap.get? c=some o->h'.get? c=some o)->(∃o,h'.get? e=some o/\o.cls = .type "StopIteration")->E (.ref e) { s with heap:=h' }) :
 wpAny (model prog w) A (Builtin.«zip.__next__» ⟨[.ref zp],[]⟩) Q E s:=by
 obtain⟨hp,g,d,tk₀,os⟩:=s
 show wpAny _ _ (field (.ref zp) 2 >>= _) _ _ _
 refine zA (zAx gz rfl (x:=.bool false) rfl ?_)
 show wpAny _ _ (field (.ref zp) 3 >>= _) _ _ _
 refine zA (zAx gz rfl (x:=.ref tI) rfl (zA (zA0 gI rfl ?_)))
 show wpAny _ _ (Builtin.SmallTypes.ownedTupleIsFree (.ref zp) >>= _) _ _ _
 unfold Builtin.SmallTypes.ownedTupleIsFree
 refine zA (zA (zAx gz rfl (x:=.none) rfl (zC ?_)))
 simp only[if_true]
 refine zA (zBm (zA (zAx gz rfl (x:=.ref tO) rfl (zA (wpAny_setField_rec gz (by simp) fun h₁ z₁ e₁=>?_)))))
 replace z₁:IsZip h₁ zp tI tO .ellipsis:=z₁
 replace e₁:Heap.SameBut zp hp h₁:=e₁
 refine zA ?_
 simp only[List.zipIdx_cons,List.zipIdx_nil,List.forIn_cons,List.forIn_nil]
 refine zA (zA (wpAny_onRaise ?_))
 show wpAny _ _ (Builtin.SmallTypes.nextOf (.ref i1) >>= _) _ _ _
 refine zA (dn _ _ _ (fr hp h₁ s1 fun b hb o e=>e₁.extBut _ _ (fun x=>Z.a1.1 (x ▸ hb)) e) fun h₂ e e₂ he=>?_)
 replace e₂:Heap.ExtBut i1 h₁ h₂:=e₂
 obtain⟨oe,hoe,hce⟩:=he
 have z₂:IsZip h₂ zp tI tO .ellipsis:=e₂ _ _ Z.z1.symm z₁
 have ne:e≠zp:=fun x=>by subst x;rw[z₂] at hoe;cases hoe;simp at hce
 exact wpAny_setField_rec z₂ (by simp) fun h₃ _ e₃=>qe h₃ e (fun c o c1 c3 x=>e₃.extBut _ _ c1 (e₂ _ _ c3 (e₁.extBut _ _ c1 x))) ⟨oe,e₃.extBut _ _ ne hoe,hce⟩
end
noncomputable abbrev zt1 (h:Heap)(l1:Addr):Heap:=h.push { cls:=.type "tuple_iterator",data:=.fields #[.ref l1,.int 0 0] }
noncomputable abbrev zt2 (h:Heap)(l1 l2:Addr):Heap:=(zt1 h l1).push { cls:=.type "tuple_iterator",data:=.fields #[.ref l2,.int 0 0] }
noncomputable abbrev zt3 (h:Heap)(l1 l2:Addr):Heap:=(zt2 h l1 l2).push { cls:=.type "tuple",data:=.seq #[.ref h.objs.size,.ref (zt1 h l1).objs.size] }
noncomputable abbrev zt4 (h:Heap)(l1 l2:Addr):Heap:=(zt3 h l1 l2).push { cls:=.type "tuple",data:=.seq #[.none,.none] }
noncomputable abbrev zt5 (h:Heap)(l1 l2:Addr):Heap:=(zt4 h l1 l2).push { cls:=.type "zip",data:=.fields #[.none,.bool false,.bool false,.ref (zt2 h l1 l2).objs.size,.ref (zt3 h l1 l2).objs.size] }
theorem zHZ (l1 l2:Addr)(xs ys:Array Value):Meets (Builtin.«zip.__new__» ⟨[.type "zip",.ref l1,.ref l2],[]⟩) (fun _ R s=>s.heap.IsTuple l1 xs/\s.heap.IsTuple l2 ys/\R (.ok (.ret (.ref (zt4 s.heap l1 l2).objs.size))) { s with heap:=zt5 s.heap l1 l2 }):=by
 refine .of_wp fun prog w A R s hs=>?_
 obtain⟨hp,g,d,tk,os⟩:=s
 obtain⟨h1,h2,hR⟩:=hs
 have su:=sub_zip
 have t1:Heap.IsTuple (Shared.heap ⟨hp,g,d,tk,os⟩) l1 xs:=h1
 have t2:Heap.IsTuple (Shared.heap ⟨hp.push { cls:=.type "tuple_iterator",data:=.fields #[.ref l1,.int 0 0] },g,d,tk,os⟩) l2 ys:=by
  obtain⟨o,ho,r⟩:=h2
  exact⟨o,zG _ ho,r⟩
 wp_walk using wpAny_pyIter_tuple t1,wpAny_pyIter_tuple t2
 exact⟨_,rfl,hR⟩
section
variable {prog:Program}{w:World}{A:Around}{E:vSP}{s:Shared}
theorem zJN {l1 l2:Addr}{xs ys:Array Value}{Q:vSP}(h1:s.heap.IsTuple l1 xs)(h2:s.heap.IsTuple l2 ys)
 (h:∀h',IsZip h' (s.heap.objs.size+4) (s.heap.objs.size+2) (s.heap.objs.size+3) .none->IsPair h' (s.heap.objs.size+2) (.ref s.heap.objs.size) (.ref (s.heap.objs.size+1))->IsPair h' (s.heap.objs.size+3) .none .none ->
  h'.IsTupleIter s.heap.objs.size l1 0->h'.IsTupleIter (s.heap.objs.size+1) l2 0->(∀c o,s.heap.get? c=some o->h'.get? c=some o)->Q (.ref (s.heap.objs.size+4)) { s with heap:=h' }) :
 wpAny (model prog w) A (call (.type "zip") [.ref l1,.ref l2]) Q E s:=by
 refine callType_new PySem.F.called_zip (by decide) (PySem.F.typeCall_zip_2 _ _) (PySem.F.newCall_zip_2 _ _) (fun obj=>PySem.F.args_object_init_3 obj _ _) PySem.F.entry_zip_new (zHZ l1 l2 xs ys) ⟨h1,h2,?_⟩
 have z1:(zt1 s.heap l1).objs.size=s.heap.objs.size+1:=zAR ..
 have z2:(zt2 s.heap l1 l2).objs.size=s.heap.objs.size+2:=by rw[zAR,z1]
 have z3:(zt3 s.heap l1 l2).objs.size=s.heap.objs.size+3:=by rw[zAR,z2]
 have z4:(zt4 s.heap l1 l2).objs.size=s.heap.objs.size+4:=by rw[zAR,z3]
 have up:∀{h:Heap}{c:Addr}{o o':Obj},h.get? c=some o->(h.push o').get? c=some o:=fun e=>zG _ e
 have g5:(zt5 s.heap l1 l2).get? (zt4 s.heap l1 l2).objs.size=some _:=zL _ rfl
 have g4:(zt5 s.heap l1 l2).get? (zt3 s.heap l1 l2).objs.size=some _:=up (zL _ rfl)
 have g3:(zt5 s.heap l1 l2).get? (zt2 s.heap l1 l2).objs.size=some _:=up (up (zL _ rfl))
 have g2:(zt5 s.heap l1 l2).get? (zt1 s.heap l1).objs.size=some _:=up (up (up (zL _ rfl)))
 have g1:(zt5 s.heap l1 l2).get? s.heap.objs.size=some _:=up (up (up (up (zL _ rfl))))
 show _/\_
 rw[z2,z3,z4] at g5
 rw[z1,z2] at g3
 rw[z3] at g4
 rw[z1] at g2
 rw[z4]
 exact⟨⟨_,g5,rfl⟩,h _ g5 g3 g4 ⟨_,g1,rfl,rfl⟩ ⟨_,g2,rfl,rfl⟩ fun c o x=>up (up (up (up (up x))))⟩
end
noncomputable def ItzT (K:PySem.W.Frag)(a b:Addr):It:=
 ⟨fun i H=>∃xs ys x y,SqT K H a xs/\SqT K H b ys/\xs[i]? = some x/\ys[i]? = some y,fun i H x H'=>∃T u v,x = .ref T/\H T=none/\H'=upd H T (.tup [u,v])/\(∀xs,SqT K H a xs->xs[i]? = some u)/\∀ys,SqT K H b ys->ys[i]? = some v,fun i H=>∃xs,SqT K H a xs/\xs.length<=i⟩
theorem zE4 {zp tI tO i1 i2 a b:Addr}(h1:i1<i2)(h2:i2<tI)(h3:tI<tO)(h4:tO<zp)(ha:a<i1)(hb:b<i1):ZAp zp tI tO i1 i2 [i1,a] [i2,b]:=by
 have t1:=zAq h1 h2
 have t2:=zAq h2 h3
 have t3:=zAq h3 h4
 have t4:=zAq t1 h3
 have t5:=zAq t2 h4
 have t6:=zAq t4 h4
 have nm:∀{x y zp:Addr},x≠y->x≠zp->x∉[y,zp]:=fun p q h=>by
  rcases zV.mp h with e | e
  . exact p e
  . exact q (zf.mp e)
 exact⟨zT t3,zT h4,zT t6,zT t5,zT h3,zAG t1,zAG h2,zAG t4,zAG t2,zT h1,
  ⟨nm (zAG t6) (zAG (zAq ha t6)),nm (zAG t4) (zAG (zAq ha t4)),nm (zAG h1) (zAG (zAq ha h1))⟩,
  ⟨nm (zAG t5) (zAG (zAq hb t6)),nm (zAG t2) (zAG (zAq hb t4)),nm (zT h1) (zAG hb)⟩⟩
variable {P:Program}{w:World}{K:PySem.W.Frag}
theorem zHt {elts:List Expr} {x1} {tp:Pos}(a b zp tI tO i1 i2:Addr)(o1:i1<i2)(o2:i2<tI)(o3:tI<tO)(o4:tO<zp)(oa:a<i1)(ob:b<i1) :
 Turn P w K (.Tuple elts x1 tp) (ItzT K a b) [zp,tI,tO,i1,i2] zp (fun i h=>IsZip h zp tI tO .none/\IsPair h tI (.ref i1) (.ref i2)/\(∃u v,IsPair h tO u v)/\h.IsTupleIter i1 a i/\h.IsTupleIter i2 b i) where
 mem:=by simp
 obj:=fun i h st c hc=>by
  obtain⟨gz,hI,⟨u,v,hO⟩,⟨p1,e1,c1,d1⟩,⟨p2,e2,c2,d2⟩⟩:=st
  simp only[zV,List.not_mem_nil,or_false] at hc
  rcases hc with rfl | rfl | rfl | rfl | rfl
  . exact⟨_,gz,fun v zp=>by cases zp⟩
  . exact⟨_,hI,fun v zp=>by cases zp⟩
  . exact⟨_,hO,fun v zp=>by cases zp⟩
  . exact⟨p1,e1,fun v zp=>by rw[d1] at zp;cases zp⟩
  . exact⟨p2,e2,fun v zp=>by rw[d2] at zp;cases zp⟩
 keep:=fun i h h' st k=>by
  obtain⟨gz,hI,⟨u,v,hO⟩,⟨p1,e1,r1⟩,⟨p2,e2,r2⟩⟩:=st
  exact⟨k zp (by simp) _ gz,k tI (by simp) _ hI,⟨u,v,k tO (by simp) _ hO⟩,⟨p1,k i1 (by simp) _ e1,r1⟩,⟨p2,k i2 (by simp) _ e2,r2⟩⟩
 item:=by
  intro X hP hw hK hc i pins s σ H E I hf st hg
  subst hP hw hK
  obtain⟨gz,hI,⟨u0,v0,hO⟩,h1,h2⟩:=st
  obtain⟨xs,ys,x,y,hq1,hq2,hx,hy⟩:=hg
  obtain⟨its1,rv1,p1,hz1⟩:=I.tuple hq1
  obtain⟨its2,rv2,p2,hz2⟩:=I.tuple hq2
  obtain⟨u1,hu1,ru1⟩:=rv1.get hx
  obtain⟨u2,hu2,ru2⟩:=rv2.get hy
  have zlt:zp<s.heap.objs.size:=zQ gz
  have Z:=zE4 o1 o2 o3 o4 oa ob
  have lt1:i<its1.toArray.size:=by simpa using (zK.mp hu1).1
  have lt2:i<its2.toArray.size:=by simpa using (zK.mp hu2).1
  have hT:s.TypeIs (.ref zp) "zip" := ⟨_,gz,rfl⟩
  unfold pyNext
  refine zA (wpAny_attempt (zAD (name:=Str.ofString "__next__") hT PySem.F.slot_zip_next (zAE PySem.F.slot_zip_next hT PySem.F.entry_zip_next
   (zHq (zGE (A:=X.A.in1) (I.ok.hd hc) i1 a (zT oa) its1.toArray) (zGE (A:=X.A.in1) (I.ok.hd hc) i2 b (zT (zAq ob o1)) its2.toArray) Z gz hI hO ⟨h1,p1⟩ ⟨h2,p2⟩ lt1 lt2 fun y1 y2 h' tk hy1 hy2 z' hO' s1' s2' hT' hsz hk=>zC ?_) (PySem.F.args_zip_next_1 _))))
  obtain rfl:y1=u1:=by
   have h1:its1[i]? = some y1:=by simpa using hy1
   rw[hu1] at h1;exact (zX h1).symm
  obtain rfl:y2=u2:=by
   have h1:its2[i]? = some y2:=by simpa using hy2
   rw[hu2] at h1;exact (zX h1).symm
  refine⟨_,rfl,wpAny_letOwnedTupleGo_zip z' fun h2' z2 e2=>?_⟩
  have hT2:IsPair h2' s.heap.objs.size y1 y2:=e2.extBut _ _ (zAG zlt) hT'
  have fpl:∀c∈[zp,tI,tO,i1,i2],c<s.heap.objs.size:=fun c hc=>by
   simp only[zV,List.not_mem_nil,or_false] at hc
   have t1:=zAq o4 zlt
   have t2:=zAq o3 t1
   have t3:=zAq o2 t2
   rcases hc with rfl | rfl | rfl | rfl | rfl
   . exact zlt
   . exact t2
   . exact t1
   . exact zAq o1 t3
   . exact t3
  refine⟨.ref s.heap.objs.size,upd H s.heap.objs.size (.tup [x,y]),I.turnedLaid (t':=tk) (fp:=[zp,tI,tO,i1,i2]) hf (fun c o hb q=>?_) (zI _) ?_,rfl,⟨_,x,y,rfl,I.hok.fresh (zI _),rfl,fun zs hzs=>by rw[I.tuple_inj hzs hq1];exact hx,fun zs hzs=>by rw[I.tuple_inj hzs hq2];exact hy⟩,⟨z2,?_,⟨_,_,e2.extBut _ _ Z.zTO hO'⟩,?_,?_⟩,fun c hc=>?_⟩
  . exact e2.extBut _ _ (fun w=>hb (by simp[w])) (hk c o (fun w=>hb (by simp[w])) (fun w=>hb (by simp[w])) (fun w=>hb (by simp[w])) (fun w=>hb (by simp[w])) q)
  . exact⟨⟨by show 2<=sizeLine;decide,_,hT2,rfl⟩,[y1,y2],.cons ru1 (.cons ru2 .nil),⟨_,hT2,rfl,_,rfl⟩⟩
  . exact e2.extBut _ _ Z.zTI (hk _ _ Z.zTI Z.IO Z.I1 Z.I2 hI)
  . obtain⟨⟨o,ho,r⟩,_⟩:=s1'
    exact⟨o,e2.extBut _ _ Z.z1 ho,r⟩
  . obtain⟨⟨o,ho,r⟩,_⟩:=s2'
    exact⟨o,e2.extBut _ _ Z.z2 ho,r⟩
  . rw[zk (zT (fpl c hc))];exact (hf _ hc).1
 done:=by
  intro X hP hw hK hc i pins s σ H E I hf st hg
  subst hP hw hK
  obtain⟨gz,hI,⟨u0,v0,hO⟩,h1,h2⟩:=st
  obtain⟨xs,hq,hx⟩:=hg
  obtain⟨its,rv,p,_⟩:=I.tuple hq
  have hl:=rv.length
  have Z:=zE4 o1 o2 o3 o4 oa ob
  have hT:s.TypeIs (.ref zp) "zip" := ⟨_,gz,rfl⟩
  have f1:=hf zp (by simp)
  have f2:=hf i1 (by simp)
  unfold pyNext
  refine zA (wpAny_attempt (zAD (name:=Str.ofString "__next__") hT PySem.F.slot_zip_next (zAE PySem.F.slot_zip_next hT PySem.F.entry_zip_next
   (zJg (A:=X.A.in1) (St:=fun h=>h.IsTupleIter i1 a i/\h.IsTuple a its.toArray) (fun h h' st k=>by
    obtain⟨⟨o,ho,r⟩,o2,ho2,r2⟩:=st
    exact⟨⟨o,k i1 (by simp) o ho,r⟩,o2,k a (by simp) o2 ho2,r2⟩) (fun s Q E st qe=>zGA (I.ok.hd hc) st.1 st.2 (by simp;omega) qe) Z gz hI hO ⟨h1,p⟩ fun h' e hk he=>?_) (PySem.F.args_zip_next_1 _))))
  obtain⟨o,ho,hcl⟩:=he
  refine zA (zAj (T := "StopIteration") (b:=true) ⟨o,ho,hcl⟩ isSubtype_stop (zC ?_))
  exact⟨rfl,I.turnedFp (t':=s.toks) (fp:=[zp,tI,tO,i1,i2]) hf fun c u hb q=>hk c u (fun w=>hb (by simp[w])) (fun w=>hb (by simp[w])) q⟩
 self:=fun _ _ _ _ _ st h=>wpAny_pyIter_zip st.1 h
section
variable {X:Cx}
noncomputable def iZipT (K:PySem.W.Frag)(ta:TA):TI:=fun σ H R=>ta σ H fun vs H1=>∃a b,vs=[.ref a,.ref b]/\(∃xs,SqT K H1 a xs)/\(∃ys,SqT K H1 b ys)/\R (ItzT K a b) H1
theorem zLz {elts:List Expr} {x1} {tp:Pos}{a b:Expr}{ta:TA}{p pos:Pos}(hg:Gl X "zip") (hm:X.mg "zip" = none) (ha:PA X [a,b] ta)(hs:starEach [a,b] X.env=(false,eval a X.env)::starEach [b] X.env:=by rfl)(hs2:(backTo pos (starEach [b] X.env)).any (·.1)=false:=by rfl):PI X (.Tuple elts x1 tp) (.Call (.Name "zip" p) [a,b] [] pos) (iZipT X.K ta):=by
 intro pins s σ H R I h
 refine Call_ (zCp I hg hm (by decide +kernel) (PyProof.Rows.callWith_type1 (T := "zip") (thn (ha pos pins s σ H _ I h) fun us s1 ⟨vs,H1,I1,r1,q1⟩=>?_) hs hs2))
 obtain⟨l1,l2,e,⟨xs,hq1⟩,⟨ys,hq2⟩,q⟩:=q1
 subst e
 obtain⟨u1,u2,rfl,rx1,rx2⟩:=zGZ r1
 cases rx1
 cases rx2
 obtain⟨its1,_,p1,_⟩:=I1.tuple hq1
 obtain⟨its2,_,p2,_⟩:=I1.tuple hq2
 have ll1:l1<s1.heap.objs.size:=by obtain⟨o,ho,_⟩:=id p1;exact zQ ho
 have ll2:l2<s1.heap.objs.size:=by obtain⟨o,ho,_⟩:=id p2;exact zQ ho
 refine zJN p1 p2 fun h' hz hI hO h1 h2 hk=>?_
 refine wpAny_pyIter_zip hz ?_
 refine⟨s1.heap.objs.size+4,[s1.heap.objs.size+4,s1.heap.objs.size+2,s1.heap.objs.size+3,s1.heap.objs.size,s1.heap.objs.size+1],_,_,H1,rfl,I1.kept (t':=s1.toks) hk,
  zHt l1 l2 _ _ _ _ _ (zBS _) (zBS _) (zBS _) (zBS _) ll1 ll2,⟨hz,hI,⟨_,_,hO⟩,h1,h2⟩,fun b hb=>?_,q⟩
 have hle:s1.heap.objs.size<=b:=by
  simp only[zV,List.not_mem_nil,or_false] at hb
  rcases hb with rfl | rfl | rfl | rfl | rfl
  . exact Nat.le_add_right _ _
  . exact Nat.le_add_right _ _
  . exact Nat.le_add_right _ _
  . exact zI _
  . exact Nat.le_add_right _ _
 exact I1.fpOk hle (I1.hok.fresh hle)
end
noncomputable def CXO (P:Program)(w:World):CXT:=fun outer H s E e s'=>
 ∃(ea t:Addr)(C:Value)(H':Hp)(B:Heap),e = .ref ea/\s'.os=s.os/\AllBare s'.gens/\Un (frs outer) [] H H' s.heap s'.heap/\HOk P w H' s'.heap /\
  Heap.FlyingW B outer ea C (.ref t) s'.heap/\(∀b u,H' b=some u->∃o,B.get? b=some o)/\(∀b o,s.heap.get? b=some o->H b=none->b∉frs outer->B.get? b=some o)/\(∀b o,s.heap.get? b=some o->b∉frs outer->∃o',B.get? b=some o')/\E C none H'
variable {h:Heap}
theorem zBK.there {a:Addr}{o:HO}(x:zBK P w H h a o):∃ob,h.get? a=some ob:=by
 cases o with
 | lst xs=>obtain⟨_,_,_,_,e⟩:=x;exact⟨_,e⟩
 | tup xs=>obtain⟨⟨_,o2,e2,_⟩,_⟩:=x;exact⟨_,e2⟩
 | dK kvs=>obtain⟨_,_,_,_,o,_,_,e,_⟩:=x;exact⟨_,e⟩
 | dT kvs=>obtain⟨_,_,_,_,o,_,_,e,_⟩:=x;exact⟨_,e⟩
 | set S n=>obtain⟨o,_,_,_,e,_⟩:=x;exact⟨_,e⟩
 | ins C dx fs=>obtain⟨_,_,_,e,_⟩:=x;exact⟨_,e⟩
 | own y=>obtain⟨_,e⟩:=x;exact⟨_,e⟩
 | xd fs=>obtain⟨_,⟨_,_,_,e,_⟩,_⟩:=x;exact⟨_,e⟩
 | rng lo hi=>obtain⟨_,_,_,e⟩:=x;exact⟨_,e⟩
 | frz ob u=>obtain⟨e,_⟩:=x;exact⟨_,e⟩
 | tbl ps=>exact⟨_,show h.get? a=some _ from x⟩
 | met f y=>exact⟨_,show h.get? a=some _ from x⟩
 | ext φ=>obtain⟨_,⟨_,e⟩,_⟩:=x;exact⟨_,e⟩
theorem HOk.stays {B:Heap}(x:HOk P w H h)(k:B.StaysIn h)(k':B.StaysIn h')(tr:∀b u,H b=some u->∃o,B.get? b=some o):HOk P w H h':=fun a o e=>
 (x a o e).stay (fun b u hb q=>by
  have:∃v,H b=some v:=by
   rcases hb with rfl | hb
   . exact⟨_,e⟩
   . exact⟨_,hb⟩
  obtain⟨v,hv⟩:=this
  obtain⟨o',ho'⟩:=tr b v hv
  have e2:o'=u:=zX ((k b o' ho').symm.trans q)
  exact e2 ▸ k' b o' ho') (fun _ q=>q) fun _ _ q=>q
section
variable {P:Program}{w:World}{K:PySem.W.Frag}{mg:sOV}{base:Heap}{N:List Str}{qual:Str}{scope:Scope}{f:Addr}{cd:Value}{A:Around}{outer:List Env}{s0 s:Shared}{H0 H:Hp}{E:XK}{pins:lPO}{σ:St}
theorem zIS {ea:Addr}{C:Value}{vs:List Value}(I:Inv (zJH (CXO P w) P w K mg base N qual scope f cd A outer s0 H0 E) pins σ H s)(hx:Heap.MadeExcOf s.heap h' ea C vs)(hE:E C none H) :
 (zJH (CXO P w) P w K mg base N qual scope f cd A outer s0 H0 E).xe (.ref ea) { s with heap:=h' }:=by
 have hfr:frs (zJH (CXO P w) P w K mg base N qual scope f cd A outer s0 H0 E).stack=(envOfC qual scope s0.heap.objs.size f cd::outer).filterMap (·.frame):=rfl
 have hin:∀env∈(envOfC qual scope s0.heap.objs.size f cd::outer),∀a,env.frame=some a->a∈(envOfC qual scope s0.heap.objs.size f cd::outer).filterMap (·.frame):=fun env he b hb=>zA4.mpr ⟨env,he,hb⟩
 refine wpAny_leaves_madeW (base:=PySem.W.hideAll s.heap ((envOfC qual scope s0.heap.objs.size f cd::outer).filterMap (·.frame))) I.ok.frames rfl (fun b o q=>PySem.W.of_hideAll _ q) (PySem.W.funFrames_hide I.stack hin) hx fun h'' t fl _ _ up=>?_
 have st:(PySem.W.hideAll s.heap ((envOfC qual scope s0.heap.objs.size f cd::outer).filterMap (·.frame))).StaysIn h'':=fl.1
 have old:∀b o,s0.heap.get? b=some o->H0 b=none->b∉frs outer->(PySem.W.hideAll s.heap ((envOfC qual scope s0.heap.objs.size f cd::outer).filterMap (·.frame))).get? b=some o:=fun b o e n hb=>by
  refine PySem.W.hideAll_get _ (I.base.keep b o e n hb (by intro z;cases z)) fun z=>?_
  rcases zV.mp (I.stkSub b z) with q | q
  . exact absurd (zQ e) (by rw[q];exact Nat.not_lt_of_le (zI _))
  . exact hb q
 have al:∀b o,s0.heap.get? b=some o->b∉frs outer->∃o',(PySem.W.hideAll s.heap ((envOfC qual scope s0.heap.objs.size f cd::outer).filterMap (·.frame))).get? b=some o':=fun b o e hb=>by
  obtain⟨o1,e1⟩:=I.base.there b o e (by intro z;cases z)
  refine⟨o1,PySem.W.hideAll_get _ e1 fun z=>?_⟩
  rcases zV.mp (I.stkSub b z) with q | q
  . exact absurd (zQ e) (by rw[q];exact Nat.not_lt_of_le (zI _))
  . exact hb q
 have tr:∀b u,H b=some u->∃o,(PySem.W.hideAll s.heap ((envOfC qual scope s0.heap.objs.size f cd::outer).filterMap (·.frame))).get? b=some o:=fun b u e=>by
  obtain⟨o,ho⟩:=(I.hok b u e).there
  refine⟨o,PySem.W.hideAll_get _ ho fun z=>?_⟩
  have:=I.stkFree b z
  rw[e] at this
  cases this
 refine⟨ea,t,C,H,_,rfl,I.os,I.bare,⟨fun b o e n hb hx'=>st b o (old b o e n hb),fun b o e n hb hx'=>?_,I.base.free,fun b o e hx'=>?_,I.base.tups,I.base.frzs,I.base.tbls⟩,I.hok.stays (fun b o q=>PySem.W.of_hideAll _ q) st tr,fl,tr,old,al,hE⟩
 . obtain⟨sl,e1⟩:=I.base.slot b o e n hb (by intro z;cases z)
   obtain⟨_,o2,e2,nd⟩:=I.stack.mem (show b∈(envOfC qual scope s0.heap.objs.size f cd::outer).filterMap (·.frame) from zc _ hb)
   have e3:o2={ o with slots:=sl }:=zX (e2.symm.trans e1)
   obtain⟨sl2,e4⟩:=up b _ (hx.keeps b _ e1) (fun vs=>by rw[<-e3];exact nd vs)
   exact⟨sl2,e4⟩
 . obtain⟨o1,e1⟩:=I.base.there b o e (by intro z;cases z)
   by_cases hb:b∈(envOfC qual scope s0.heap.objs.size f cd::outer).filterMap (·.frame)
   . obtain⟨_,o2,e2,nd⟩:=I.stack.mem hb
     obtain⟨sl2,e4⟩:=up b _ (hx.keeps b _ e2) nd
     exact⟨_,e4⟩
   . exact⟨_,st b _ (PySem.W.hideAll_get _ e1 hb)⟩
end
noncomputable abbrev bmV:List Value:=[.type "ValueError",.type "Exception",.type "BaseException",.type "object"]
variable {C:Addr}{newId:String}
theorem zGr {bmB:List Value}(X:K.In h)(q:PySem.W.excIn K C bmB newId=true) :
 ∃bm N nm qn bs hdct sn sub ab col dd k0 k1 k2 k3 k5 mN,h.get? C=some (excClassObj nm qn C N bs bm hdct sn sub ab col dd k0 k1 k2 k3 k5 newId)/\h.Ns N mN/\mN "__init__" = none/\OwnTail h bmB bm:=by
 unfold PySem.W.excIn at q
 split at q
 . next dd cd sl look=>
   split at q
   . next D bm k0 k1 k2 k3 n k5 em es=>
     simp only[zAf,beq_iff_eq,Bool.not_eq_true'] at q
     obtain⟨⟨⟨⟨⟨q1,q2⟩,q3⟩,q4⟩,q5⟩,q6⟩:=q
     subst q1 q2
     cases cd
     simp only at em q3 q5 q6
     subst em q3
     cases sl
     simp only at es
     subst es
     exact⟨_,_,_,_,_,_,_,_,_,_,_,_,_,_,_,_,_,X _ _ look,.of_isNs (PySem.W.isNs_of_in X q5),PySem.W.nsMap_none_of_in X q5 q6,PySem.W.tail_of_in X q4⟩
   . cases q
 . cases q
noncomputable def tRaise (C:Addr)(t:TA)(E:XK):TS:=fun _ σ H=>t σ H fun _ H1=>E (.ref C) none H1
theorem zJ5 {X:Cx}{x:Str}{C:Addr}{e:Expr}{t:TA}{E:XK}{np cpos pos:Pos}(hg:Gl X x)(hm:X.mg x=some (.ref C))(q:PySem.W.excIn X.K C bmV "ValueError.__new__" = true) (hc:X.calm=true)(ha:PA X [e] t)
 (hxe:∀(pins:lPO)(σ:St)(H:Hp)(s:Shared)(h':Heap)(ea:Addr)(vs:List Value),Inv X pins σ H s->Heap.MadeExcOf s.heap h' ea (.ref C) vs->E (.ref C) none H->X.xe (.ref ea) { s with heap:=h' })
 (hs:starEach [e] X.env=[(false,eval e X.env)]:=by rfl)(hd:(x==("__debug__" : Str))=false:=by decide) (hl:∀ σ H Q,t σ H Q->t σ H fun vs H1=>vs.length<=1/\Q vs H1) :
 PS X (.Raise (some (.Call (.Name x np) [e] [] cpos)) none pos) (tRaise C t E):=by
 intro pins s σ H D I h
 obtain⟨bm,Nn,nm,qn,bs,hdct,sn,sub,ab,col,dd,k0,k1,k2,k3,k5,mN,hC,hN,hni,T⟩:=zGr I.mod.kin q
 refine wpAny_Raise_call_subT (C:=C) (nm:=nm) (q:=qn) (N:=Nn) (bs:=bs) (bm:=bm) (hdct:=hdct) (sn:=sn) (sub:=sub) (ab:=ab) (col:=col) (dd:=dd) (k0:=k0) (k1:=k1) (k2:=k2) (k3:=k3) (k5:=k5)
  PySem.F.excBase_ValueError (mN:=mN) (T.hasType (by rfl)) (I.ok.hd hc) (by rw[hs];rfl) hni (zEI I hg hm ⟨rfl,?_⟩ hd)
 have ha':=ha cpos pins s σ H _ I (hl σ H _ h)
 rw[hs] at ha' ⊢
 refine Calls.evalArgs_plain (thn ha' fun us s2 ⟨vs,H2,I2,r2,z2,q2⟩=>?_)
 exact⟨rfl,by rw[<-r2.length];have:sizeLine=16777216:=rfl;show vs.length<=_;omega,I2.bk _ _ hC,hN.keeps I2.bk,T.keeps I2.bk,fun h' ea mx=>hxe pins σ H2 s2 h' ea us I2 mx q2⟩
variable {x:Str}
theorem Fun.okX {mg:sOV}{base:Heap}{qual:Str}{st:Stmt}{f:Addr}{fd:FuncData}{N ps:List Str}{k:Nat}{sp:Sp}(F:Fun K x qual st f fd)(S:zAO N ps (defScope st))(len:∀vs H Q E,sp vs H Q E->vs.length=ps.length)
 (hbody:∀(cdv:Value)(A:Around)(outer:List Env)(s:Shared)(H:Hp)(vs:List V)(Q:VK)(E:XK),zDM k (A.deeper (envOfC qual (defScope st) s.heap.objs.size f cdv))->sp vs H Q E ->
  ∃t,PSs (zJH (CXO P w) P w K mg base N qual (defScope st) f cdv A outer s H E) (defBody st) t/\t { nx:=fun _ H'=>Q .non H',rt:=Q } (start N vs) H):zAg P w K mg base (CXO P w) (k+1) f fd ps sp:=by
 obtain⟨oc,od,kV,doc,pm,an,cdv,ct,osl,rfl,lk,hcd⟩:=F.ex
 exact zMi lk hcd S len fun A outer s H vs Q E hr hsp=>hbody cdv A outer s H vs Q E hr hsp
section
variable {X:Cx}{pins:lPO}{σ:St}{H:Hp}{s:Shared}
theorem zHr {M:Model}{A:Around}{E:vSP}{i:Nat}{v:V}{Q:Unit->Shared->Prop}(I:Inv X pins σ H s)(hN:X.N.Nodup)(hi:X.N[i]? = some x)(hk:X.env.kindOf x=some .local)(hv:σ[i]? = some (some v))
 (h:∀s',Inv X pins (σ.set i none) H s'->Q () s'):wpAny M A (unbindName X.env x) Q E s:=by
 obtain⟨m,hn,hl⟩:=id I.loc
 have hcls:(X.env.scope.kind == .class || (X.env.scope.kind == .module && X.env.locals != X.env.globals))=false:=by rw[I.ok.kind];rfl
 have hk':X.env.scope.names.lookup x=some .local:=hk
 obtain⟨u,_,lk⟩:=hl i x v hi hv (.inl hk')
 have hm:m x=some u:=by
  rcases lk with ⟨_,e⟩ | ⟨q,_⟩
  . exact e
  . rcases q with q | q <;> (rw[hk] at q;cases q)
 obtain⟨oL,_,_,hoL,_⟩:=id hn
 have neL:∀b o,X.s₀.heap.get? b=some o->b≠X.env.locals:=fun b o e=>zT (zi (zQ e) I.ok.above)
 refine wpAny_unbindName_local hk hn hm hcls fun h' uu hn' hs=>h _ ⟨I.ok,I.os,I.bare,⟨fun b o e n hb hx=>(hs.2 b (neL b o e)).trans (I.base.keep b o e n hb hx),fun b o e n hb hx=>?_,I.base.free,fun b o e hx=>?_,I.base.tups,I.base.frzs,I.base.tbls⟩,⟨_,hn',fun j y v' e1 e2 e3=>?_⟩,fun y c e=>?_,I.free,I.freeC,fun p hp=>?_,fun b ob e=>?_,by simpa using I.len⟩
 . obtain⟨sl,e1⟩:=I.base.slot b o e n hb hx
   exact⟨sl,(hs.2 b (neL b o e)).trans e1⟩
 . obtain⟨o',e1⟩:=I.base.there b o e hx
   exact⟨o',(hs.2 b (neL b o e)).trans e1⟩
 . have hj:j≠i:=fun z=>by
    subst z
    have:j<σ.length:=(zK.mp hv).1
    rw[List.getElem?_set_self this] at e2
    cases e2
   rw[List.getElem?_set_ne (Ne.symm hj)] at e2
   obtain⟨u',r',q⟩:=hl j y v' e1 e2 e3
   refine⟨u',r',?_⟩
   rcases q with ⟨k,e⟩ | ⟨k,c,e,z⟩
   . have ny:y≠x:=fun e=>hj (zFK hN e1 (e ▸ hi))
     exact .inl ⟨k,by simp[ny,e]⟩
   . exact .inr ⟨k,c,e,z.sameBut hs (I.cne y c e)⟩
 . obtain⟨w',z⟩:=I.cell y c e
   exact⟨w',z.sameBut hs (I.cne y c e)⟩
 . obtain⟨e,n,ne,nf,d⟩:=I.pin p hp
   exact⟨(hs.2 p.1 ne).trans e,n,ne,nf,d⟩
 . refine (I.hok b ob e).stay (fun c w' hc q=>(hs.2 c ?_).trans q) (fun _ q=>q) fun _ _ q=>q
   rintro rfl
   rcases hc with rfl | hc
   . rw[I.free] at e;cases e
   . rw[I.free] at hc;cases hc
end
variable {W:Addr}
theorem zHa {M:Model}{A:Around}{E:vSP}{s:Shared}{nm qn nm' qn':Str}{Nn Nn':Addr}{bs bm bs' bm':List Value}{hdct hdct':Bool}{sn sn':List Str}{sub sub':List Value}{ab ab':Bool}{col col':Option Bool}{dd dd':Option Addr}
 {k0 k1 k2 k3 k5 k0' k1' k2' k3' k5':Option Value}{newId':String}{e:Addr}{oe:Obj}{Q:Bool->Shared->Prop}
 (hC:s.heap.get? C=some (excClassObj nm qn C Nn bs bm hdct sn sub ab col dd k0 k1 k2 k3 k5 newId))(hW:s.heap.get? W=some (excClassObj nm' qn' W Nn' bs' bm' hdct' sn' sub' ab' col' dd' k0' k1' k2' k3' k5' newId'))
 (he:s.heap.get? e=some oe)(hcls:oe.cls = .ref C)(hb:bm'.contains (.type "BaseException")=true) (hs:(Value.ref C::bm).contains (.ref W)=true)(hq:Q true s):wpAny M A (excMatches (.ref e) (.ref W)) Q E s:=by
 obtain⟨h,g,d,t,os⟩:=s
 have hWB:(Value.ref W::bm').contains (.type "BaseException")=true:=by rw[List.contains_cons,hb,Bool.or_true]
 have f:=tc_notTuple
 unfold excMatches
 repeat (first | (with_reducible refine wpAny_loadPart_at he ?_;rw[hcls]) | with_reducible refine wpAny_loadPart_at hW ?_ | (with_reducible refine wpAny_isSubtype_exc hW ?_;rw[hWB]) | (with_reducible refine wpAny_isSubtype_exc hC ?_;rw[hs]) | wp_step)
 exact hq
noncomputable def subIn (K:PySem.W.Frag)(C W:Addr):Bool:=match K.lookup C with
 | some ⟨_,_,.cls cd,_⟩=>cd.mro.contains (.ref W)
 | _=>false
theorem sub_of {nm qn:Str}{Nn:Addr}{bs bm:List Value}{hdct:Bool}{sn:List Str}{sub:List Value}{ab:Bool}{col:Option Bool}{dd:Option Addr}{k0 k1 k2 k3 k5:Option Value}
 (X:K.In h)(q:subIn K C W=true)(hC:h.get? C=some (excClassObj nm qn C Nn bs bm hdct sn sub ab col dd k0 k1 k2 k3 k5 newId)):(Value.ref C::bm).contains (.ref W)=true:=by
 unfold subIn at q
 split at q
 . next look=>
   have e:=(X _ _ look).symm.trans hC
   unfold excClassObj at e
   cases e
   exact q
 . cases q
noncomputable def Cx.held (X:Cx)(ea:Addr)(oe:Obj):Cx:={ X with A:=X.A.mark (some (.ref ea)),calm:=false,pn:=(ea,oe)::X.pn,xe:=fun _ _=>False }
section
variable {X:Cx}{pins:lPO}{σ:St}{H:Hp}{s:Shared}{ea:Addr}{oe:Obj}
theorem Inv.hold (I:Inv X pins σ H s)(h1:s.heap.get? ea=some oe)(h2:H ea=none)(h3:ea≠X.env.locals)(h4:ea∉X.fs)(h5:∀v,oe.data ≠ .cell v):Inv (X.held ea oe) pins σ H s:=
 ⟨⟨I.ok.mod,I.ok.kind,I.ok.glob,I.ok.blt,I.ok.above,I.ok.inj,I.ok.has,I.ok.cab,(fun z=>by cases z),I.ok.frames,I.ok.stk,I.ok.exf,I.ok.bs,I.ok.bsz,I.ok.noex,I.ok.exfs,I.ok.funs,I.ok.frf⟩,I.os,I.bare,I.base,I.loc,I.cell,I.free,I.freeC,
  fun p hp=>by
   rcases zV.mp (show p∈(ea,oe)::(X.pn++pins) from hp) with rfl | hp
   . exact⟨h1,h2,h3,h4,h5⟩
   . exact I.pin p hp,I.hok,I.len⟩
theorem Inv.letgo (ok:X.Ok)(I:Inv (X.held ea oe) pins σ H s):Inv X pins σ H s:=
 ⟨ok,I.os,I.bare,I.base,I.loc,I.cell,I.free,I.freeC,fun p hp=>I.pin p (zc _ hp),I.hok,I.len⟩
end
theorem zIr {st:List Env}{H1 H':Hp}{s1 s':Shared}{ea:Addr}{C a0:Value}{B h5:Heap}(un:Un (frs st) [] H1 H' s1.heap s'.heap)(fl:Heap.FlyingW B st ea C a0 s'.heap)
 (old:∀b o,s1.heap.get? b=some o->H1 b=none->b∉frs st->B.get? b=some o)(al:∀b o,s1.heap.get? b=some o->b∉frs st->∃o',B.get? b=some o')(st5:B.StaysIn h5)(up:s'.heap.UpToSlots h5):Un (frs st) [] H1 H' s1.heap h5:=by
 refine⟨fun b o e n hb _=>st5 b o (old b o e n hb),fun b o e n hb _=>?_,un.free,fun b o e _=>?_,un.tups,un.frzs,un.tbls⟩
 . obtain⟨sl2,e2⟩:=un.slot b o e n hb (by intro z;cases z)
   obtain⟨_,o3,e3,nd⟩:=fl.2.2.1.mem hb
   obtain⟨sl4,e4⟩:=up b _ e3 nd
   have e5:=zX (e3.symm.trans e2)
   rw[e5] at e4
   exact⟨sl4,e4⟩
 . by_cases hb:b∈frs st
   . obtain⟨_,o3,e3,nd⟩:=fl.2.2.1.mem hb
     obtain⟨sl4,e4⟩:=up b _ e3 nd
     exact⟨_,e4⟩
   . obtain⟨o3,e3⟩:=al b o e hb
     exact⟨_,st5 b o3 e3⟩
noncomputable def endsH (i:Nat)(D:zJb):zJb:={ D with nx:=fun σ H=>D.nx (σ.set i none) H,bk:=fun σ H=>D.bk (σ.set i none) H,ct:=fun σ H=>D.ct (σ.set i none) H }
noncomputable def EH (K:PySem.W.Frag)(W:Addr)(ts:Addr->Obj->Addr->TS)(i:Nat)(D:zJb)(σ:St):XK:=fun C _ H'=>∃Ca,C = .ref Ca/\PySem.W.excIn K Ca bmV "ValueError.__new__" = true/\subIn K Ca W=true/\∀ea oe,oe.cls = .ref Ca->H' ea=none->ts ea oe Ca (endsH i D) (σ.set i (some (.ref ea))) H'
noncomputable def tTry (K:PySem.W.Frag)(W:Addr)(tb:XK->TS)(ts:Addr->Obj->Addr->TS)(i:Nat):TS:=fun D σ H=>tb (EH K W ts i D σ) D σ H
noncomputable def PX (X:Cx)(body:List Stmt)(tb:XK->TS):Prop:=∀(pins:lPO)(s:Shared)(σ:St)(H:Hp)(D:zJb)(E1:XK),Inv X pins σ H s->tb E1 D σ H ->
 wpAny (model X.prog X.w) X.A (execs body X.env) (SP X pins D) (fun e s'=>∃H1 s1,Inv X pins σ H1 s1/\CXO X.prog X.w X.stack H1 s1 E1 e s') s
theorem zLA {X:Cx}{body:List Stmt}{n:Str}{i:Nat}{b0:Stmt}{suite:List Stmt}{pos hpos np:Pos}{tb:XK->TS}{ts:Addr->Obj->Addr->TS}(hN:X.N.Nodup)(hi:X.N[i]? = some n)(hk:X.env.kindOf n=some .local)
 (hst:X.stack=X.env::X.outer)(hfl:X.env.frame=some X.env.locals)(hex:X.ex=[])(hg:Gl X x)(hm:X.mg x=some (.ref W))(qW:PySem.W.excIn X.K W bmV "ValueError.__new__" = true)
 (hb:PX X body tb)(hs:∀(ea:Addr)(oe:Obj)(C:Addr),oe.cls = .ref C->PSs (X.held ea oe) (b0::suite) (ts ea oe C))(hd:(x==("__debug__" : Str))=false:=by decide) :
 PS X (.Try body [.ExceptHandler (some (.Name x np)) (some n) (b0::suite) hpos] [] [] pos) (tTry X.K W tb ts i):=by
 intro pins s σ H D I h
 refine wpAny_Try_except (zAz (hb pins s σ H D _ I h) (fun fl s' hq=>?_) fun e s' hq=>?_)
 . cases fl with
   | next=>exact wpAny_execs_nil hq
   | brk=>exact hq
   | cont=>exact hq
   | ret u=>exact hq
 . obtain⟨H1,s1,I1,ea,t,C,H',B,rfl,os,bare,un,hok,fl,tr,old,al,Ca,rfl,qC,sub,hts⟩:=hq
   have hfr:X.A.frames=some (X.env::X.outer):=by rw[<-hst];exact I.ok.frames
   have fl':=fl
   rw[hst] at fl'
   have hHe:H' ea=none:=by
    cases z:H' ea with
    | none=>rfl
    | some u=>
     obtain⟨o,ho⟩:=tr ea u z
     rw[fl.2.1] at ho;cases ho
   refine wpAny_looks_onW hfr hfl fl' fun h4 held up4=>?_
   refine wpAny_landsW held fun h5 fl5 up5=>?_
   have key:∀(h6:Heap),Heap.FlyingW B (X.env::X.outer) ea (.ref Ca) (.ref t) h6->s'.heap.UpToSlots h6->∃oe,h6.get? ea=some oe/\oe.cls = .ref Ca/\Inv (X.held ea oe) pins σ H' { s' with heap:=h6 }:=fun h6 fl6 up6=>by
    obtain⟨oe,ws,hoe,hc,hdt,_⟩:=fl6.first
    have un6:Un (frs X.stack) [] H1 H' s1.heap h6:=zIr un fl old al fl6.1 up6
    have I6:Inv X pins σ H' { s' with heap:=h6 }:=I1.call' (s':={ s' with heap:=h6 }) os un6 (hok.stays fl.1 fl6.1 tr) bare (fun b z=>absurd z (by simp))
    have nfr:ea∉frs X.stack:=fun z=>by
     rw[hst] at z
     obtain⟨_,o,ho,nd⟩:=fl6.2.2.1.mem z
     rw[hoe] at ho
     cases ho
     exact nd ws hdt
    have hfs:frs X.stack=X.env.locals::X.fs:=by
     rw[hst]
     unfold frs
     rw[zBC,hfl]
     rfl
    rw[hfs] at nfr
    exact⟨oe,hoe,hc,I6.hold hoe hHe (fun z=>nfr (z ▸ zZ)) (fun z=>nfr (zc _ z)) (fun v z=>by rw[hdt] at z;cases z)⟩
   obtain⟨oe5,hoe5,hc5,I5⟩:=key h5 fl5 (up4.trans up5)
   refine wpAny_handleBy_cons (codeAny_handlers_test (zEI (X:=X.held ea oe5) I5 hg hm ?_ hd)) (by intro q;cases q)
   obtain⟨bm,Nn,nm,qn,bs,hdct,sn,sb,ab,col,dd,k0,k1,k2,k3,k5,mN,hC,_,_,_⟩:=zGr I5.kIn qC
   obtain⟨bm',Nn',nm',qn',bs',hdct',sn',sb',ab',col',dd',k0',k1',k2',k3',k5',mN',hW,_,_,TW⟩:=zGr I5.kIn qW
   refine zHa hC hW hoe5 hc5 (TW.hasType (by rfl)) (sub_of I5.kIn sub hC) ?_
   refine codeAny_handlers_suite_as (lands_againW fl5 fun h6 fl6 up6=>?_)
   obtain⟨oe6,hoe6,hc6,I6⟩:=key h6 fl6 ((up4.trans up5).trans up6)
   refine zCh (X:=X.held ea oe6) I6 hN hi (.inl hk) (v:=.ref ea) rfl (fun s7 I7=>?_) (.inr hk)
   refine zAz (hs ea oe6 Ca hc6 pins s7 _ H' (endsH i D) I7 (hts ea oe6 hc6 hHe)) (fun f s8 hq=>?_) fun _ _ z=>z.elim
   have fin:∀{σ':St}{H2:Hp}{Q:Unit->Shared->Prop},Inv (X.held ea oe6) pins σ' H2 s8->(∀s9,Inv X pins (σ'.set i none) H2 s9->Q () s9)->wpAny (model X.prog X.w) X.A (do bindName X.env n .none;unbindBehindTheSuite X.env n hpos) Q X.xe s8:=fun {σ' H2 Q} J hQ=>by
    have J1:=Inv.letgo I.ok J
    have hiσ:i<σ'.length:=by rw[J1.len];exact (zK.mp hi).1
    refine zA (wpAny_bindName (zCh J1 hN hi (.inl hk) (v:=.non) rfl (fun s9 J2=>?_) (.inr hk)))
    unfold unbindBehindTheSuite
    refine wpAny_onRaise (zHr J2 hN hi hk (v:=.non) (List.getElem?_set_self hiσ) fun s10 J3=>?_)
    rw[List.set_set] at J3
    exact hQ s10 J3
   cases f with
   | next=>
    obtain⟨σ',H2,J,q⟩:=hq
    exact fin J fun s9 J9=>⟨_,H2,J9,q⟩
   | brk=>
    obtain⟨σ',H2,J,q⟩:=hq
    exact fin J fun s9 J9=>⟨_,H2,J9,q⟩
   | cont=>
    obtain⟨σ',H2,J,q⟩:=hq
    exact fin J fun s9 J9=>⟨_,H2,J9,q⟩
   | ret u=>
    obtain⟨v,σ',H2,J,r,q⟩:=hq
    exact fin J fun s9 J9=>⟨v,_,H2,J9,r,q⟩
end L2
namespace L2
open PySem PySem.Spec PySem.W PyProof.Rows Builtin Builtin.ObjectAttr Builtin.Getset_descriptor
variable {C:Addr}{tk:Tok}
section
variable {prog:Program}{w:World}{A:Around}{E:vSP}{s:Shared}{K:Frag}{x C:Addr}{ox:Obj}
structure zEk (K:Frag)(C:Addr):Prop where
 ga:findIn K (.ref C) "__getattribute__" = some (some (.builtin "BaseException.__getattribute__"))
 gn:findIn K (.ref C) "__getattr__" = some none
 cl:findIn K (.ref C) "__class__" = some (some (.builtin "object.__class__"))
 mo:mroIn K C (.type "object")=some true
 mb:mroIn K C (.type "BaseException")=some true
 ci:(clsIn K C).isSome=true
noncomputable def zEj (h:Heap)(x C:Addr):Prop:=∃o,h.get? x=some o/\o.cls = .ref C
theorem zEj.type {M:Model}{h:Heap}{x:Addr}(I:zEj h x C):Looks M h (typeOf (.ref x)) (.ref C):=by
 obtain⟨o,e,c⟩:=I
 rw[<-c]
 exact (Looks.ld e).andThen .now
theorem zKX {tp:Value}{R:Result->Shared->Prop}(X:K.In s.heap)(I:zEj s.heap x C)(hm:mroIn K C (.type "object")=some true) (h:R (.ok (.ret (.ref C))) s) :
 codeAny (model prog w) A (.call (.builtin "getset_descriptor.__get__") ⟨[.builtin "object.__class__",.ref x,tp],[]⟩) R s:=by
 obtain⟨h0,g0,d0,t0,o0⟩:=s
 have T0:=I.type (M:=model prog w)
 have T1:=looks_mroIn (M:=model prog w) X hm
 refine codeAny_call_builtin KF.slot_gs.plain KF.entry_gs (KF.slot_gs.check _ _ _ _ _ _ _ _ KF.type_class (KF.args_gs _ _ _) ?_)
 unfold Builtin.«getset_descriptor.__get__» descrGet;rw[dga_obj]
 apply zA;apply zC
 unfold descrGetter descrCheckInstance descrNameAndClass isInstance;simp only[KF.owner_class]
 repeat lk
 refine⟨Code.quiet_builtin _ (by decide +kernel),codeAny_builtin KF.entry_class (?_:wpAny _ _ _ _ _ _)⟩
 unfold Builtin.«object.__class__»;unfold shownTypeOf
 repeat lk
 exact h
theorem zI8 {Q:PySem.Fin->Shared->Prop}(X:K.In s.heap)(I:zEj s.heap x C)(F':zEk K C)(hq:Q (.done (.ret (.ref C))) s) :
 wpAny (model prog w) A (Builtin.«object.__getattribute__» ⟨[.ref x,.str "__class__" tk],[]⟩) Q E s:=by
 obtain⟨h,g,d,t,os⟩:=s
 have L0:=I.type (M:=model prog w)
 have L1:=looks_findIn (M:=model prog w) X F'.cl
 have hT5:(⟨h,g,d,t,os⟩:Shared).TypeIs (.builtin "object.__class__") "getset_descriptor" := F.typeOf_object_class
 have f5:=F.typeOf_object_class
 have f6:=F.slot_gs_get.lookup
 have f7:=F.slot_gs_set.lookup
 repeat (any_goals (first | assumption | with_reducible refine L0.at ?_ | with_reducible refine L1.at ?_ | wp_step))
 refine zKX (s:=⟨h,g,d,t,os⟩) X I F'.mo ?_
 repeat (any_goals (first | assumption | wp_step))
theorem zI9 {M:Model}{nameV:Value}{Q:Unit->Shared->Prop}(X:K.In s.heap)(I:zEj s.heap x C)(F':zEk K C)(hq:Q () s):wpAny M A (checkBuiltinCall "BaseException.__getattribute__" ⟨[.ref x,nameV],[]⟩) Q E s:=by
 obtain⟨h,g,d,t,os⟩:=s
 have L0:=I.type (M:=M)
 have L1:=looks_mroIn (M:=M) X F'.mb
 have e1:builtinKind "BaseException.__getattribute__" = some .slot:=by decide +kernel
 have e2:splitId "BaseException.__getattribute__" = some ("BaseException", "__getattribute__"):=by decide +kernel
 have ha:=F.args_bexc_ga (.ref x) nameV
 simp only[checkBuiltinCall,e1,e2]
 refine zA ?_
 unfold isInstance
 repeat (any_goals (first | assumption | with_reducible refine L0.at ?_ | with_reducible refine L1.at ?_ | wp_step))
theorem zKY {R:Result->Shared->Prop}(X:K.In s.heap)(I:zEj s.heap x C)(F':zEk K C)(hq:R (.ok (.ret (.ref C))) s) :
 codeAny (model prog w) A (.call (.builtin "BaseException.__getattribute__") ⟨[.ref x,.str "__class__" tk],[]⟩) R s:=
 codeAny_call_builtin F.attrBase_ValueError.ga.plain F.entry_bexc_ga (zI9 X I F' (zI8 X I F' hq))
theorem exc_by {fill:Bool}{Q:vSP}(X:K.In s.heap)(I:zEj s.heap x C)(F':zEk K C)(hq:Q (.ref C) s):wpAny (model prog w) A (getAttrBy (.ref x) (.str "__class__" tk) fill) Q E s:=by
 obtain⟨h,g,d,t,os⟩:=s
 have L0:=I.type (M:=model prog w)
 have L1:=looks_findIn (M:=model prog w) X F'.ga
 have L2:=looks_findIn (M:=model prog w) X F'.gn
 have f3:=F.attrBase_ValueError.ga.bind (.ref x)
 have hx2:(Value.builtin "BaseException.__getattribute__" == Value.builtin "object.__getattribute__")=false:=by decide +kernel
 have hx1:(onTheHeap (Value.ref C) && Value.builtin "BaseException.__getattribute__" == Value.builtin "object.__getattribute__")=false:=by rw[hx2];rfl
 repeat (any_goals (first | assumption | with_reducible refine L0.at ?_ | with_reducible refine L1.at ?_ | with_reducible refine L2.at ?_ | wp_step))
 refine zKY (s:=⟨h,g,d,t,os⟩) X I F' ?_
 repeat (any_goals (first | assumption | wp_step))
theorem zKZ {Q:Option Value->Shared->Prop}(X:K.In s.heap)(I:zEj s.heap x C)(F':zEk K C)(hq:Q (some (.ref C)) { s with toks:=s.toks+1 }):wpAny (model prog w) A (getAttr? (.ref x) "__class__") Q E s:=by
 obtain⟨h,g,d,t,os⟩:=s
 unfold getAttr? getAttrBy?
 repeat (any_goals (first | assumption | with_reducible apply exc_by (s:=⟨h,g,d,t+1,os⟩) X I F' | wp_step))
theorem zFN (F':zEk K C):KitX K (.ref x) (.ref C) (fun h=>zEj h x C) where
 ty:=fun _ _ _ I=>I.type
 it:=fun _ _ X _=>by
  obtain⟨cdD,hcD⟩:=zBO.mp F'.ci
  unfold clsIn at hcD
  split at hcD
  . next ho=>
    intro A' Q' E' s' k q
    unfold isType loadHead
    exact zA (wpAny_loadPart (k _ _ (X _ _ ho)) (zC q))
  . cases hcD
 ne:=fun h tp dd its n sl X htp=>by
  obtain⟨cdD,hcD⟩:=zBO.mp F'.ci
  refine Bool.eq_false_iff.mpr fun q=>?_
  have e:C=tp:=Value.ref.inj (beq_iff_eq.mp q)
  subst e
  unfold clsIn at hcD
  split at hcD
  . next ho=>
    have z:=(X _ _ ho).symm.trans htp
    cases z
  . cases hcD
 ca:=fun X I k=>zKZ X I F' k
end
structure zGU (X:Cx)(ea C:Addr):Prop where
 pin:∃oe,(ea,oe)∈X.pn/\oe.cls = .ref C
variable {ea:Addr}
section
variable {X:Cx}
theorem zEM {pins:lPO}{σ:St}{H:Hp}{s:Shared}(h:zGU X ea C)(I:Inv X pins σ H s):zEj s.heap ea C:=by
 obtain⟨oe,hp,hc⟩:=h.pin
 obtain⟨e,_⟩:=I.pin (ea,oe) (zAe _ hp)
 exact⟨oe,e,hc⟩
theorem zGO (hh:zGU X ea C):zCg X (.builtin "isinstance") (fun xs H Q=>∃W b,zEk X.K C/\xs=[.ref ea,.ref W]/\PySem.W.kitOne X.K (.ref C) (.ref W)=some b/\Q (.bl b) H):=by
 intro pins s σ H xs us Q I r h
 obtain⟨W,b,F',rfl,e,q⟩:=h
 obtain⟨u,w',rfl,rx,rT⟩:=zGZ r
 cases (show u=Value.ref ea from rx)
 cases (show w'=Value.ref W from rT)
 have J:=zEM hh I
 exact PySem.W.kia_one (zFN F') I.kIn J e (fun z=>nomatch z) fun tk=>⟨.bl b,H,I.tok tk,rfl,q⟩
theorem zFW (hh:zGU X ea C):zCg X (.builtin "isinstance") (fun xs H Q=>∃T b,zEk X.K C/\xs=[.ref ea,.ty T]/\PySem.W.kitOne X.K (.ref C) (.type T)=some b/\Q (.bl b) H):=by
 intro pins s σ H xs us Q I r h
 obtain⟨T,b,F',rfl,e,q⟩:=h
 obtain⟨u,w',rfl,rx,rT⟩:=zGZ r
 cases (show u=Value.ref ea from rx)
 cases (show w'=Value.type T from rT)
 have J:=zEM hh I
 exact PySem.W.kia_one (zFN F') I.kIn J e (fun z=>nomatch z) fun tk=>⟨.bl b,H,I.tok tk,rfl,q⟩
theorem zFV (hh:zGU X ea C):zCg X (.builtin "isinstance") (fun xs H Q=>∃(tp:Addr)(Ws:List Addr)(b:Bool),zEk X.K C/\xs=[.ref ea,.ref tp]/\H tp=some (.tup (Ws.map V.ref))/\PySem.W.kitAny X.K (.ref C) (Ws.map Value.ref)=some b/\Q (.bl b) H):=by
 intro pins s σ H xs us Q I r h
 obtain⟨tp,Ws,b,F',rfl,ht,e,q⟩:=h
 obtain⟨u,w',rfl,rx,rT⟩:=zGZ r
 cases (show u=Value.ref ea from rx)
 cases (show w'=Value.ref tp from rT)
 have J:=zEM hh I
 obtain⟨⟨z,o2,e2,d2⟩,its,rv,ob,e3,c3,n3,s3⟩:=(show zBK X.prog X.w H s.heap tp (.tup (Ws.map V.ref)) from I.hok tp _ ht)
 have hits:its=Ws.map Value.ref:=by
  have:∀(Ws:List Addr)(its:List Value),zBL (Ws.map V.ref) its->its=Ws.map Value.ref:=by
   intro Ws
   induction Ws with
   | nil=>intro its h;cases h;rfl
   | cons a r ih=>
    intro its h
    cases h with
    | cons h1 h2=>rw[ih _ h2,show _=Value.ref a from h1];rfl
  exact this Ws its rv
 obtain⟨c',d',da',sl'⟩:=ob
 simp only at c3 s3
 subst c3 s3 hits
 exact PySem.W.kia_tup (zFN F') I.kIn J e3 e (fun z=>nomatch z) fun tk=>⟨.bl b,H,I.tok tk,rfl,q⟩
theorem zGq {X:Cx}{oe:Obj}(h:oe.cls = .ref C):zGU (X.held ea oe) ea C:=⟨⟨oe,zZ,h⟩⟩
variable {k:Nat}{f:Addr}{fd:FuncData}{ps:List Str}{sp:Sp}{x:Str}{p pos epos:Pos}{e:Expr}{es:List Expr}{t:TA}
theorem call_x {pins:lPO}{s:Shared}{σ:St}{H:Hp}{Q:VK}{E1:XK}(F:zAg X.prog X.w X.K X.mg X.base (CXO X.prog X.w) k f fd ps sp)(hr:zDM k X.A)(hg:Gl X x)(hm:X.mg x=some (.ref f))(hk:PySem.W.keepIn X.K (.ref f)=true)(hb:zAU X.K fd ps [])
 (ha:PA X.nox (e::es) t)(I:Inv X pins σ H s)(h:t σ H fun vs H1=>sp vs H1 Q E1)(hdb:(x==("__debug__" : Str))=false:=by decide) (he:starEach (e::es) X.env=(false,eval e X.env)::starEach es X.env:=by rfl)(hpl:(backTo pos (starEach es X.env)).any (·.1)=false:=by rfl) :
 wpAny (model X.prog X.w) X.A (eval (.Call (.Name x p) (e::es) [] pos) X.env) (EP X pins σ Q) (fun e s'=>∃H1 s1,Inv X pins σ H1 s1/\CXO X.prog X.w X.stack H1 s1 E1 e s') s:=by
 refine zBM (zEI I hg hm ?_ hdb)
 refine PySem.W.callWith_K (h₀:=X.base) I.ok.mod.kin hk (zAz (ha pos pins s σ H _ (I.wish _) h) (fun us s1 ⟨vs,H1,I1,r,q⟩=>⟨I1.unwish.kIn,?_⟩) fun _ _ z=>False.elim z) he hpl
 have I2:=I1.unwish
 have hl:us.length=ps.length:=by rw[<-r.length];exact F.len _ _ _ _ q
 refine zBb (codeAny_mono (F.run X.A X.stack s1 H1 ⟨us,[]⟩ us vs Q E1 hr I2.env0 (by have:=hb s1 us I2.kIn (by rw[zt];exact hl);rw[zt] at this;exact this) r q) fun r s' hq=>?_)
 cases r with
 | error e=>exact⟨H1,s1,I2,hq⟩
 | ok fl=>
  cases fl with
  | ret u=>exact I2.after hq
  | next=>exact False.elim hq
  | brk=>exact False.elim hq
  | cont=>exact False.elim hq
end
end L2
namespace L2
open PySem PySem.Spec PyProof.Rows
section
variable {X:Cx}{a b:Expr}{rest:List Expr}{pos:Pos}{ta tb:TE}
theorem pe_orT (ha:PE X a ta)(hb:PE X (.BoolOp .Or (b::rest) pos) tb):PE X (.BoolOp .Or (a::b::rest) pos) (fun σ H Q=>ta σ H fun x H1=>∃k,TruV X.K x H1 k/\if k=true then Q x H1 else tb σ H1 Q):=by
 intro pins s σ H Q I h
 refine BoolOp_or (thn (ha pins s σ H _ I h) fun v s1 ⟨x,H1,I1,r1,q1⟩=>?_)
 refine thn (zKn pins s1 σ H1 x v (fun k H2=>if k=true then Q x H2 else tb σ H2 Q) I1 r1 q1) fun k s2 ⟨H2,I2,q2⟩=>?_
 cases k with
 | true=>exact⟨x,H2,I2,r1,q2⟩
 | false=>exact hb pins s2 σ H2 Q I2 q2
end
section
variable {X:Cx}
noncomputable def rEqTE (K:PySem.W.Frag):R2:=fun x y H Q=>∃(a b:Addr)(xs:List V),x = .ref a/\y = .ref b/\SqT K H a xs/\SqT K H b []/\Q (.bl xs.isEmpty) H
theorem zL6 (hu:X.A.units<cLine):OpR X (compareOp .Eq) (rEqTE X.K):=by
 intro pins s σ H x y v u Q I rx ry h
 obtain⟨a,b,xs,rfl,rfl,ha,hb,q⟩:=h
 cases rx
 cases ry
 obtain⟨its,r,pl,hz⟩:=I.tuple ha
 obtain⟨its2,r2,pl2,hz2⟩:=I.tuple hb
 have l1:=r.length
 have e2:its2=[]:=by cases r2;rfl
 subst e2
 refine SeqAt.eq_tupleAt (e:=fun _=>true) pl pl2 hu (fun j _ h2=>absurd h2 (by simp)) ⟨.bl _,H,I,rfl,?_⟩
 have e:((List.range (min its.toArray.size ([]:List Value).toArray.size)).all (fun _=>true) && its.toArray.size==([]:List Value).toArray.size)=xs.isEmpty:=by
  cases xs with
  | nil=>cases r;rfl
  | cons x xs=>cases r;simp
 rw[e]
 exact q
end
section
variable {X:Cx}{k:Nat}{f:Addr}{fd:FuncData}{ps:List Str}{sp:Sp}{x y:Str}{p pos epos pos':Pos}{e:Expr}{es:List Expr}{t:TA}{i:Nat}
theorem zK7 (hN:X.N.Nodup)(hi:X.N[i]? = some y)(hx:Loc X.env.scope y)(F:zAg X.prog X.w X.K X.mg X.base (CXO X.prog X.w) k f fd ps sp)(hr:zDM k X.A)(hg:Gl X x)(hm:X.mg x=some (.ref f))(hk:PySem.W.keepIn X.K (.ref f)=true)(hb:zAU X.K fd ps [])
 (ha:PA X.nox (e::es) t)(hs:swapsWith (.Call (.Name x p) (e::es) [] pos) (some (.Name y pos')) epos.line X.env=pure false:=by rfl)(hf:X.fn y=true\/X.env.scope.names.lookup y=some .local:=by first | exact .inl rfl | exact .inr rfl | assumption)(hdb:(x==("__debug__" : Str))=false:=by decide) (he:starEach (e::es) X.env=(false,eval e X.env)::starEach es X.env:=by rfl)(hpl:(backTo pos (starEach es X.env)).any (·.1)=false:=by rfl) :
 PX X [.Assign [.Name y pos'] (.Call (.Name x p) (e::es) [] pos) epos] (fun E1 D σ H=>t σ H fun vs H1=>sp vs H1 (fun v H2=>D.nx (σ.set i (some v)) H2) E1):=by
 intro pins s σ H D E1 I h
 refine wpAny_execs_cons (wpAny_Assign_Name (zAz (call_x F hr hg hm hk hb ha I h hdb he hpl) (fun v s1 ⟨z,H1,I1,r1,q1⟩=>?_) fun _ _ z=>z) hs)
 exact zCh I1 hN hi hx r1 (fun s2 I2=>wpAny_execs_nil ⟨_,H1,I2,q1⟩) hf
end
end L2
namespace STb
open PySem
noncomputable def Ris (xs:Array Nat):Prop:=xs.toList.Pairwise (· < ·)
variable {xs:Array Nat}{j:Nat}
theorem Ris.lt (h:Ris xs){i:Nat}{a b:Nat}(hij:i<j)(hi:xs[i]? = some a)(hj:xs[j]? = some b):a<b:=by
 obtain⟨h1,e1⟩:=Array.getElem?_eq_some_iff.mp hi
 obtain⟨h2,e2⟩:=Array.getElem?_eq_some_iff.mp hj
 have:=zAQ.mp h i j (by simpa using h1) (by simpa using h2) hij
 simpa [e1,e2] using this
theorem zMe (h:Ris xs)(j:Nat):∀(fuel lo hi:Nat),hi-lo<=fuel->lo<=hi->hi<=xs.size->(∀k v,k<lo->xs[k]? = some v->v<j)->(∀k v,hi<=k->xs[k]? = some v->j<=v) ->
 lo<=SetTable.below.go xs j fuel lo hi/\SetTable.below.go xs j fuel lo hi<=hi/\(∀k v,k<SetTable.below.go xs j fuel lo hi->xs[k]? = some v->v<j)/\(∀k v,SetTable.below.go xs j fuel lo hi<=k->xs[k]? = some v->j<=v):=by
 intro fuel
 induction fuel with
 | zero=>
  intro lo hi hf hl hs h1 h2
  have:lo=hi:=by omega
  subst this
  exact⟨zI _,zI _,h1,h2⟩
 | succ fuel ih=>
  intro lo hi hf hl hs h1 h2
  unfold SetTable.below.go
  by_cases c:lo<hi
  . rw[if_pos c]
    have hm:(lo+hi)/2<xs.size:=by omega
    have em:xs[(lo+hi)/2]? = some xs[(lo+hi)/2]:=Array.getElem?_eq_getElem hm
    have eg:xs.getD ((lo+hi)/2) j=xs[(lo+hi)/2]:=by simp[Array.getD,hm]
    dsimp only
    rw[eg]
    by_cases d:xs[(lo+hi)/2]<j
    . rw[if_pos d]
      obtain⟨a,b,c1,c2⟩:=ih ((lo+hi)/2+1) hi (by omega) (by omega) hs (fun k v hk e=>by
       by_cases z:k=(lo+hi)/2
       . subst z;rw[em] at e;cases e;exact d
       . have:=h.lt (i:=k) (j:=(lo+hi)/2) (by omega) e em;omega) h2
      exact⟨by omega,b,c1,c2⟩
    . rw[if_neg d]
      obtain⟨a,b,c1,c2⟩:=ih lo ((lo+hi)/2) (by omega) (by omega) (by omega) h1 (fun k v hk e=>by
       by_cases z:k=(lo+hi)/2
       . subst z;rw[em] at e;cases e;omega
       . have:=h.lt (i:=(lo+hi)/2) (j:=k) (by omega) em e;omega)
      exact⟨a,by omega,c1,c2⟩
  . rw[if_neg c]
    have:lo=hi:=by omega
    subst this
    exact⟨zI _,zI _,h1,h2⟩
theorem zDY (h:Ris xs)(j:Nat):SetTable.below xs j<=xs.size/\(∀k v,k<SetTable.below xs j->xs[k]? = some v->v<j)/\(∀k v,SetTable.below xs j<=k->xs[k]? = some v->j<=v):=by
 obtain⟨_,a,b,c⟩:=zMe h j xs.size 0 xs.size (by omega) (by omega) (zI _) (fun k v hk _=>absurd hk (zBz _)) (fun k v hk e=>by
  have:=(Array.getElem?_eq_some_iff.mp e).1;omega)
 exact⟨a,b,c⟩
theorem zHm (h:Ris xs){i a:Nat}(e:xs[i]? = some a):SetTable.below xs (a+1)=i+1:=by
 obtain⟨h1,h2,h3⟩:=zDY h (a+1)
 have hi:=(Array.getElem?_eq_some_iff.mp e).1
 rcases Nat.lt_trichotomy (SetTable.below xs (a+1)) (i+1) with c | c | c
 . have:=h3 i a (by omega) e;omega
 . exact c
 . have hl:i+1<xs.size:=by omega
   have e2:xs[i+1]? = some xs[i+1]:=Array.getElem?_eq_getElem hl
   have a1:=h2 (i+1) _ c e2
   have a2:=h.lt (i:=i) (j:=i+1) (by omega) e e2
   omega
theorem zHl (h:Ris xs):SetTable.below xs 0=0:=by
 obtain⟨h1,h2,h3⟩:=zDY h 0
 rcases Nat.eq_zero_or_pos (SetTable.below xs 0) with c | c
 . exact c
 . have hl:0<xs.size:=by omega
   have:=h2 0 _ c (Array.getElem?_eq_getElem hl)
   omega
theorem zHh (h:Ris xs)(ne:xs[SetTable.below xs j]?≠some j):Ris (SetTable.insertAt xs (SetTable.below xs j) j):=by
 obtain⟨h1,h2,h3⟩:=zDY h j
 unfold Ris
 rw[SetTable.toList_insertAt]
 have hp:(xs.toList.take (SetTable.below xs j)++xs.toList.drop (SetTable.below xs j)).Pairwise (· < ·):=by rw[List.take_append_drop];exact h
 obtain⟨p1,p2,p3⟩:=List.pairwise_append.mp hp
 have lo:∀a∈xs.toList.take (SetTable.below xs j),a<j:=fun a ha=>by
  obtain⟨k,hk,e⟩:=zAL ha
  rw[zw] at hk
  rw[List.getElem_take] at e
  exact h2 k a (by omega) (by rw[<-Array.getElem?_toList,zD (by omega),e])
 have hi:∀a∈xs.toList.drop (SetTable.below xs j),j<a:=fun a ha=>by
  obtain⟨k,hk,e⟩:=zAL ha
  rw[List.length_drop] at hk
  rw[List.getElem_drop] at e
  have eg:xs[SetTable.below xs j+k]? = some a:=by rw[<-Array.getElem?_toList,zD (by omega),e]
  have:=h3 _ a (by omega) eg
  by_cases c:k=0
  . subst c
    rw[Nat.add_zero] at eg
    have:a≠j:=fun z=>ne (by rw[eg,z])
    omega
  . have hz:SetTable.below xs j<xs.size:=by simp at hk;omega
    have e0:xs[SetTable.below xs j]? = some xs[SetTable.below xs j]:=Array.getElem?_eq_getElem hz
    have a0:=h3 _ _ (zI _) e0
    have a1:=h.lt (i:=SetTable.below xs j) (j:=SetTable.below xs j+k) (by omega) e0 eg
    omega
 refine List.pairwise_append.mpr ⟨p1,zBp.mpr ⟨hi,p2⟩,fun a ha b hb=>?_⟩
 rcases zV.mp hb with rfl | hb
 . exact lo a ha
 . exact p3 a ha b hb
structure GT (led:Bool)(t:SetTable):Prop where
 dm:t.dummies = #[]
 ld:t.led=led
 rs:t.plain=true->Ris t.place
theorem zKU (led:Bool):GT led (SetTable.fresh 0 0 led):=⟨rfl,rfl,fun _=>zBD⟩
theorem zI5 (j:Nat):SetTable.has #[] j=false:=by
 unfold SetTable.has
 simp
variable {t:SetTable}
theorem zEm (hd:t.dummies = #[]):(t.slot j = .empty->t.place[SetTable.below t.place j]?≠some j)/\t.slot j ≠ .dummy:=by
 unfold SetTable.slot
 rw[hd,zI5]
 dsimp only
 constructor
 . intro h e
   rw[e] at h
   simp at h
 . split <;> simp
theorem zGk (hd:t.dummies = #[]){ha:Nat->Int}{hh:Int}{d:Option Nat}:∀(fuel:Nat)(p:SetTable.Probe),p.dummy=none->SetTable.probe.go t ha hh fuel p=some (.empty j d)->t.slot j = .empty/\d=none:=by
 intro fuel
 induction fuel with
 | zero=>intro p _ h;unfold SetTable.probe.go at h;cases h
 | succ fuel ih=>
  intro p hp h
  unfold SetTable.probe.go at h
  cases e:t.slot p.j with
  | empty=>
   rw[e] at h
   simp only[zBc,SetTable.Met.empty.injEq] at h
   exact⟨by rw[<-h.1];exact e,by rw[<-h.2];exact hp⟩
  | dummy=>exact absurd e (zEm hd).2
  | live i=>
   rw[e] at h
   dsimp only at h
   split at h
   . cases h
   . refine ih _ ?_ h
     unfold SetTable.advance
     split
     . exact hp
     . exact hp
theorem zHj (hd:t.dummies = #[]){hh:Int}{w:Bool}(h:t.freeSlot hh=some (j,w)):t.place[SetTable.below t.place j]?≠some j:=by
 unfold SetTable.freeSlot at h
 cases e:t.probe (fun _=>hh+1) hh (t.probeStart hh) with
 | none=>rw[e] at h;cases h
 | some met=>
  rw[e] at h
  cases met with
  | candidate a b c=>cases h
  | empty j' d=>
   obtain⟨e1,e2⟩:=zGk hd _ _ rfl e
   subst e2
   simp only[Option.getD_none,zBc,Prod.mk.injEq] at h
   rw[<-h.1]
   exact (zEm hd).1 e1
variable {led:Bool}
theorem gt_put (g:GT led t)(h:t.place[SetTable.below t.place j]?≠some j):GT led (t.put j).1:=by
 unfold SetTable.put
 refine⟨?_,g.ld,fun hp=>zHh (g.rs hp) h⟩
 dsimp only
 rw[g.dm,zI5]
 rfl
theorem zDt (g:GT led t)(n:Nat):GT led (t.standIn n):=⟨rfl,g.ld,fun h=>by cases h⟩
theorem gt_or (g:GT led t)(n:Nat):GT led (t.orStandIn n):=by
 unfold SetTable.orStandIn
 split
 . exact g
 . exact zDt g n
theorem gt_lay (g:GT led t)(es:Array (Int×Value))(h:Int)(x:Value):GT led (layNew t es h x).2.1:=by
 unfold layNew
 cases e:t.freeSlot h with
 | none=>exact zDt g _
 | some q=>
  obtain⟨j,w⟩:=q
  exact gt_or (gt_put g (zHj g.dm e)) _
theorem zHU {f:Nat->Option Nat}:∀(l:List Nat),l.Pairwise (· < ·)->((l.filterMap fun j=>(f j).map (j,·)).map (·.1)).Pairwise (· < ·):=by
 intro l h
 rw[zA2,List.pairwise_filterMap]
 refine h.imp fun {a b} hab x hx y hy=>?_
 cases ea:f a with
 | none=>rw[ea] at hx;cases hx
 | some u=>
  cases eb:f b with
  | none=>rw[eb] at hy;cases hy
  | some v=>
   rw[ea] at hx
   rw[eb] at hy
   cases hx
   cases hy
   exact hab
theorem zKT (g:GT led t)(es:Array (Int×Value))(n:Nat):GT led (relayAll t es n).2.1:=by
 unfold relayAll
 cases e:t.relaid (es.map (·.1)) n with
 | none=>exact zDt g _
 | some q=>
  obtain⟨t',order⟩:=q
  dsimp only
  split
  . unfold SetTable.relaid SetTable.laid at e
    simp only[Option.bind_eq_bind,Option.bind_eq_some_iff,Option.pure_def,zBc,Prod.mk.injEq] at e
    obtain⟨owner,_,e1,_⟩:=e
    rw[<-e1]
    refine⟨rfl,g.ld,fun _=>?_⟩
    show List.Pairwise _ (List.map _ _).toArray.toList
    exact zHU _ List.pairwise_lt_range
  . exact zDt g _
end STb
namespace STb
open PySem PySem.Spec PyProof.Rows L2
variable {led:Bool}{h h':Heap}{a:Addr}{S:Int->Bool}{n ep:Nat}{el:Array (Int×Value)}{tb:SetTable}
section
variable {prog:Program}{w:World}{A:Around}{E:vSP}{s:Shared}
structure Brs (prog:Program)(w:World)(led:Bool)(S:Int->Bool)(n:Nat)(el:Array (Int×Value))(tb:SetTable):Prop where
 elm:ElemsOf (intKind prog w) el.toList
 mem:∀k,S k=true↔∃e∈el.toList,(intKind prog w).is k e.2=true
 few:el.size<scanBound
 fit:tb.fits el.size=true
 siz:el.size=n
 gt:GT led tb
noncomputable def zFY (prog:Program)(w:World)(led:Bool)(h:Heap)(a:Addr)(S:Int->Bool)(n:Nat):Prop:=
 ∃ob el ep tb,h.get? a=some ob/\ob.ExactSet/\ob.data = .set el ep tb/\Brs prog w led S n el tb
theorem zFY.keep (x:zFY prog w led h a S n)(k:∀o,h.get? a=some o->h'.get? a=some o):zFY prog w led h' a S n:=
 let ⟨ob,el,ep,tb,g1,g2,g3,g4⟩:=x;⟨ob,el,ep,tb,k _ g1,g2,g3,g4⟩
theorem zFY.congr {S':Int->Bool}{n':Nat}(x:zFY prog w led h a S n)(e:∀k,S' k=S k)(en:n'=n):zFY prog w led h a S' n':=by
 obtain⟨ob,el,ep,tb,g1,g2,g3,g4⟩:=x
 subst en
 exact⟨ob,el,ep,tb,g1,g2,g3,⟨g4.elm,fun k=>by rw[e k];exact g4.mem k,g4.few,g4.fit,g4.siz,g4.gt⟩⟩
theorem zK8 {ob:Obj}(g1:h.get? a=some ob)(g3:ob.data = .set el ep tb)(el':Array (Int×Value))(tb':SetTable) :
 (h.update a (Obj.putSet el' tb')).get? a=some { ob with data:=.set el' (ep+1) tb' }:=by
 have q:=zAC (Obj.putSet el' tb') g1 (by rw[putSet_of el' tb' g3];rfl)
 rwa [putSet_of el' tb' g3] at q
theorem zKo {ob:Obj}{el1:Array (Int×Value)}{tb1:SetTable}{wd:Bool}{R:Option Bool->Shared->Prop}{note:Bool->Sem Unit}
 (hn:∀(b:Bool)(s₁:Shared)(Q':Unit->Shared->Prop),Q' () s₁->wpAny (model prog w) A (note b) Q' E s₁)
 (g1:s.heap.get? a=some ob)(g2:ob.ExactSet)(g3:ob.data = .set el ep tb)(B:Brs prog w led S n el1 tb1)
 (q:∀h',Heap.SameBut a s.heap h'->zFY prog w led h' a S n->R (some true) { s with heap:=h' }) :
 wpAny (model prog w) A (storeSet a el1 tb1 >>= fun _=>if (!wd && tb1.tooFull)=true then (note (relayAll tb1 el1 (SetTable.grown el1.size)).2.2 >>= fun _=>storeSet a (relayAll tb1 el1 (SetTable.grown el1.size)).1 (relayAll tb1 el1 (SetTable.grown el1.size)).2.1 >>= fun _=>pure (some true)) else pure (some true)) R E s:=by
 refine zA (wpAny_storeSet_of g1 g3 ?_ (fits_of_scanBound B.few))
 have p1:=zK8 g1 g3 el1 tb1
 have b1:=zAb s.heap a (Obj.putSet el1 tb1)
 by_cases c:(!wd && tb1.tooFull)=true
 . rw[if_pos c]
   have pm:=relayAll_perm tb1 el1 (SetTable.grown el1.size)
   have pf:=relayAll_fits tb1 el1 (SetTable.grown el1.size)
   have pg:=zKT B.gt el1 (SetTable.grown el1.size)
   generalize relayAll tb1 el1 (SetTable.grown el1.size)=ra at pm pf pg ⊢
   obtain⟨el2,tb2,gv⟩:=ra
   dsimp only at pm pf pg ⊢
   have z:el2.size=el1.size:=by rw[<-Array.length_toList,pm.length_eq,Array.length_toList]
   refine zA (hn _ _ _ (zA (wpAny_storeSet_of p1 rfl ?_ (fits_of_scanBound (by rw[z];exact B.few)))))
   refine zC (q _ (b1.trans (zAb _ a _)) ⟨_,el2,_,tb2,zK8 p1 rfl el2 tb2,g2,rfl,⟨B.elm.perm pm,fun k=>(B.mem k).trans ?_,by rw[z];exact B.few,pf,by rw[z];exact B.siz,pg⟩⟩)
   exact⟨fun ⟨e,he,u⟩=>⟨e,pm.mem_iff.mpr he,u⟩,fun ⟨e,he,u⟩=>⟨e,pm.mem_iff.mp he,u⟩⟩
 . rw[if_neg c]
   exact zC (q _ b1 ⟨_,el1,_,tb1,p1,g2,rfl,B⟩)
theorem add_g {k:Int}{tk:Tok}{Q:Bool->Shared->Prop}(G:zFY prog w led s.heap a S n)(room:n+1<scanBound)
 (q:∀h',Heap.SameBut a s.heap h'->zFY prog w led h' a (fun j=>S j || decide (j=k)) (if S k then n else n+1)->Q (!S k) { s with heap:=h' }) :
 wpAny (model prog w) A (setAddHashed a (.int k tk) ((intKind prog w).hash k)) Q E s:=by
 have kk:(intKind prog w).is k (.int k tk)=true:=intKind_is _ _ _ _
 obtain⟨ob,el,ep,tb,g1,g2,g3,B⟩:=G
 unfold setAddHashed setAddHashedIn
 refine zx (zA (zBa g1 g3 B.fit ?_))
 dsimp only
 rw[byScan_of (knd:=intKind prog w) (x:=.int k tk) rfl B.few B.elm]
 rw[if_pos rfl]
 unfold setAddByScan
 refine zA (zA (zBm (zA (wpAny_setScan_of kk g1 g3 B.fit B.elm ?_))))
 cases fi:el.toList.findIdx? (fun e=>(intKind prog w).is k e.2) with
 | some j=>
  obtain⟨hj,hp,_⟩:=List.findIdx?_eq_some_iff_getElem.mp fi
  have yes:S k=true:=(B.mem k).mpr ⟨_,List.getElem_mem hj,hp⟩
  refine zC (zC ?_)
  have r:=q s.heap (Heap.SameBut.refl a s.heap) ⟨ob,el,ep,tb,g1,g2,g3,⟨B.elm,fun i=>?_,B.few,B.fit,by rw[yes];exact B.siz,B.gt⟩⟩
  . rw[yes] at r
    exact r
  . rw[Bool.or_eq_true,decide_eq_true_eq,<-B.mem i]
    exact⟨fun z=>z.elim id fun e=>by rw[e];exact yes,.inl⟩
 | none=>
  have no:S k=false:=by
   cases hk:S k with
   | false=>rfl
   | true=>
    obtain⟨e,he,hp⟩:=(B.mem k).mp hk
    have:=List.findIdx?_eq_none_iff.mp fi e he
    rw[hp] at this
    cases this
  dsimp only
  have pm:=layNew_perm tb el ((intKind prog w).hash k) (.int k tk)
  have pf:=layNew_fits tb el ((intKind prog w).hash k) (.int k tk)
  have pg:=gt_lay B.gt el ((intKind prog w).hash k) (.int k tk)
  generalize layNew tb el ((intKind prog w).hash k) (.int k tk)=la at pm pf pg ⊢
  obtain⟨el1,tb1,wd,gv⟩:=la
  dsimp only at pm pf pg ⊢
  rw[Array.toList_push] at pm
  have z:el1.size=n+1:=by
   rw[<-Array.length_toList,pm.length_eq,zO,Array.length_toList,B.siz]
   rfl
  have B1:Brs prog w led (fun j=>S j || decide (j=k)) (n+1) el1 tb1:=⟨(B.elm.push kk rfl).perm pm,mem_push_iff kk B.mem pm,by rw[z];exact room,pf,z,pg⟩
  have fin:∀h',Heap.SameBut a s.heap h'->zFY prog w led h' a (fun j=>S j || decide (j=k)) (n+1)->Q true { s with heap:=h' }:=fun h' hs hG=>by
   have r:=q h' hs
   rw[no] at r
   exact r hG
  have nt:∀(b:Bool)(s₁:Shared)(Q':Unit->Shared->Prop),Q' () s₁->wpAny (model prog w) A (match b with | true=>rule "set.scan.the-table-gave-way" | false=>pure ()) Q' E s₁:=fun b s₁ Q' u=>by
   cases b
   . exact zC u
   . exact zBm u
  refine zA (nt gv _ _ ?_)
  by_cases c:tb1.plain=true
  . rw[if_pos c]
    refine zA (wpAny_of_eq (m':=pure true) rfl (zC ?_))
    rw[if_pos rfl]
    exact zKo nt g1 g2 g3 B1 fun h' hs hG=>zC (fin h' hs hG)
  . rw[if_neg c]
    refine zA (zC ?_)
    rw[if_pos rfl]
    exact zKo nt g1 g2 g3 B1 fun h' hs hG=>zC (fin h' hs hG)
end
theorem zCQ:Slot "set_iterator" "__next__" "set_iterator.__next__" := .of (owner := "set_iterator") (n := "__next__") (by rw[typeLookup_type,builtinLookup_eq_fast];kernel_rfl) (by decide +kernel) (by decide +kernel) (by decide +kernel) (by first | exact .inl (by decide +kernel) | exact .inr (by decide +kernel)) (by rw[isSubtype_type];kernel_rfl)
theorem zH8:Slot "set_iterator" "__iter__" "set_iterator.__iter__" := .of (owner := "set_iterator") (n := "__iter__") (by rw[typeLookup_type,builtinLookup_eq_fast];kernel_rfl) (by decide +kernel) (by decide +kernel) (by decide +kernel) (by first | exact .inl (by decide +kernel) | exact .inr (by decide +kernel)) (by rw[isSubtype_type];kernel_rfl)
theorem zCM:entryFor table "set_iterator.__next__" = some Builtin.«set_iterator.__next__» := entryFor_of_tree (by kernel_rfl)
theorem zFA:entryFor table "set_iterator.__iter__" = some Builtin.«dict_keyiterator.__iter__» := entryFor_alias (id' := "dict_keyiterator.__iter__") (by kernel_rfl) (by first | rfl | decide +kernel) (by decide +kernel) (by kernel_rfl)
theorem zEa:entryFor table "set.__iter__" = some Builtin.«frozenset.__iter__» := entryFor_alias (id' := "frozenset.__iter__") (by kernel_rfl) (by first | rfl | decide +kernel) (by decide +kernel) (by kernel_rfl)
theorem zG8:Manifest.owners.lookup (String.ofList ['r','o','t','a','r','e','t','i','_','t','e','s'].reverse)=some Manifest.sig_set_iterator:=by kernel_rfl
theorem zCX (a:Value):argsOk "set_iterator.__next__" ⟨[a],[]⟩:=by
 unfold argsOk
 rw[signature?_of (id := "set_iterator.__next__") (n:=['_','_','t','x','e','n','_','_']) (o:=['r','o','t','a','r','e','t','i','_','t','e','s']) (by kernel_rfl) zG8]
 kernel_rfl
theorem zFn (a:Value):argsOk "set_iterator.__iter__" ⟨[a],[]⟩:=by
 unfold argsOk
 rw[signature?_of (id := "set_iterator.__iter__") (n:=['_','_','r','e','t','i','_','_']) (o:=['r','o','t','a','r','e','t','i','_','t','e','s']) (by kernel_rfl) zG8]
 kernel_rfl
theorem zGs {α:Type}:∀{l:List α}{k:Nat}{x:α},l[k]? = some x->(x::l.eraseIdx k).Perm l
 | [],_,_,h=>by simp at h
 | _::_,0,_,h=>by simp at h;subst h;exact List.Perm.refl _
 | y::r,k+1,x,h=>by
  show (x::y::r.eraseIdx k).Perm (y::r)
  exact (List.Perm.swap y x _).trans ((zGs (by simpa using h)).cons y)
theorem zIU {α:Type}(next:Nat->Nat):∀(fuel k:Nat)(left:List α)(out:Array α),left.length=fuel->(pickOrder.go next fuel k left out).toList.Perm (out.toList++left)
 | 0,k,left,out,h=>by
  have:left=[]:=zBW.mp h
  subst this
  unfold pickOrder.go
  rw[zt]
 | fuel+1,k,left,out,h=>by
  unfold pickOrder.go
  have hl:next k%left.length<left.length:=Nat.mod_lt _ (by omega)
  have e:left[next k%left.length]? = some left[next k%left.length]:=zD hl
  rw[e]
  dsimp only
  refine (zIU next fuel (k+1) _ _ (by rw[List.length_eraseIdx,if_pos hl];omega)).trans ?_
  rw[Array.toList_push,List.append_assoc]
  exact (zGs e).append_left _
theorem zFv {α:Type}(next:Nat->Nat)(xs:Array α):(pickOrder next xs).toList.Perm xs.toList:=by
 have:=zIU next xs.size 0 xs.toList #[] (by simp)
 simpa [pickOrder] using this
variable {s:Shared}
section
variable {prog:Program}{w:World}{A:Around}{E:vSP}
theorem ch_wp {src:Source}{Q:Nat->Shared->Prop}(hn:n≠0)(h:∀i d',i<n->Q i { s with drawn:=d' }):wpAny (model prog w) A (choose src n) Q E s:=
 fun _ _ _=>⟨hn,h _ _ (Nat.mod_lt _ (Nat.pos_of_ne_zero hn))⟩
theorem zJA {α:Type}:∀(k:Nat)(xs:List α)(s:Shared)(Q:List α->Shared->Prop),xs.length=k->(∀ys d',ys.Perm xs->Q ys { s with drawn:=d' })->wpAny (model prog w) A (drawOrder k xs) Q E s
 | 0,xs,s,Q,h,q=>by
  have:xs=[]:=zBW.mp h
  subst this
  unfold drawOrder
  exact zC (q [] s.drawn (List.Perm.refl _))
 | k+1,[],s,Q,h,q=>by cases h
 | k+1,x::r,s,Q,h,q=>by
  unfold drawOrder
  refine zA (ch_wp (by simp) fun i d' hi=>?_)
  have e:(x::r)[i]? = some (x::r)[i]:=zD hi
  rw[e]
  dsimp only
  refine zA (zJA k _ _ _ (by rw[List.length_eraseIdx,if_pos hi];omega) fun ys d2 hp=>zC ?_)
  exact q _ d2 ((hp.cons _).trans (zGs e))
end
noncomputable def zEZ (h:Heap)(a:Addr)(el:Array (Int×Value))(ep:Nat)(tb:SetTable):Prop:=∃ob,h.get? a=some ob/\ob.ExactSet/\ob.data = .set el ep tb
theorem zEZ.keep (x:zEZ h a el ep tb)(k:∀o,h.get? a=some o->h'.get? a=some o):zEZ h' a el ep tb:=let ⟨ob,g,r⟩:=x;⟨ob,k _ g,r⟩
theorem zEZ.typeIs (x:zEZ s.heap a el ep tb):s.TypeIs (.ref a) "set" := let ⟨ob,g,c,_⟩:=x;⟨ob,g,c.1⟩
theorem zEZ.lt (x:zEZ h a el ep tb):a<h.objs.size:=let ⟨_,g,_⟩:=x;zQ g
noncomputable def SI (h:Heap)(I:Addr)(f:Value)(i n ep:Nat)(a:Addr):Prop:=∃o,h.get? I=some o/\o.cls = .type "set_iterator" /\ o.data = .fields #[f,.int i 0,.ref a,.int n 0,.int ep 0]
variable {f:Value}{i:Nat}
theorem SI.typeIs {I:Addr}(x:SI s.heap I f i n ep a):s.TypeIs (.ref I) "set_iterator" := let ⟨o,h,c,_⟩:=x;⟨o,h,c⟩
theorem SI.keep {I:Addr}(x:SI h I f i n ep a)(k:∀o,h.get? I=some o->h'.get? I=some o):SI h' I f i n ep a:=let ⟨o,g,r⟩:=x;⟨o,k _ g,r⟩
variable {Q:Option Value->Shared->Prop}{slot:Nat}
section
variable {prog:Program}{w:World}{A:Around}{E:vSP}{s:Shared}{a I:Addr}{el:Array (Int×Value)}{ep:Nat}{tb:SetTable}
noncomputable def zDm (f:Value)(n ep:Nat)(a:Addr):Obj:={ cls:=.type "set_iterator",data:=.fields #[f,.int 0 0,.ref a,.int n 0,.int ep 0] }
theorem zMc {Q:vSP}(hm:zEZ s.heap a el ep tb)(hf:tb.fits el.size=true)
 (qa:(w.params.followText "set-order" = true\/tb.plain=true\/el.size<=1)->Q (.ref s.heap.objs.size) { s with heap:=s.heap.push (zDm (.int 0 0) el.size ep a) })
 (qb:∀(ys:List Nat)(d':Drawn),ys.Perm (List.range el.size)->Q (.ref (s.heap.push { cls:=.type "tuple",data:=.seq (ys.map fun (i:Nat)=>rawInt i).toArray }).objs.size) { s with heap:=(s.heap.push { cls:=.type "tuple",data:=.seq (ys.map fun (i:Nat)=>rawInt i).toArray }).push (zDm (.ref s.heap.objs.size) el.size ep a),drawn:=d' }) (hz:el.size<=100000) :
 wpAny (model prog w) A (pyIter (.ref a)) Q E s:=by
 obtain⟨ob,g1,g2,g3⟩:=id hm
 refine wpAny_pyIter_slot hm.typeIs F.slot_set_iter (zAE F.slot_set_iter hm.typeIs zEa ?_ (F.args_set_iter_1 _))
 unfold Builtin.«frozenset.__iter__»
 refine zA ?_
 refine zA (zC (zC ?_))
 refine zA ?_
 unfold Builtin.Frozenset.sizeOf
 refine zA (wpAny_setEntries_of g1 g3 hf (zC ?_))
 unfold setDrawn setsByText
 refine zA (zA (zBa g1 g3 hf (zA (zA (wpAny_askSetting (zC (zC ?_)))))))
 show wpAny _ _ (if (!w.params.followText "set-order" && (!tb.plain && decide (el.size > 1)))=true then _ else _) _ _ s
 by_cases c:(!w.params.followText "set-order" && (!tb.plain && decide (el.size > 1)))=true
 . rw[if_pos c]
   refine zA (zJA _ _ _ _ (by rw[zAV]) fun ys d' hp=>zA ?_)
   unfold newTuple
   refine zv ?_ ?_
   . unfold setEpoch
     refine zA (zA (zBa (zG _ g1) g3 hf (zC ?_)))
     refine zA (zv (zC ⟨_,rfl, "set_iterator",_,⟨_,zL _ rfl,rfl⟩,zCQ.lookup,?_⟩))
     exact qb ys d' hp
   . show (List.toArray _).size<=sizeLine
     rw[zN,zB,hp.length_eq,zAV]
     have:sizeLine=16777216:=rfl
     omega
 . rw[if_neg c]
   refine zA (zC ?_)
   unfold setEpoch
   refine zA (zA (zBa g1 g3 hf (zC ?_)))
   refine zA (zv (zC ⟨_,rfl, "set_iterator",_,⟨_,zL _ rfl,rfl⟩,zCQ.lookup,?_⟩))
   refine qa ?_
   by_cases c1:w.params.followText "set-order" = true
   . exact .inl c1
   . right
     by_cases c2:tb.plain=true
     . exact .inl c2
     . right
       by_cases c3:el.size<=1
       . exact c3
       . exact absurd (by simp[c1,c2];omega) c
theorem zH6 {given:Nat}{Q:Option (Value×Nat)->Shared->Prop}(hm:zEZ s.heap a el ep tb)(hf:tb.fits el.size=true)(ht:w.params.followText "set-order" = true)
 (q:Q (((pickOrder (w.params.setOrder a ep) el)[given]?).map fun e=>(e.2,slot)) s):wpAny (model prog w) A (setNext a slot given ep) Q E s:=by
 obtain⟨ob,g1,g2,g3⟩:=id hm
 unfold setNext setsByText
 refine zA (zBa g1 g3 hf (zA (zA (wpAny_askSetting (zC ?_)))))
 show wpAny _ _ (if w.params.followText "set-order" = true then _ else _) _ _ s
 rw[if_pos ht]
 show wpAny _ _ (if (ep != ep)=true then _ else _) _ _ s
 rw[if_neg (by simp)]
 unfold setWalk setsByText
 refine zA (zA (zBa g1 g3 hf (zA (zA (wpAny_askSetting (zC ?_))))))
 show wpAny _ _ (if w.params.followText "set-order" = true then _ else _) _ _ s
 rw[if_pos ht]
 refine zA (wpAny_askSetting (zC (zC q)))
theorem zG7 {given:Nat}{Q:Option (Value×Nat)->Shared->Prop}(hm:zEZ s.heap a el ep tb)(hf:tb.fits el.size=true)(ht:w.params.followText "set-order" = false) (hp:tb.plain=true\/el.size<=1)(hl:tb.led=true)(hi:SetTable.below tb.place slot=i)
 (q:Q (match el[i]?,tb.place[i]? with | some (_,x),some j=>some (x,j+1) | _,_=>none) s):wpAny (model prog w) A (setNext a slot given ep) Q E s:=by
 obtain⟨ob,g1,g2,g3⟩:=id hm
 unfold setNext setsByText
 refine zA (zBa g1 g3 hf (zA (zA (wpAny_askSetting (zC ?_)))))
 show wpAny _ _ (if w.params.followText "set-order" = true then _ else _) _ _ s
 rw[if_neg (by rw[ht];simp)]
 show wpAny _ _ (if (!tb.plain && decide (el.size > 1))=true then _ else _) _ _ s
 rw[if_neg (by rcases hp with z | z <;> simp[z])]
 show wpAny _ _ ((if (!tb.led && !el.isEmpty)=true then _ else _) >>= _) _ _ s
 rw[if_neg (by rw[hl];simp)]
 refine zA (zC ?_)
 dsimp only
 rw[hi]
 exact zC q
noncomputable def zJV (prog:Program)(w:World)(a:Addr)(slot i ep:Nat)(r:Option (Value×Nat))(s:Shared):Prop:=∀(A:Around)(E:vSP)(Q:Option (Value×Nat)->Shared->Prop),Q r s->wpAny (model prog w) A (setNext a slot i ep) Q E s
theorem si_upd {f':Value}{o:Obj}(ho:h.get? I=some o)(hc:o.cls = .type "set_iterator") (hd:o.data = .fields #[f,.int i 0,.ref a,.int n 0,.int ep 0]) :
 SI ((h.update I (Obj.mapFields (·.setIfInBounds 0 f'))).update I (Obj.mapFields (·.setIfInBounds 1 (rawInt ((i:Int)+1))))) I f' (i+1) n ep a:=by
 have e1:(h.update I (Obj.mapFields (·.setIfInBounds 0 f'))).get? I=some (Obj.mapFields (·.setIfInBounds 0 f') o):=zAC _ ho (Obj.isFreed_of_fields (Obj.data_mapFields hd _))
 have d1:=Obj.data_mapFields hd (·.setIfInBounds 0 f')
 refine⟨_,zAC _ e1 (Obj.isFreed_of_fields (Obj.data_mapFields d1 _)),(Obj.cls_mapFields ..).trans ((Obj.cls_mapFields ..).trans hc),?_⟩
 rw[Obj.data_mapFields d1]
 simp[rawInt]
theorem si_up1 {o:Obj}(ho:h.get? I=some o)(hc:o.cls = .type "set_iterator") (hd:o.data = .fields #[f,.int i 0,.ref a,.int n 0,.int ep 0]) :
 SI (h.update I (Obj.mapFields (·.setIfInBounds 1 (rawInt ((i:Int)+1))))) I f (i+1) n ep a:=by
 refine⟨_,zAC _ ho (Obj.isFreed_of_fields (Obj.data_mapFields hd _)),(Obj.cls_mapFields ..).trans hc,?_⟩
 rw[Obj.data_mapFields hd]
 simp[rawInt]
theorem zLI {nx:Nat}{x:Value}(hit:SI s.heap I (.int slot 0) i el.size ep a)(hm:zEZ s.heap a el ep tb)(hf:tb.fits el.size=true)(hs:zJV prog w a slot i ep (some (x,nx)) s)
 (hQ:∀h',SI h' I (.int nx 0) (i+1) el.size ep a->Heap.SameBut I s.heap h'->Q (some x) { s with heap:=h' }):wpAny (model prog w) A (pyNext (.ref I)) Q E s:=by
 obtain⟨o,ho,hc,hd⟩:=id hit
 obtain⟨ob,g1,g2,g3⟩:=id hm
 unfold pyNext
 refine zA (wpAny_attempt (zAD (name:=Str.ofString "__next__") hit.typeIs zCQ (zAE zCQ hit.typeIs zCM ?_ (zCX _))))
 unfold Builtin.«set_iterator.__next__»
 refine zA (zC ?_)
 refine zA (wpAny_fieldsOf ho hd ?_)
 refine zA (wpAny_setEntries_of g1 g3 hf ?_)
 rw[if_neg (by simp)]
 dsimp only
 rw[zAB,zAB,zAB]
 refine zA (hs _ _ _ ?_)
 dsimp only
 refine zA (zBZ ho hd (by simp) ?_)
 have e1:(s.heap.update I (Obj.mapFields (·.setIfInBounds 0 (rawInt (nx:Int))))).get? I=some (Obj.mapFields (·.setIfInBounds 0 (rawInt (nx:Int))) o):=zAC _ ho (Obj.isFreed_of_fields (Obj.data_mapFields hd _))
 refine zA (zBZ e1 (Obj.data_mapFields hd _) (by simp) ?_)
 refine zC ⟨_,rfl,zC (hQ _ (si_upd ho hc hd) ((zAb ..).trans (zAb ..)))⟩
theorem zFj {h0:Heap}(hh:A.handled=none)(hQ:∀h',(∀b o,h0.get? b=some o->h'.get? b=some o)->Q none { s with heap:=h' }){R:Fin->Shared->Prop} :
 wpAny (model prog w) A.in1 (newExc (.type "StopIteration") [] >>= fun e=>raiseNew (α:=Fin) e) R (fun e s'=>wpAny (model prog w) A (isInstance e (.type "StopIteration") >>= fun b=>if b=true then pure none else throw e) Q E s') { s with heap:=h0 }:=by
 refine zA ?_
 simp only[newExc,newTuple]
 refine zA (zv ?_ (by size_fits))
 refine zA (m:=firstArgMember _ _) (wpAny_of_eq (m':=pure Value.none) (by first | rfl | (simp only[firstArgMember];rfl)) (zC ?_))
 refine zv ?_ (by size_fits)
 simp only[raiseNew]
 refine zA (wpAny_handled ?_)
 rw[show A.in1.handled=none from hh]
 refine zA (zC (wpAny_throw ?_))
 refine zA (zAj (T := "StopIteration") (b:=true) ⟨_,zL _ rfl,rfl⟩ isSubtype_stop ?_)
 exact zC (hQ _ fun b o e=>zG _ (zG _ e))
theorem end_a (hh:A.handled=none)(hit:SI s.heap I (.int slot 0) i el.size ep a)(hm:zEZ s.heap a el ep tb)(hf:tb.fits el.size=true)(hs:zJV prog w a slot i ep none s)
 (hQ:∀h',(∀b o,b≠I->s.heap.get? b=some o->h'.get? b=some o)->Q none { s with heap:=h' }):wpAny (model prog w) A (pyNext (.ref I)) Q E s:=by
 obtain⟨o,ho,hc,hd⟩:=id hit
 obtain⟨ob,g1,g2,g3⟩:=id hm
 unfold pyNext
 refine zA (wpAny_attempt (zAD (name:=Str.ofString "__next__") hit.typeIs zCQ (zAE zCQ hit.typeIs zCM ?_ (zCX _))))
 unfold Builtin.«set_iterator.__next__»
 refine zA (zC ?_)
 refine zA (wpAny_fieldsOf ho hd ?_)
 refine zA (wpAny_setEntries_of g1 g3 hf ?_)
 rw[if_neg (by simp)]
 dsimp only
 rw[zAB,zAB,zAB]
 refine zA (hs _ _ _ ?_)
 dsimp only
 refine zA (zBZ ho hd (by simp) ?_)
 refine zFj hh fun h' k=>hQ h' fun b o' nb e=>k b o' ((zAb s.heap I _).extBut b o' nb e)
end
variable {ys:List Nat}
section
variable {prog:Program}{w:World}{A:Around}{E:vSP}{s:Shared}{a I tp:Addr}{el:Array (Int×Value)}{ep:Nat}{tb:SetTable}
noncomputable def zGy (h:Heap)(tp:Addr)(ys:List Nat):Prop:=∃o n,h.get? tp=some o/\o.data = .seq (ys.map fun (i:Nat)=>rawInt i).toArray n
theorem zGy.keep {tp:Addr}(x:zGy h tp ys)(k:∀o,h.get? tp=some o->h'.get? tp=some o):zGy h' tp ys:=let ⟨o,n,e,d⟩:=x;⟨o,n,k _ e,d⟩
theorem next_b {y:Nat}{e:Int×Value}(hit:SI s.heap I (.ref tp) i el.size ep a)(hm:zEZ s.heap a el ep tb)(hf:tb.fits el.size=true)(ht:zGy s.heap tp ys)(hy:ys[i]? = some y)(he:el[y]? = some e)
 (hQ:∀h',SI h' I (.ref tp) (i+1) el.size ep a->Heap.SameBut I s.heap h'->Q (some e.2) { s with heap:=h' }):wpAny (model prog w) A (pyNext (.ref I)) Q E s:=by
 obtain⟨o,ho,hc,hd⟩:=id hit
 obtain⟨ob,g1,g2,g3⟩:=id hm
 obtain⟨ot,n,t1,t2⟩:=ht
 unfold pyNext
 refine zA (wpAny_attempt (zAD (name:=Str.ofString "__next__") hit.typeIs zCQ (zAE zCQ hit.typeIs zCM ?_ (zCX _))))
 unfold Builtin.«set_iterator.__next__»
 refine zA (zC ?_)
 refine zA (wpAny_fieldsOf ho hd ?_)
 refine zA (wpAny_setEntries_of g1 g3 hf ?_)
 rw[if_neg (by simp)]
 refine zA (zA0 t1 t2 ?_)
 dsimp only
 have ey:(ys.map fun (i:Nat)=>rawInt i).toArray[(i:Int).toNat]? = some (.int (y:Int) 0):=by
  rw[zAB,zAZ,zP,hy]
  rfl
 rw[ey]
 dsimp only
 rw[zAB,zAB]
 unfold setNextDrawn
 refine zA (zA (zBa g1 g3 hf ?_))
 show wpAny _ _ (if (ep != ep)=true then _ else _) _ _ s
 rw[if_neg (by simp)]
 obtain⟨e1,e2⟩:=e
 show wpAny _ _ (match el[y]? with | some (_,x)=>_ | _=>_) _ _ s
 rw[he]
 refine zC ?_
 refine zA (zBZ ho hd (by simp) ?_)
 exact zC ⟨_,rfl,zC (hQ _ (si_up1 ho hc hd) (zAb ..))⟩
theorem end_b (hh:A.handled=none)(hit:SI s.heap I (.ref tp) i el.size ep a)(hm:zEZ s.heap a el ep tb)(hf:tb.fits el.size=true)(ht:zGy s.heap tp ys)(hy:ys[i]? = none)
 (hQ:∀h',(∀b o,b≠I->s.heap.get? b=some o->h'.get? b=some o)->Q none { s with heap:=h' }):wpAny (model prog w) A (pyNext (.ref I)) Q E s:=by
 obtain⟨o,ho,hc,hd⟩:=id hit
 obtain⟨ob,g1,g2,g3⟩:=id hm
 obtain⟨ot,n,t1,t2⟩:=ht
 unfold pyNext
 refine zA (wpAny_attempt (zAD (name:=Str.ofString "__next__") hit.typeIs zCQ (zAE zCQ hit.typeIs zCM ?_ (zCX _))))
 unfold Builtin.«set_iterator.__next__»
 refine zA (zC ?_)
 refine zA (wpAny_fieldsOf ho hd ?_)
 refine zA (wpAny_setEntries_of g1 g3 hf ?_)
 rw[if_neg (by simp)]
 refine zA (zA0 t1 t2 ?_)
 dsimp only
 have ey:(ys.map fun (i:Nat)=>rawInt i).toArray[(i:Int).toNat]? = none:=by
  rw[zAB,zAZ,zP,hy]
  rfl
 rw[ey]
 dsimp only
 refine zA (zBZ ho hd (by simp) ?_)
 have e1:(s.heap.update I (Obj.mapFields (·.setIfInBounds 0 (rawInt 0)))).get? I=some (Obj.mapFields (·.setIfInBounds 0 (rawInt 0)) o):=zAC _ ho (Obj.isFreed_of_fields (Obj.data_mapFields hd _))
 refine zA (zBZ e1 (Obj.data_mapFields hd _) (by simp) ?_)
 refine zFj hh fun h' k=>hQ h' fun b o' nb e=>k b o' ((zAb _ I _).extBut b o' nb ((zAb s.heap I _).extBut b o' nb e))
theorem zIB {Q:vSP}(hit:SI s.heap I f i el.size ep a)(h:Q (.ref I) s):wpAny (model prog w) A (pyIter (.ref I)) Q E s:=by
 refine wpAny_pyIter_slot hit.typeIs zH8 (zAE zH8 hit.typeIs zFA ?_ (zFn _))
 show wpAny _ _ (ret (.ref I)) _ _ s
 exact zC ⟨_,rfl, "set_iterator",_,hit.typeIs,zCQ.lookup,h⟩
noncomputable def zHX (w:World)(a:Addr)(ep:Nat)(el:Array (Int×Value)):List (Int×Value):=if w.params.followText "set-order" = true then (pickOrder (w.params.setOrder a ep) el).toList else el.toList
theorem zEE:(zHX w a ep el).Perm el.toList:=by
 unfold zHX
 split
 . exact zFv _ _
 . exact List.Perm.refl _
theorem zIQ {xs:Array Nat}(h:xs.size<=1):Ris xs:=by
 unfold Ris
 have hl:xs.toList.length<=1:=by simpa using h
 generalize xs.toList=l at hl
 cases l with
 | nil=>exact zBD
 | cons x r=>cases r with
  | nil=>exact List.pairwise_singleton _ _
  | cons y r=>simp at hl
theorem walk_a (hh:A.handled=none)(hIa:a≠I)(hf:tb.fits el.size=true)(hc:w.params.followText "set-order" = true\/tb.plain=true\/el.size<=1) (gt:GT (!w.params.followText "set-order") tb) :
 Walks prog w A I [I,a] [I] el.size (fun i v=>∃e,(zHX w a ep el)[i]? = some e/\v=e.2) (fun i h=>∃slot:Nat,SI h I (.int slot 0) i el.size ep a/\zEZ h a el ep tb/\(w.params.followText "set-order" = false->SetTable.below tb.place slot=i)) where
 sub:=fun b hb=>by simp at hb;simp[hb]
 frame:=fun _ _ _ ⟨slot,h1,h2,h3⟩ hk=>⟨slot,h1.keep fun o e=>hk I (by simp) o e,h2.keep fun o e=>hk a (by simp) o e,h3⟩
 item:=fun i s Q E hi ⟨slot,h1,h2,h3⟩ hQ=>by
  have lo:i<(zHX w a ep el).length:=by rw[zEE.length_eq];simpa using hi
  cases ht:w.params.followText "set-order" with
  | true=>
   have ei:(pickOrder (w.params.setOrder a ep) el)[i]? = some (zHX w a ep el)[i]:=by
    rw[<-Array.getElem?_toList]
    have:(pickOrder (w.params.setOrder a ep) el).toList=zHX w a ep el:=by unfold zHX;rw[if_pos ht]
    rw[this]
    exact zD lo
   refine zLI (x:=(zHX w a ep el)[i].2) (nx:=slot) h1 h2 hf (fun A' E' Q' q=>zH6 h2 hf ht (by rw[ei];exact q)) fun h' st sb=>?_
   exact hQ _ h' s.toks ⟨_,zD lo,rfl⟩ ⟨slot,st,h2.keep fun o e=>sb.extBut a o hIa e,fun z=>by rw[ht] at z;cases z⟩ fun b o hb e=>sb.extBut b o (fun z=>hb (by simp[z])) e
  | false=>
   have hp:tb.plain=true\/el.size<=1:=hc.resolve_left (by rw[ht];simp)
   have ps:tb.place.size=el.size:=by
    simp only[SetTable.fits,zAf,beq_iff_eq] at hf
    exact hf.1
   have rs:Ris tb.place:=hp.elim gt.rs fun z=>zIQ (by omega)
   have eo:zHX w a ep el=el.toList:=by unfold zHX;rw[if_neg (by rw[ht];simp)]
   have e1:el[i]? = some el[i]:=Array.getElem?_eq_getElem hi
   have e2:tb.place[i]? = some (tb.place[i]'(by omega)):=Array.getElem?_eq_getElem (by omega)
   refine zLI (x:=el[i].2) (nx:=tb.place[i]'(by omega)+1) h1 h2 hf (fun A' E' Q' q=>zG7 (i:=i) h2 hf ht hp (by rw[gt.ld,ht];rfl) (h3 ht) (by rw[e1,e2];exact q)) fun h' st sb=>?_
   exact hQ _ h' s.toks ⟨el[i],by rw[eo,Array.getElem?_toList];exact e1,rfl⟩ ⟨_,st,h2.keep fun o e=>sb.extBut a o hIa e,fun _=>zHm rs e2⟩ fun b o hb e=>sb.extBut b o (fun z=>hb (by simp[z])) e
 done:=fun s Q E ⟨slot,h1,h2,h3⟩ hQ=>by
  cases ht:w.params.followText "set-order" with
  | true=>
   have ei:(pickOrder (w.params.setOrder a ep) el)[el.size]? = none:=by
    rw[<-Array.getElem?_toList]
    exact zAF (by rw[(zFv _ _).length_eq];simp)
   exact end_a hh h1 h2 hf (fun A' E' Q' q=>zH6 h2 hf ht (by rw[ei];exact q)) fun h' k=>hQ h' s.toks fun b o hb e=>k b o (fun z=>hb (by simp[z])) e
  | false=>
   have hp:tb.plain=true\/el.size<=1:=hc.resolve_left (by rw[ht];simp)
   exact end_a hh h1 h2 hf (fun A' E' Q' q=>zG7 (i:=el.size) h2 hf ht hp (by rw[gt.ld,ht];rfl) (h3 ht) (by rw[Array.getElem?_eq_none (zI _)];exact q)) fun h' k=>hQ h' s.toks fun b o hb e=>k b o (fun z=>hb (by simp[z])) e
 self:=fun i s Q E ⟨slot,h1,_⟩ h=>zIB h1 h
theorem walk_b (hh:A.handled=none)(hIa:a≠I)(hIt:tp≠I)(hf:tb.fits el.size=true)(hp:ys.Perm (List.range el.size)) :
 Walks prog w A I [I,a,tp] [I] el.size (fun i v=>∃y e,ys[i]? = some y/\el[y]? = some e/\v=e.2) (fun i h=>SI h I (.ref tp) i el.size ep a/\zEZ h a el ep tb/\zGy h tp ys) where
 sub:=fun b hb=>by simp at hb;simp[hb]
 frame:=fun _ _ _ ⟨h1,h2,h3⟩ hk=>⟨h1.keep fun o e=>hk I (by simp) o e,h2.keep fun o e=>hk a (by simp) o e,h3.keep fun o e=>hk tp (by simp) o e⟩
 item:=fun i s Q E hi ⟨h1,h2,h3⟩ hQ=>by
  have hl:ys.length=el.size:=by rw[hp.length_eq,zAV]
  have e1:ys[i]? = some ys[i]:=zD (by omega)
  have hy:ys[i]<el.size:=zBG.mp (hp.mem_iff.mp (List.getElem_mem _))
  have e2:el[ys[i]]? = some el[ys[i]]:=Array.getElem?_eq_getElem hy
  refine next_b h1 h2 hf h3 e1 e2 fun h' st sb=>?_
  exact hQ _ h' s.toks ⟨_,_,e1,e2,rfl⟩ ⟨st,h2.keep fun o e=>sb.extBut a o hIa e,h3.keep fun o e=>sb.extBut tp o hIt e⟩ fun b o hb e=>sb.extBut b o (fun z=>hb (by simp[z])) e
 done:=fun s Q E ⟨h1,h2,h3⟩ hQ=>by
  have hl:ys.length=el.size:=by rw[hp.length_eq,zAV]
  exact end_b hh h1 h2 hf h3 (zAF (by omega)) fun h' k=>hQ h' s.toks fun b o hb e=>k b o (fun z=>hb (by simp[z])) e
 self:=fun i s Q E ⟨h1,_⟩ h=>zIB h1 h
end
end STb
namespace STb
open PySem PySem.Spec PyProof.Rows PySem.Calls L2
section
variable {prog:Program}{w:World}{A:Around}{E:vSP}{s:Shared}{a:Addr}{el:Array (Int×Value)}{ep:Nat}{tb:SetTable}
theorem zHI {Q:Bool->Shared->Prop}(hT:s.TypeIs (.ref a) "set") (h:Q false s):wpAny (model prog w) A (Builtin.List.listLengthHint (.ref a)) Q E s:=by
 unfold Builtin.List.listLengthHint
 refine zA (wpAny_specialOf hT PySem.F.slot_set_len.lookup ?_)
 generalize hid:("set.__len__" : String)=id0
 wp_delta
 rw[show splitId id0=some ("set", "__len__") from by subst hid;decide +kernel]
 subst hid
 refine zA (zAj (T := "set") (b:=true) hT sub_set_self ?_)
 refine wpAny_ite_split (fun hab=>absurd hab (by decide)) (fun _=>?_)
 refine wpAny_ite_split (fun _=>zA (zBY hT (zC h))) (fun hab=>absurd (by decide +kernel) hab)
theorem zHJ {I S:Addr}{fp:List Addr}{n:Nat}{P:Nat->Value->Prop}{St:Nat->Heap->Prop}{res:Value}{c:Nat}{R:Result->Shared->Prop}{s0:Shared}(W:Walks prog w A.in1 I fp [I] n P St)(hSf:S∉fp)(hn:n<=sizeLine)(hI:s0.heap.objs.size<=I)
 (k0:∀b o,b≠S->s0.heap.get? b=some o->s.heap.get? b=some o)(st:St 0 s.heap)(hS:s.heap.get? S=some { cls:=.type "list",data:=.seq #[] c })
 (q:∀(s':Shared)(acc:Array Value)(c':Nat),s'.gens=s.gens->s'.drawn=s.drawn->s'.os=s.os->(∀b o,b≠S->s0.heap.get? b=some o->s'.heap.get? b=some o)->s'.heap.get? S=some { cls:=.type "list",dict:=none,data:=.seq acc c',slots:=#[] }->ItemsOf P acc n->R (.ok (.ret res)) s') :
 codeAny (model prog w) A (.builtin "list.extend.loop" ⟨[.ref S,.ref I,res],[]⟩) R s:=by
 refine codeAny_extend_loopS W.toS hn S hSf res n 0 s #[] c rfl (zg _) st hS (ItemsOf.nil _) fun s' acc c' mv hS' ha=>?_
 refine q s' acc c' mv.gens mv.drawn mv.os (fun b o hb e=>mv.heap b o (fun z=>?_) (k0 b o hb e)) hS' ha
 rcases zV.mp z with z | z
 . exact hb z
 . have hlt:=zQ e
   rw[zf.mp z] at hlt
   exact absurd (zi hlt hI) (zBF _)
noncomputable def Gath (el:Array (Int×Value))(acc:Array Value):Prop:=∃l:List (Int×Value),l.Perm el.toList/\acc.toList=l.map (·.2)
theorem zLP {acc:Array Value}(h:ItemsOf (fun i v=>∃e,(zHX w a ep el)[i]? = some e/\v=e.2) acc el.size):Gath el acc:=by
 refine⟨zHX w a ep el,zEE,?_⟩
 have hl:(zHX w a ep el).length=el.size:=by rw[zEE.length_eq];simp
 apply List.ext_getElem?
 intro j
 by_cases hj:j<el.size
 . have hz:j<acc.size:=by rw[h.1];exact hj
   obtain⟨e,he,hv⟩:=h.2 j acc[j] (by simp[hz])
   rw[Array.getElem?_toList,Array.getElem?_eq_getElem hz,hv,zP,he]
   rfl
 . rw[zAF (by rw[Array.length_toList,h.1];omega),zAF (by rw[zB];omega)]
theorem zHV {α:Type}{l:List α}{ys:List Nat}(h:ys.Perm (List.range l.length)):(ys.filterMap fun i=>l[i]?).Perm l:=by
 refine (h.filterMap _).trans ?_
 rw[List.filterMap_getElem?_range_length]
theorem zLO {ys:List Nat}{acc:Array Value}(hp:ys.Perm (List.range el.size))(h:ItemsOf (fun i v=>∃y e,ys[i]? = some y/\el[y]? = some e/\v=e.2) acc el.size):Gath el acc:=by
 have hl:ys.length=el.size:=by rw[hp.length_eq,zAV]
 refine⟨ys.map fun y=>el.toList.getD y (0,.none),?_,?_⟩
 . have e:(ys.map fun y=>el.toList.getD y (0,.none))=ys.filterMap fun i=>el.toList[i]?:=by
    rw[<-List.filterMap_eq_map]
    refine fm_eq fun y hy=>?_
    have hy':y<el.toList.length:=by have:=zBG.mp (hp.mem_iff.mp hy);simpa using this
    simp only[Function.comp]
    rw[zF,zD hy']
    rfl
   rw[e]
   exact zHV (by simpa using hp)
 . apply List.ext_getElem?
   intro j
   by_cases hj:j<el.size
   . have hz:j<acc.size:=by rw[h.1];exact hj
     obtain⟨y,e,h1,h2,hv⟩:=h.2 j acc[j] (by simp[hz])
     rw[Array.getElem?_toList,Array.getElem?_eq_getElem hz,hv,zP,zP,h1]
     show some e.2=some (el.toList.getD y (0,.none)).2
     rw[zF,Array.getElem?_toList,h2]
     rfl
   . rw[zAF (by rw[Array.length_toList,h.1];omega),zAF (by rw[zB,zB];omega)]
where
 fm_eq {α β:Type}{f g:α->Option β}:∀{l:List α},(∀m∈l,f m=g m)->l.filterMap f=l.filterMap g
  | [],_=>rfl
  | x::r,h=>by
   rw[zBC,zBC,h x zZ,fm_eq fun m hm=>h m (zc _ hm)]
theorem zHS {S:Addr}{res:Value}{c:Nat}{R:Result->Shared->Prop}(hh:A.handled=none)(hm:zEZ s.heap a el ep tb)(hf:tb.fits el.size=true)(gt:GT (!w.params.followText "set-order") tb) (hz:el.size<=100000)(hSa:S≠a)
 (hS:s.heap.get? S=some { cls:=.type "list",data:=.seq #[] c })
 (q:∀(s':Shared)(acc:Array Value)(c':Nat),s'.gens=s.gens->s'.os=s.os->(∀b o,b≠S->s.heap.get? b=some o->s'.heap.get? b=some o)->s'.heap.get? S=some { cls:=.type "list",dict:=none,data:=.seq acc c',slots:=#[] }->Gath el acc->R (.ok (.ret res)) s') :
 wpAny (model prog w) A.in1 (Builtin.List.listExtendWith (.ref S) (.ref a) res)
  (fun fin s'=>match fin with | .done f=>R (.ok f) s' | .again c'=>c'.quiet=true/\codeAny (model prog w) A c' R s') (fun e s'=>R (.error e) s') s:=by
 have nS:el.size<=sizeLine:=by have:sizeLine=16777216:=rfl;omega
 unfold Builtin.List.listExtendWith
 refine zA (zBY (T := "set") hm.typeIs ?_)
 have h1:Builtin.List.listSameRef (.ref S) (.ref a)=false:=by simp[Builtin.List.listSameRef,hSa]
 have h2:(Value.type "set" == Value.type "list")=false:=by decide
 have h3:(Value.type "set" == Value.type "tuple")=false:=by decide
 simp only[h1,h2,h3,Bool.or_false,zBP,if_false]
 have nSI:∀I,s.heap.objs.size<=I->S≠I:=fun I h z=>absurd (zi (zQ hS) h) (by rw[z];exact zBF _)
 have naI:∀I,s.heap.objs.size<=I->a≠I:=fun I h z=>absurd (zi hm.lt h) (by rw[z];exact zBF _)
 refine zA (zMc hm hf (fun hc=>?_) (fun ys d' hp=>?_) hz)
 . have W:=walk_a (prog:=prog) (w:=w) (A:=A.in1) (I:=s.heap.objs.size) (ep:=ep) hh (naI _ (zI _)) hf hc gt
   have nf:S∉[s.heap.objs.size,a]:=by simp only[zV,List.not_mem_nil,or_false,not_or];exact⟨nSI _ (zI _),hSa⟩
   have kp:∀b o,s.heap.get? b=some o->(s.heap.push (zDm (.int 0 0) el.size ep a)).get? b=some o:=fun b o e=>zG _ e
   have st0:∃slot:Nat,SI (s.heap.push (zDm (.int 0 0) el.size ep a)) s.heap.objs.size (.int slot 0) 0 el.size ep a/\zEZ (s.heap.push (zDm (.int 0 0) el.size ep a)) a el ep tb/\(w.params.followText "set-order" = false->SetTable.below tb.place slot=0):=by
    refine⟨0,⟨_,zL _ rfl,rfl,rfl⟩,hm.keep fun o e=>kp _ o e,fun ht=>zHl ?_⟩
    have ps:tb.place.size=el.size:=by
     simp only[SetTable.fits,zAf,beq_iff_eq] at hf
     exact hf.1
    exact (hc.resolve_left (by rw[ht];simp)).elim gt.rs fun z=>zIQ (by omega)
   refine zA (zx (zHI (zEZ.typeIs (hm.keep fun o e=>kp _ o e)) ?_))
   refine wpAny_ite_split (fun _=>?_) (fun _=>?_)
   . refine zA (zBm (zA ?_))
     show wpAny _ _ (updateSeq S (·.push .none) >>= fun _=>updateSeq S (·.pop)) _ _ _
     refine zA (wpAny_updateSeq (kp _ _ hS) rfl ?_)
     have hS2:=zAC (Obj.mapSeq (·.push Value.none)) (kp _ _ hS) rfl
     refine wpAny_updateSeq (hz:=by seq_fits) hS2 rfl ?_
     have hS3:=zAC (Obj.mapSeq (·.pop)) hS2 rfl
     have up:∀b o,b≠S->(s.heap.push (zDm (.int 0 0) el.size ep a)).get? b=some o->(((s.heap.push (zDm (.int 0 0) el.size ep a)).update S (Obj.mapSeq (·.push Value.none))).update S (Obj.mapSeq (·.pop))).get? b=some o:=fun b o hb e=>(zBi _ _ (Ne.symm hb)).trans ((zBi _ _ (Ne.symm hb)).trans e)
     refine zC ⟨plainId_quiet PySem.F.plain_extend_loop _,zHJ W nf nS (zI _) (fun b o hb e=>up b o hb (kp b o e)) (W.frame 0 _ _ st0 fun b hb o e=>up b o (fun z=>nf (z ▸ hb)) e) hS3 fun s' acc c' e1 _ e3 k hS' ha=>q s' acc c' e1 e3 k hS' (zLP ha)⟩
   . exact zC ⟨plainId_quiet PySem.F.plain_extend_loop _,zHJ W nf nS (zI _) (fun b o _ e=>kp b o e) st0 (kp _ _ hS) fun s' acc c' e1 _ e3 k hS' ha=>q s' acc c' e1 e3 k hS' (zLP ha)⟩
 . have hT:(s.heap.push { cls:=.type "tuple",data:=.seq (ys.map fun (i:Nat)=>rawInt i).toArray }).objs.size=s.heap.objs.size+1:=zAR ..
   have hI:s.heap.objs.size<=(s.heap.push { cls:=.type "tuple",data:=.seq (ys.map fun (i:Nat)=>rawInt i).toArray }).objs.size:=by rw[hT];exact zBf _
   have ntI:s.heap.objs.size≠(s.heap.push { cls:=.type "tuple",data:=.seq (ys.map fun (i:Nat)=>rawInt i).toArray }).objs.size:=by rw[hT];exact zT (zBS _)
   have W:=walk_b (prog:=prog) (w:=w) (A:=A.in1) (I:=(s.heap.push { cls:=.type "tuple",data:=.seq (ys.map fun (i:Nat)=>rawInt i).toArray }).objs.size) (tp:=s.heap.objs.size) (tb:=tb) (ep:=ep) hh (naI _ hI) ntI hf hp
   have nf:S∉[(s.heap.push { cls:=.type "tuple",data:=.seq (ys.map fun (i:Nat)=>rawInt i).toArray }).objs.size,a,s.heap.objs.size]:=by
    simp only[zV,List.not_mem_nil,or_false,not_or]
    exact⟨nSI _ hI,hSa,nSI _ (zI _)⟩
   have kp:∀b o,s.heap.get? b=some o->((s.heap.push { cls:=.type "tuple",data:=.seq (ys.map fun (i:Nat)=>rawInt i).toArray }).push (zDm (.ref s.heap.objs.size) el.size ep a)).get? b=some o:=fun b o e=>zG _ (zG _ e)
   have st0:SI ((s.heap.push { cls:=.type "tuple",data:=.seq (ys.map fun (i:Nat)=>rawInt i).toArray }).push (zDm (.ref s.heap.objs.size) el.size ep a)) (s.heap.push { cls:=.type "tuple",data:=.seq (ys.map fun (i:Nat)=>rawInt i).toArray }).objs.size (.ref s.heap.objs.size) 0 el.size ep a/\zEZ ((s.heap.push { cls:=.type "tuple",data:=.seq (ys.map fun (i:Nat)=>rawInt i).toArray }).push (zDm (.ref s.heap.objs.size) el.size ep a)) a el ep tb/\zGy ((s.heap.push { cls:=.type "tuple",data:=.seq (ys.map fun (i:Nat)=>rawInt i).toArray }).push (zDm (.ref s.heap.objs.size) el.size ep a)) s.heap.objs.size ys:=
    ⟨⟨_,zL _ rfl,rfl,rfl⟩,hm.keep fun o e=>kp _ o e,⟨_,_,zG _ (zL _ rfl),rfl⟩⟩
   generalize (s.heap.push { cls:=.type "tuple",data:=.seq (ys.map fun (i:Nat)=>rawInt i).toArray }).objs.size=I0 at hT hI ntI W nf st0 kp ⊢
   generalize (s.heap.push { cls:=.type "tuple",data:=.seq (ys.map fun (i:Nat)=>rawInt i).toArray }).push (zDm (.ref s.heap.objs.size) el.size ep a)=h0 at st0 kp ⊢
   refine zA (zx (zHI (zEZ.typeIs (hm.keep fun o e=>kp _ o e)) ?_))
   refine wpAny_ite_split (fun _=>?_) (fun _=>?_)
   . refine zA (zBm (zA ?_))
     show wpAny _ _ (updateSeq S (·.push .none) >>= fun _=>updateSeq S (·.pop)) _ _ _
     refine zA (wpAny_updateSeq (kp _ _ hS) rfl ?_)
     have hS2:=zAC (Obj.mapSeq (·.push Value.none)) (kp _ _ hS) rfl
     refine wpAny_updateSeq (hz:=by seq_fits) hS2 rfl ?_
     have hS3:=zAC (Obj.mapSeq (·.pop)) hS2 rfl
     have up:∀b o,b≠S->h0.get? b=some o->((h0.update S (Obj.mapSeq (·.push Value.none))).update S (Obj.mapSeq (·.pop))).get? b=some o:=fun b o hb e=>(zBi _ _ (Ne.symm hb)).trans ((zBi _ _ (Ne.symm hb)).trans e)
     refine zC ⟨plainId_quiet PySem.F.plain_extend_loop _,zHJ (s0:=s) W nf nS hI (fun b o hb e=>up b o hb (kp b o e)) (W.frame 0 _ _ st0 fun b hb o e=>up b o (fun z=>nf (z ▸ hb)) e) hS3 fun s' acc c' e1 _ e3 k hS' ha=>q s' acc c' e1 e3 k hS' (zLO hp ha)⟩
   . exact zC ⟨plainId_quiet PySem.F.plain_extend_loop _,zHJ (s0:=s) W nf nS hI (fun b o _ e=>kp b o e) st0 (kp _ _ hS) fun s' acc c' e1 _ e3 k hS' ha=>q s' acc c' e1 e3 k hS' (zLO hp ha)⟩
theorem zGe {R:List Value->Shared->Prop}(hh:A.handled=none)(hm:zEZ s.heap a el ep tb)(hf:tb.fits el.size=true)(gt:GT (!w.params.followText "set-order") tb) (hz:el.size<=100000)
 (q:∀(s':Shared)(acc:Array Value),s'.gens=s.gens->s'.os=s.os->(∀b o,s.heap.get? b=some o->s'.heap.get? b=some o)->Gath el acc->R acc.toList s'):wpAny (model prog w) A (collect (.ref a)) R E s:=by
 unfold collect
 refine zA (wpAny_runValue (codeAny_builtin entry_proto_collect' ?_))
 rw[Around.under_plainId PySem.F.plain_proto_collect _]
 refine zA (m:=newList []) (zv ?_)
 refine zC ⟨plainId_quiet PySem.F.plain_list_iadd _,codeAny_builtin entry_list_iadd' ?_⟩
 rw[Around.under_plainId PySem.F.plain_list_iadd _]
 have hS:(s.heap.push { cls:=.type "list",data:=.seq ([]:List Value).toArray }).get? s.heap.objs.size=some { cls:=.type "list",data:=.seq #[] }:=zL _ rfl
 show wpAny _ A.in1 (Builtin.List.listExtendWith (.ref s.heap.objs.size) (.ref a) (.ref s.heap.objs.size)) _ _ _
 have key:=zHS (prog:=prog) (w:=w) (A:=A) (s:={ s with heap:=s.heap.push { cls:=.type "list",data:=.seq ([]:List Value).toArray } }) (res:=.ref s.heap.objs.size)
  (R:=fun (u:Result)(s':Shared)=>∃(acc:Array Value)(c':Nat),u = .ok (.ret (.ref s.heap.objs.size))/\s'.gens=s.gens/\s'.os=s.os/\(∀b o,s.heap.get? b=some o->s'.heap.get? b=some o)/\s'.heap.get? s.heap.objs.size=some { cls:=.type "list",dict:=none,data:=.seq acc c',slots:=#[] }/\Gath el acc)
  hh (hm.keep fun o e=>zG _ e) hf gt hz (zAG hm.lt) hS (fun s' acc c' e1 e2 k hS' g=>⟨acc,c',rfl,e1,e2,fun b o e=>k b o (zT (zQ e)) (zG _ e),hS',g⟩)
 refine zAz key (fun fin s' x=>?_) fun e s' x=>?_
 . cases fin with
   | done f=>
    obtain⟨acc,c',e,e1,e2,k,hS',g⟩:=x
    cases e
    exact zA (wpAny_load hS' (zC (q s' acc e1 e2 k g)))
   | again c1=>
    refine⟨x.1,codeAny_mono x.2 fun u s2 y=>?_⟩
    obtain⟨acc,c',rfl,e1,e2,k,hS',g⟩:=y
    exact zA (wpAny_load hS' (zC (q s2 acc e1 e2 k g)))
 . obtain⟨_,_,e',_⟩:=x
   cases e'
end
end STb
namespace STb
open PySem PySem.Spec PyProof.Rows L2
section
variable {prog:Program}{w:World}{A:Around}{E:vSP}{s:Shared}
theorem zLK {I S:Addr}{fp:List Addr}{n:Nat}{P:Nat->Value->Prop}{St:Nat->Heap->Prop}{led:Bool}{R:Result->Shared->Prop}(W:Walks prog w A.in1 I fp [I] n P St)(hSf:S∉fp)(hSI:S≠I)(val:Nat->Int)(hv:∀i v,P i v->∃t,v = .int (val i) t)(hb:n+1<scanBound) :
 ∀(k i:Nat)(s:Shared),n-i=k->i<=n->St i s.heap->zFY prog w led s.heap S (fun z=>(firstMet val i).any fun x=>x==z) (firstMet val i).length ->
  (∀s':Shared,s'.gens=s.gens->s'.drawn=s.drawn->s'.os=s.os->(∀b o,b≠S->b≠I->s.heap.get? b=some o->s'.heap.get? b=some o)->zFY prog w led s'.heap S (fun z=>(firstMet val n).any fun x=>x==z) (firstMet val n).length->R (.ok (.ret .none)) s') ->
  codeAny (model prog w) A (.builtin "set.update.loop" ⟨[.ref S,.ref I],[]⟩) R s:=by
 intro k
 induction k with
 | zero=>
  intro i s hk hi st G q
  obtain rfl:i=n:=by omega
  refine codeAny_builtin PyProof.Rows.F.entry_set_update_loop ?_
  rw[Around.under_plainId PyProof.Rows.F.plain_set_update_loop _]
  refine zA (m:=pyNext (.ref I)) (W.done s _ _ st fun h' tk kp=>?_)
  refine zC (q _ rfl rfl rfl (fun b o _ hbI e=>kp b o (fun z=>hbI (by simpa using z)) e) (G.keep fun o e=>kp S o (fun z=>hSI (by simpa using z)) e))
 | succ k ih=>
  intro i s hk hi st G q
  have hlt:i<n:=by omega
  refine codeAny_builtin PyProof.Rows.F.entry_set_update_loop ?_
  rw[Around.under_plainId PyProof.Rows.F.plain_set_update_loop _]
  refine zA (m:=pyNext (.ref I)) (W.item i s _ _ hlt st fun v h' tk hP st' kp=>?_)
  obtain⟨t,rfl⟩:=hv i v hP
  have G':zFY prog w led h' S (fun z=>(firstMet val i).any fun x=>x==z) (firstMet val i).length:=G.keep fun o e=>kp S o (fun z=>hSI (by simpa using z)) e
  refine zA (m:=holding [Value.int (val i) t] (setAdd S (.int (val i) t))) (zx ?_)
  unfold setAdd
  refine zx (zA ((intKind prog w).pyHash (k:=val i) (intKind_is _ _ _ _) ?_))
  refine add_g (s:={ s with heap:=h',toks:=tk+1 }) G' (by have:=firstMet_length_le val i;omega) fun h2 sb G2=>?_
  have Gi:zFY prog w led h2 S (fun z=>(firstMet val (i+1)).any fun x=>x==z) (firstMet val (i+1)).length:=G2.congr (fun z=>by rw[firstMet_succ,step_any]) (by rw[firstMet_succ,step_length])
  refine zC ⟨plainId_quiet PyProof.Rows.F.plain_set_update_loop _,ih (i+1) _ (by omega) hlt (W.frame _ _ _ st' fun b hb o e=>(sb.2 b fun z=>hSf (z ▸ hb)).trans e) Gi fun s'' e1 e2 e3 kp2 G3=>?_⟩
  exact q s'' e1 e2 e3 (fun b o hbS hbI e=>kp2 b o hbS hbI ((sb.2 b hbS).trans (kp b o (fun z=>hbI (by simpa using z)) e))) G3
noncomputable def zCA (w:World):Obj:={ cls:=.type "set",dict:=none,data:=.set #[] 0 (.fresh 0 0 (!w.params.followText "set-order")) }
theorem zFp (h:Heap):zFY prog w (!w.params.followText "set-order") (h.push (zCA w)) h.objs.size (fun _=>false) 0:=
 ⟨_,#[],0,_,zL _ rfl,⟨rfl,rfl,rfl⟩,rfl,⟨fun e he=>by simp at he,fun k=>by simp,by decide,by rfl,rfl,zKU _⟩⟩
theorem new_g (a:Value){Q₁:vSP}(h:Q₁ (.ref s.heap.objs.size) { s with heap:=s.heap.push (zCA w) }):codeAny (model prog w) A (.call (.builtin "set.__new__") ⟨[.type "set",a],[]⟩) (wants Q₁ E) s:=by
 refine codeAny_of_tree (zA (m:=checkBuiltinCall "set.__new__" ⟨[.type "set",a],[]⟩) (wpAny_of_eq (PySem.F.newCall_set_1 a) (zC ⟨plainId_quiet PySem.F.plain_set_new _,codeAny_builtin PySem.F.entry_set_new ?_⟩)))
 rw[Around.under_plainId PySem.F.plain_set_new _]
 unfold Builtin.«set.__new__» Builtin.Frozenset.newClass
 have sub:=sub_set_self
 obtain⟨hp,g,d,tk,os⟩:=s
 dsimp only
 wp_walk
 refine wpAny_askSetting (zC ?_)
 dsimp only
 simp only[newObj]
 exact zA (wpAny_alloc (zC (zC h)))
theorem zMZ {l:Addr}{its:List Value}{ns:List Int}{Q:vSP}(hA:A.handled=none)(hl:s.heap.IsList l its.toArray)(hi:IntsAre its ns)(hz:its.length+1<scanBound)
 (q:∀(h:Heap)(tk:Nat),(∀b o,s.heap.get? b=some o->h.get? b=some o)->zFY prog w (!w.params.followText "set-order") h s.heap.objs.size (fun z=>(firstMet (fun i=>ns.getD i 0) its.length).any fun x=>x==z) (firstMet (fun i=>ns.getD i 0) its.length).length->Q (.ref s.heap.objs.size) { s with heap:=h,toks:=tk }) :
 wpAny (model prog w) A (call (.type "set") [.ref l]) Q E s:=by
 refine zBb (codeAny_of_tree (zC ⟨Code.quiet_builtin _ (by decide +kernel),codeAny_builtin PySem.F.entry_type_call ?_⟩))
 unfold Builtin.«type.__call__»
 dsimp only
 rw[if_neg (by rw[PySem.F.called_set.notType];decide)]
 rw[if_neg (by rw[PySem.F.called_set.canCreate];decide)]
 obtain⟨c,tl,hm⟩:=PySem.F.called_set.mro
 refine zA (wpAny_of_eq (PySem.F.typeCall_set_1 _) (zC (zA (wpAny_of_eq hm (zC ?_)))))
 refine zA (wpAny_of_eq PySem.F.called_set.made (zC (zA (zC ?_))))
 refine zA (zx (zBb (codeAny_mono (new_g (E:=E) (.ref l) (Q₁:=fun obj s₁=>obj = .ref s.heap.objs.size/\s₁={ s with heap:=s.heap.push (zCA w) }) ⟨rfl,rfl⟩) fun r s₁ e=>?_)))
 match r,e with
 | .ok (.ret obj),e=>
  obtain⟨rfl,rfl⟩:=e
  have h0:∀b o,s.heap.get? b=some o->(s.heap.push (zCA w)).get? b=some o:=fun b o e=>zG _ e
  have ht:∀h:Heap,(∀b o,s.heap.get? b=some o->h.get? b=some o)->h.IsList l its.toArray:=fun h K=>by
   obtain⟨o,ho,hr⟩:=hl
   exact⟨o,K _ _ ho,hr⟩
  have hlt:l<s.heap.objs.size:=by
   obtain⟨o,ho,_⟩:=hl
   exact zQ ho
  have tyS:Shared.TypeIs { s with heap:=s.heap.push (zCA w) } (.ref s.heap.objs.size) "set" := ⟨_,zL _ rfl,rfl⟩
  show wpAny _ _ _ _ _ _
  refine zA (zAj tyS PySem.F.called_set.sub ?_)
  refine zA (zx ?_)
  unfold callSpecial?
  refine zA (wpAny_specialOf tyS PySem.F.called_set.init.lookup (zx (zA (wpAny_of_eq (PySem.F.called_set.init.bind _) (zC (zA (zBb (codeAny_call_builtin PySem.F.called_set.init.plain PySem.F.entry_set_init (check_set_init_1 tyS ?_)))))))))
  unfold Builtin.«set.__init__»
  refine zA (wpAny_of_eq (m':=pure ()) rfl (zC ?_))
  dsimp only
  refine zA (zA (zA (zBY tyS (wpAny_of_eq (m':=pure (Value.type "set")) rfl (zC (wpAny_of_eq (m':=pure "set") rfl (zC ?_)))))))
  refine zA (wpAny_of_eq (m':=pure ()) rfl (zC (zA (zC ?_))))
  refine zA (zA (zA (wpAny_load (zL _ rfl) ?_)))
  refine wpAny_of_eq (m':=pure (#[],0,SetTable.fresh 0 0 (!w.params.followText "set-order"))) (by unfold zCA;cases w.params.followText "set-order" <;> rfl) (zC (wpAny_of_eq (m':=pure false) (by cases w.params.followText "set-order" <;> rfl) (zC ?_)))
  have tyT:∀h tk,(∀b o,s.heap.get? b=some o->h.get? b=some o)->Shared.TypeIs { s with heap:=h,toks:=tk } (.ref l) "list" := fun h tk K=>by
   obtain⟨o,ho,hr⟩:=ht h K
   exact⟨o,ho,hr.1⟩
  show wpAny _ _ (Builtin.Frozenset.updateFrom "set.__init__" s.heap.objs.size (.ref l) >>= _) _ _ _
  unfold Builtin.Frozenset.updateFrom
  refine zA (zA (zA (zAj (tyT _ _ h0) PySem.F.sub_list_set (zAj (tyT _ _ h0) (b:=false) PySem.F.sub_list_frozenset ?_))))
  refine zA (zBY (tyT _ _ h0) ?_)
  refine zA (wpAny_pyIter_list (ht _ h0) (zA (wpAny_runValue ?_)))
  have hsz:(s.heap.push (zCA w)).objs.size=s.heap.objs.size+1:=zAR ..
  have nli:l≠(s.heap.push (zCA w)).objs.size:=zT (by rw[hsz];exact zAl hlt)
  have nsi:s.heap.objs.size≠(s.heap.push (zCA w)).objs.size:=by rw[hsz];exact zT (zBS _)
  refine zLK (led:=!w.params.followText "set-order") (Walks.list (prog:=prog) (w:=w) (A:=(A.under (Code.builtin "type.__call__" { pos:=[.type "set",.ref l] })).in1.in1) hA (s.heap.push (zCA w)).objs.size l nli its.toArray) ?_ nsi (fun i=>ns.getD i 0) ?_ (by simpa using hz) its.toArray.size 0 _ rfl (zg _) ?_ ?_ ?_
  . intro z
    rcases zV.mp z with z | z
    . exact nsi z
    . exact absurd (zf.mp z) (zAG hlt)
  . intro i v hv
    rw[zAZ] at hv
    exact hi.int_at i v hv
  . exact⟨⟨_,zL _ rfl,rfl,rfl⟩,ht _ fun b o e=>zG _ (h0 b o e)⟩
  . exact (zFp (prog:=prog) (w:=w) s.heap).keep fun o e=>zG _ e
  . intro s' e1 e2 e3 kp so
    refine zC (zC (zC (zC ?_)))
    obtain⟨h',g',d',t',o'⟩:=s'
    cases e1
    cases e2
    cases e3
    refine q h' t' (fun b o e=>kp b o (zT (zQ e)) (fun z=>?_) (zG _ (h0 b o e))) (by simpa using so)
    have hb:b<s.heap.objs.size:=zQ e
    rw[z,hsz] at hb
    exact absurd hb (Nat.not_lt.mpr (zBf _))
 | .ok .next,e=>exact e.elim
 | .ok .brk,e=>exact e.elim
 | .ok .cont,e=>exact e.elim
 | .error v,e=>exact e
theorem mk_tup {l:Addr}{its:List Value}{ns:List Int}{Q:vSP}(hA:A.handled=none)(hl:s.heap.IsTuple l its.toArray)(hi:IntsAre its ns)(hz:its.length+1<scanBound)
 (q:∀(h:Heap)(tk:Nat),(∀b o,s.heap.get? b=some o->h.get? b=some o)->zFY prog w (!w.params.followText "set-order") h s.heap.objs.size (fun z=>(firstMet (fun i=>ns.getD i 0) its.length).any fun x=>x==z) (firstMet (fun i=>ns.getD i 0) its.length).length->Q (.ref s.heap.objs.size) { s with heap:=h,toks:=tk }) :
 wpAny (model prog w) A (call (.type "set") [.ref l]) Q E s:=by
 refine zBb (codeAny_of_tree (zC ⟨Code.quiet_builtin _ (by decide +kernel),codeAny_builtin PySem.F.entry_type_call ?_⟩))
 unfold Builtin.«type.__call__»
 dsimp only
 rw[if_neg (by rw[PySem.F.called_set.notType];decide)]
 rw[if_neg (by rw[PySem.F.called_set.canCreate];decide)]
 obtain⟨c,tl,hm⟩:=PySem.F.called_set.mro
 refine zA (wpAny_of_eq (PySem.F.typeCall_set_1 _) (zC (zA (wpAny_of_eq hm (zC ?_)))))
 refine zA (wpAny_of_eq PySem.F.called_set.made (zC (zA (zC ?_))))
 refine zA (zx (zBb (codeAny_mono (new_g (E:=E) (.ref l) (Q₁:=fun obj s₁=>obj = .ref s.heap.objs.size/\s₁={ s with heap:=s.heap.push (zCA w) }) ⟨rfl,rfl⟩) fun r s₁ e=>?_)))
 match r,e with
 | .ok (.ret obj),e=>
  obtain⟨rfl,rfl⟩:=e
  have h0:∀b o,s.heap.get? b=some o->(s.heap.push (zCA w)).get? b=some o:=fun b o e=>zG _ e
  have ht:∀h:Heap,(∀b o,s.heap.get? b=some o->h.get? b=some o)->h.IsTuple l its.toArray:=fun h K=>by
   obtain⟨o,ho,hr⟩:=hl
   exact⟨o,K _ _ ho,hr⟩
  have hlt:l<s.heap.objs.size:=by
   obtain⟨o,ho,_⟩:=hl
   exact zQ ho
  have tyS:Shared.TypeIs { s with heap:=s.heap.push (zCA w) } (.ref s.heap.objs.size) "set" := ⟨_,zL _ rfl,rfl⟩
  show wpAny _ _ _ _ _ _
  refine zA (zAj tyS PySem.F.called_set.sub ?_)
  refine zA (zx ?_)
  unfold callSpecial?
  refine zA (wpAny_specialOf tyS PySem.F.called_set.init.lookup (zx (zA (wpAny_of_eq (PySem.F.called_set.init.bind _) (zC (zA (zBb (codeAny_call_builtin PySem.F.called_set.init.plain PySem.F.entry_set_init (check_set_init_1 tyS ?_)))))))))
  unfold Builtin.«set.__init__»
  refine zA (wpAny_of_eq (m':=pure ()) rfl (zC ?_))
  dsimp only
  refine zA (zA (zA (zBY tyS (wpAny_of_eq (m':=pure (Value.type "set")) rfl (zC (wpAny_of_eq (m':=pure "set") rfl (zC ?_)))))))
  refine zA (wpAny_of_eq (m':=pure ()) rfl (zC (zA (zC ?_))))
  refine zA (zA (zA (wpAny_load (zL _ rfl) ?_)))
  refine wpAny_of_eq (m':=pure (#[],0,SetTable.fresh 0 0 (!w.params.followText "set-order"))) (by unfold zCA;cases w.params.followText "set-order" <;> rfl) (zC (wpAny_of_eq (m':=pure false) (by cases w.params.followText "set-order" <;> rfl) (zC ?_)))
  have tyT:∀h tk,(∀b o,s.heap.get? b=some o->h.get? b=some o)->Shared.TypeIs { s with heap:=h,toks:=tk } (.ref l) "tuple" := fun h tk K=>by
   obtain⟨o,ho,hr⟩:=ht h K
   exact⟨o,ho,hr.1⟩
  show wpAny _ _ (Builtin.Frozenset.updateFrom "set.__init__" s.heap.objs.size (.ref l) >>= _) _ _ _
  unfold Builtin.Frozenset.updateFrom
  refine zA (zA (zA (zAj (tyT _ _ h0) PySem.F.sub_tuple_set (zAj (tyT _ _ h0) (b:=false) rfl ?_))))
  refine zA (zBY (tyT _ _ h0) ?_)
  refine zA (wpAny_pyIter_tuple (ht _ h0) (zA (wpAny_runValue ?_)))
  have hsz:(s.heap.push (zCA w)).objs.size=s.heap.objs.size+1:=zAR ..
  have nli:l≠(s.heap.push (zCA w)).objs.size:=zT (by rw[hsz];exact zAl hlt)
  have nsi:s.heap.objs.size≠(s.heap.push (zCA w)).objs.size:=by rw[hsz];exact zT (zBS _)
  refine zLK (led:=!w.params.followText "set-order") (Walks.tuple (prog:=prog) (w:=w) (A:=(A.under (Code.builtin "type.__call__" { pos:=[.type "set",.ref l] })).in1.in1) hA (s.heap.push (zCA w)).objs.size l nli its.toArray) ?_ nsi (fun i=>ns.getD i 0) ?_ (by simpa using hz) its.toArray.size 0 _ rfl (zg _) ?_ ?_ ?_
  . intro z
    rcases zV.mp z with z | z
    . exact nsi z
    . exact absurd (zf.mp z) (zAG hlt)
  . intro i v hv
    rw[zAZ] at hv
    exact hi.int_at i v hv
  . exact⟨⟨_,zL _ rfl,rfl,rfl⟩,ht _ fun b o e=>zG _ (h0 b o e)⟩
  . exact (zFp (prog:=prog) (w:=w) s.heap).keep fun o e=>zG _ e
  . intro s' e1 e2 e3 kp so
    refine zC (zC (zC (zC ?_)))
    obtain⟨h',g',d',t',o'⟩:=s'
    cases e1
    cases e2
    cases e3
    refine q h' t' (fun b o e=>kp b o (zT (zQ e)) (fun z=>?_) (zG _ (h0 b o e))) (by simpa using so)
    have hb:b<s.heap.objs.size:=zQ e
    rw[z,hsz] at hb
    exact absurd hb (Nat.not_lt.mpr (zBf _))
 | .ok .next,e=>exact e.elim
 | .ok .brk,e=>exact e.elim
 | .ok .cont,e=>exact e.elim
 | .error v,e=>exact e
end
end STb
namespace L2
open PySem PySem.Spec PyProof.Rows STb
theorem zDv (val:Nat->Int):∀i,(firstMet val i).Nodup
 | 0=>List.nodup_nil
 | i+1=>by
  have ih:=zDv val i
  rw[firstMet_succ]
  unfold step_dedup
  split
  . exact ih
  . rename_i h
    refine List.nodup_append.mpr ⟨ih,by simp,fun a ha b hb e=>h ?_⟩
    rw[zf.mp hb] at e
    subst e
    exact zB7.mpr ⟨_,ha,by simp⟩
theorem zEs:∀{l2 l1:List Int},l2.Nodup->(∀x∈l2,x∈l1)->l1.length<=l2.length->l1.Perm l2
 | [],l1,_,_,h=>by
  have:l1=[]:=zBW.mp (by simpa using h)
  subst this
  exact List.Perm.refl _
 | x::r,l1,nd,hs,h=>by
  have hx:x∈l1:=hs x zZ
  have nx:x∉r:=(zAk.mp nd).1
  refine (List.perm_cons_erase hx).trans ((zEs (zAk.mp nd).2 (fun y hy=>?_) ?_).cons x)
  . exact (List.mem_erase_of_ne (a:=y) (b:=x) (fun z=>nx (by rw[<-z];exact hy))).mpr (hs y (zc _ hy))
  . rw[List.length_erase_of_mem hx]
    simp only[zn] at h
    omega
theorem zE0 {prog:Program}{w:World}:∀{l:List (Int×Value)},ElemsOf (intKind prog w) l->∃ns:List Int,IntsAre (l.map (·.2)) ns/\∀z,z∈ns↔∃e∈l,(intKind prog w).is z e.2=true
 | [],_=>⟨[],.nil,fun z=>by simp⟩
 | e::r,h=>by
  obtain⟨ns,h1,h2⟩:=zE0 (l:=r) h.tail
  obtain⟨⟨k,hk,_⟩,_⟩:=h.head
  obtain⟨t,et⟩:=Value.isInt_shape hk
  refine⟨k::ns,?_,fun z=>?_⟩
  . rw[zAX,et]
    exact .cons k t h1
  . rw[zV,h2]
    constructor
    . rintro (rfl | ⟨e',he',hz⟩)
      . exact⟨e,zZ,hk⟩
      . exact⟨e',zc _ he',hz⟩
    . rintro ⟨e',he',hz⟩
      rcases zV.mp he' with rfl | he'
      . exact .inl ((intKind prog w).inj _ _ _ hz hk)
      . exact .inr ⟨e',he',hz⟩
theorem zLS (ns:List Int)(z:Int):((firstMet (fun i=>ns.getD i 0) ns.length).any fun x=>x==z)=true↔z∈ns:=by
 rw[firstMet_any]
 have e:(List.range ns.length).map (fun i=>ns.getD i 0)=ns:=by
  apply List.ext_getElem
  . simp
  . intro i h1 h2
    simp[h2]
 rw[e,zB7]
 exact⟨fun ⟨x,hx,h⟩=>by rw[<-eq_of_beq h];exact hx,fun h=>⟨z,h,by simp⟩⟩
theorem zFi {ms:List Int}(h1:ms.Pairwise (· <= ·))(h2:ms.Nodup):ms.Pairwise (· < ·):=by
 rw[zAQ] at h1 ⊢
 intro i j hi hj hij
 have a:=h1 i j hi hj hij
 have b:ms[i]≠ms[j]:=fun z=>by have:=(List.getElem_inj h2).mp z;omega
 omega
section
open PySem.W PySem.Calls SortT
variable {prog:Program}{w:World}{A:Around}{E:vSP}{s:Shared}
theorem zGd {a:Addr}{S:Int->Bool}{n:Nat}{Q:vSP}(hh:A.handled=none)(G:zFY prog w (!w.params.followText "set-order") s.heap a S n) (h64:n<64)
 (q:∀(s1:Shared)(h':Heap)(D:Addr)(ms:List Int)(us:List Value)(c:Nat),s1.gens=s.gens->s1.os=s.os->(∀b o,s.heap.get? b=some o->s1.heap.get? b=some o)->(∀b o,s1.heap.get? b=some o->h'.get? b=some o)->s1.heap.objs.size<=D->h'.get? D=some (seqObj "list" us.toArray c)->zBL (ms.map V.int) us->ms.Pairwise (· <= ·)->(∀z,z∈ms↔S z=true)->ms.length=n->Q (.ref D) { s1 with heap:=h' }) :
 wpAny (model prog w) A (call (.builtin "sorted") [.ref a]) Q E s:=by
 obtain⟨ob,el,ep,tb,g1,g2,g3,B⟩:=G
 refine Calls.call_function_entry kind_sorted plain_sorted entry_sorted (args_sorted1 _) ?_
 unfold Builtin.«sorted»
 refine zA (m:=checkCount "sorted" 1 1 _) (zC ?_)
 refine zA (zGe (A:=A.in1) hh ⟨ob,g1,g2,g3⟩ B.fit B.gt (by have:=B.siz;omega) fun s1 acc e1 e2 k1 hg=>?_)
 obtain⟨l,lp,la⟩:=hg
 obtain⟨ns,hI,hm⟩:=zE0 (B.elm.perm lp)
 have hl:l.length=n:=by rw[lp.length_eq,Array.length_toList,B.siz]
 have hvl:acc.toList.length=n:=by rw[la,zB,hl]
 rw[<-la] at hI
 generalize acc.toList=vs at hI hvl
 refine zA (wpAny_newList ?_ (by rw[sizeLine_eq];omega))
 have hoL:(s1.heap.push (seqObj "list" vs.toArray 0)).get? s1.heap.objs.size=some (seqObj "list" vs.toArray 0):=zL _ rfl
 have kp1:∀b o,s1.heap.get? b=some o->(s1.heap.push (seqObj "list" vs.toArray 0)).get? b=some o:=fun b o z=>zG _ z
 refine zA (zx (zAE slot_list_sort ⟨_,hoL,rfl⟩ entry_list_sort (SortT.list_sort (O:=intO) (key:=fun i=>ns.getD i 0) (κ:=oneType') hoL (by omega) (fun h2=>zES hI h2) fun out hp=>⟨_,rfl,?_⟩) (args_list_sort _)))
 refine zC ⟨_,rfl,?_⟩
 obtain⟨c,hc⟩:=sortedHeap_at (vs:=vs) (out:=(out.map fun i=>vs.getD i Value.none).toArray) hoL
 obtain⟨ms,pm,pr,rz,pl⟩:=zFG hI hp
 refine q s1 _ _ ms _ c e1 e2 k1 (fun b o z=>?_) (zI _) hc rz pr (fun z=>?_) (by rw[pl,<-hI.length,hvl])
 . have hb:b<s1.heap.objs.size:=zQ z
   rw[sortedHeap_old (zT hb) (by rw[zAR];exact zAl hb)]
   exact kp1 b o z
 . rw[pm.mem_iff,hm z,B.mem z]
   exact⟨fun ⟨e,he,u⟩=>⟨e,lp.mem_iff.mp he,u⟩,fun ⟨e,he,u⟩=>⟨e,lp.mem_iff.mpr he,u⟩⟩
end
theorem zDp {l:List Int}(h:l.Nodup)(hb:∀x∈l,0<=x/\x<60):l.length<=60:=by
 have h2:(l.map Int.toNat).Nodup:=by
  rw[List.Nodup,zA2]
  refine List.Pairwise.imp_of_mem (fun {a b} ha hb' hne e=>hne ?_) h
  have:=hb a ha
  have:=hb b hb'
  omega
 have sub:∀(m:Nat)(l:List Nat),l.Nodup->(∀x∈l,x<m)->l.length<=m:=by
  intro m
  induction m with
  | zero=>intro l _ hb;cases l with
   | nil=>exact zI _
   | cons x _=>exact absurd (hb x zZ) (zBz _)
  | succ m ih=>
   intro l nd hb
   have:=ih (l.erase m) (nd.erase m) fun x hx=>by
    have hm:=hb x (List.mem_of_mem_erase hx)
    have:x≠m:=fun z=>by
     rw[z] at hx
     exact ((List.Nodup.mem_erase_iff nd).mp hx).1 rfl
    omega
   have hle:l.length<=(l.erase m).length+1:=by
    rw[List.length_erase]
    split <;> omega
   omega
 have:=sub 60 _ h2 fun x hx=>by
  obtain⟨y,hy,rfl⟩:=zAM.mp hx
  have:=hb y hy
  omega
 rw[zB] at this
 exact this
section
variable {X:Cx}
noncomputable def zHv (K:PySem.W.Frag)(ta:TA):TE:=fun σ H Q=>ta σ H fun vs H1=>∃(p:Addr)(ns:List Int),vs=[.ref p]/\(SqL K H1 p (ns.map V.int)\/SqT K H1 p (ns.map V.int))/\ns.length<4000/\(∀z∈ns,0<=z/\z<60)/\∀(l:Addr)(ms:List Int),H1 l=none->ms.Pairwise (· < ·)->(∀z:Int,z∈ms↔z∈ns)->Q (.ref l) (upd H1 l (.lst (ms.map V.int)))
theorem zCN {a:Expr}{ta:TA}{p1 p2 pos1 pos2:Pos}(hc:X.calm=true)(hgS:Gl X "sorted") (hmS:X.mg "sorted" = none) (hgT:Gl X "set") (hmT:X.mg "set" = none) (ha:PA X [a] ta)(hs:starEach [a] X.env=[(false,eval a X.env)]:=by rfl)
 (hs2:starEach [.Call (.Name "set" p2) [a] [] pos2] X.env=[(false,eval (.Call (.Name "set" p2) [a] [] pos2) X.env)]:=by rfl) :
 PE X (.Call (.Name "sorted" p1) [.Call (.Name "set" p2) [a] [] pos2] [] pos1) (zHv X.K ta):=by
 intro pins s σ H Q I h
 refine zBM (zCp I hgS hmS (by decide +kernel:bootBuiltins "sorted" = some (.builtin "sorted")) ?_ (by decide) (by decide))
 refine PyProof.Rows.callWith_builtin1 ?_ hs2 rfl
 rw[hs2]
 refine Calls.spliced_cons ?_
 refine Call_ (zCp I hgT hmT (by decide +kernel:bootBuiltins "set" = some (.type "set")) (PyProof.Rows.callWith_type1 (thn (ha pos2 pins s σ H _ I h) fun us s1 ⟨vs,H1,I1,r1,q1⟩=>?_) hs rfl))
 obtain⟨p,ns,e,hq,h4k,h60,q⟩:=q1
 subst e
 obtain⟨u,rfl,rx⟩:=zC3 r1
 cases rx
 have lh:(firstMet (fun i=>ns.getD i 0) ns.length).length<=ns.length:=firstMet_length_le _ _
 have l60:(firstMet (fun i=>ns.getD i 0) ns.length).length<=60:=zDp (zDv _ _) fun x hx=>h60 x ((zLS ns x).mp (zB7.mpr ⟨x,hx,by simp⟩))
 have key:∀(h:Heap)(tk:Nat),(∀b o,s1.heap.get? b=some o->h.get? b=some o)->zFY X.prog X.w (!X.w.params.followText "set-order") h s1.heap.objs.size (fun z=>(firstMet (fun i=>ns.getD i 0) ns.length).any fun x=>x==z) (firstMet (fun i=>ns.getD i 0) ns.length).length ->
  wpAny (model X.prog X.w) X.A (call (.builtin "sorted") [.ref s1.heap.objs.size]) (EP X pins σ Q) X.xe { s1 with heap:=h,toks:=tk }:=by
  intro h tk K so
  refine zGd (I1.ok.hd hc) so (by omega) fun s2 h' D ms us c e1 e2 k1 k2 hD ho rz pr hm hlen=>?_
  obtain⟨hp2,g2,d2,t2,o2⟩:=s2
  cases e1
  cases e2
  have kk:∀b o,s1.heap.get? b=some o->hp2.get? b=some o:=fun b o z=>k1 b o (K b o z)
  have I2:Inv X pins σ H1 { s1 with heap:=hp2,gens:=s1.gens,drawn:=d2,toks:=t2 }:=I1.call (ch:=[]) (Un.kept kk) (I1.hok.kept kk) I1.bare fun _ z=>nomatch z
  have cov:=zEs (l2:=firstMet (fun i=>ns.getD i 0) ns.length) (l1:=ms) (zDv _ _) (fun x hx=>(hm x).mpr (zB7.mpr ⟨x,hx,by simp⟩)) (by omega)
  refine⟨.ref D,_,zCy (t':=t2) I2 hD k2 ho rz ?_,rfl,q D ms (I2.hok.fresh hD) (zFi pr (cov.nodup_iff.mpr (zDv _ _))) fun z=>(hm z).trans (zLS ns z)⟩
  have:sizeLine=16777216:=rfl
  rw[zB]
  omega
 have sb:scanBound=4096:=rfl
 rcases hq with hq | hq
 . obtain⟨its,rv,pl,hz⟩:=I1.list hq
   have hi:=zBU rv
   have hil:=hi.length
   refine zMZ (I1.ok.hd hc) pl.isList hi (by omega) fun h tk K so=>?_
   rw[hil] at so
   exact Calls.spliced_nil (key h tk K so)
 . obtain⟨its,rv,pl,hz⟩:=I1.tuple hq
   have hi:=zBU rv
   have hil:=hi.length
   refine mk_tup (I1.ok.hd hc) pl hi (by omega) fun h tk K so=>?_
   rw[hil] at so
   exact Calls.spliced_nil (key h tk K so)
end
end L2
namespace L2
section
open PySem PySem.W PyProof.Rows
noncomputable def zE7 (p:Program)(w:World)(n₀:Nat)(ann:Option Value):Nat->SharedT->Thread->Option SharedT
 | 0,_,_=>none
 | n+1,s,t=>match through t with
  | true=>some s
  | false=>match Fast.tw6613529449190102663 n₀ ann t with
   | false=>none
   | true=>match Fast.tw10156331382660048174 (Fast.tw11892475500146522536 Fast.tw14364793385576792824) p w s t with
    | some (s',t')=>zE7 p w n₀ ann n s' t'
    | none=>none
theorem zFf {p:Program}{w:World}{n₀:Nat}{ann:Option Value}:∀{n:Nat}{s s':SharedT}{t:Thread},zE7 p w n₀ ann n s t=some s'->topRun treeTable p w n₀ ann n s.abs t=some s'.abs
 | 0,_,_,_,h=>by cases h
 | n+1,s,s',t,h=>by
  unfold zE7 at h
  rw[<-Fast.te6613529449190102663,<-Fast.te10156331382660048174,<-Fast.te11892475500146522536,<-Fast.te14364793385576792824] at h
  unfold topRun
  cases he:through t with
  | true=>rw[he] at h;cases h;rfl
  | false=>
   rw[he] at h
   cases hk:stepOk n₀ ann t with
   | false=>rw[hk] at h;cases h
   | true=>
    rw[hk] at h
    cases hs:stepT (denote treeTable) p w s t with
    | none=>rw[hs] at h;cases h
    | some r=>obtain⟨s₂,t₂⟩:=r;rw[hs] at h;rw[stepT_spec hs];exact zFf h
noncomputable def bt:List Obj->Nat->BT->BT
 | [],_,t=>t
 | o::l,i,t=>bt l (i+1) (t.ins i o)
noncomputable def bT (P:Params):BT:=bt (boot_heap P).objs.toList 0 .nil
noncomputable def bS (w:World)(os:OsState):SharedT:=⟨bT w.params,(boot_heap w.params).objs.size,(boot_heap w.params).life,Array.mk [],boot_drawn,boot_toks,os⟩
theorem bA (w:World)(os:OsState):(bS w os).abs=⟨boot_heap w.params,Array.mk [],boot_drawn,boot_toks,os⟩:=by kernel_rfl
noncomputable abbrev runT (p:Program)(N:Nat)(w:World)(os:OsState):Option SharedT:=zE7 p w (boot_heap w.params).objs.size ((boot_heap w.params).nsMap mainGlobals "__annotations__") N (bS w os) (topStub p)
noncomputable abbrev chkT (p:Program)(h h':Heap)(s:Shared):Bool:=staticsOk (importedModules p.main.body) h h' && namesBound p h' && gensDone s && laidKept h h'
theorem left_of {p q:Program}{loose:List Str}{Xt:Shared->Bool}{α:Type}{Yf:Shared->α}{Ya:World->α}{N:Nat}(e:opening p=plainProg p.main.scope.names)(hN:Nat.ble 600 N=true)(f:∀s,fenceModules? p s=some s)
 (h:∀(w:World)(os:OsState),(runT p N w os).map (fun s=>(chkT p (boot_heap w.params) s.abs.heap s.abs,Fast.tw4187177175401517315 q loose (importedModules p.main.body) Xt true s.abs,Yf s.abs))=some (true,openGood q loose,Ya w)):LeftO p q loose Xt Yf Ya N:=by
 intro w
 obtain⟨⟨h0,gs,d,k,os⟩,e1,e2⟩:=Option.map_eq_some_iff.mp (boot_open e hN f w)
 obtain⟨rfl,rfl,rfl,rfl⟩:h0=boot_heap w.params/\gs=Array.mk []/\d=boot_drawn/\k=boot_toks:=by simpa using e2
 obtain⟨s,r,a⟩:=Option.map_eq_some_iff.mp (h w os)
 obtain⟨b,a⟩:=Prod.mk.inj a
 rw[<-Fast.te4187177175401517315] at a
 have y:=zFf r
 rw[bA] at y
 unfold openEnds
 rw[e1]
 show (topFrom treeTable p w N _).map _=_
 unfold topFrom
 have z:((boot_heap w.params).isNs mainGlobals && (Array.mk []:Array GenState).size==0)=true:=by kernel_rfl
 dsimp only
 rw[z]
 dsimp only
 rw[y]
 show Option.map _ (match chkT p (boot_heap w.params) s.abs.heap s.abs with | true=>some s.abs | false=>none)=_
 rw[b]
 exact congrArg some a
end
end L2
namespace K67
open PySem L2 WM
variable {P:Program}{w:World}{K:PySem.W.Frag}{mg:sOV}{base:Heap}{PT:Addr}{X:Cx}
noncomputable def top (i:Nat):Stmt:=PySem.Challenge.pw_labelways_k67_parts.main.body.getD i (.Pass ⟨0,0,0,0⟩)
noncomputable abbrev zJu:Stmt:=top 45
noncomputable abbrev zFs:Stmt:=top 46
noncomputable abbrev zGh:Stmt:=top 47
noncomputable abbrev zGf:Stmt:=top 48
noncomputable abbrev zJq:Stmt:=top 49
noncomputable abbrev zJt:Stmt:=top 50
noncomputable abbrev zD4:Stmt:=top 51
noncomputable abbrev zJs:Stmt:=top 52
noncomputable abbrev sThs:Stmt:=top 53
noncomputable abbrev sLip:Stmt:=top 54
noncomputable abbrev sTol:Stmt:=top 55
noncomputable abbrev zJp:Stmt:=top 56
noncomputable abbrev zJw:Stmt:=top 57
noncomputable abbrev sNum:Stmt:=top 15
noncomputable abbrev sWi:Stmt:=top 16
noncomputable abbrev sTof:Stmt:=top 17
noncomputable abbrev sRis:Stmt:=top 18
noncomputable abbrev sPl:Stmt:=top 19
noncomputable abbrev sArp:Stmt:=top 20
noncomputable abbrev zGg:Stmt:=top 22
noncomputable abbrev zIK:Stmt:=top 26
noncomputable abbrev zIM:Stmt:=top 25
noncomputable abbrev zHT:Stmt:=top 24
noncomputable abbrev sBwr:Stmt:=top 27
noncomputable abbrev sNbr:Stmt:=top 28
noncomputable abbrev sIsP:Stmt:=top 30
noncomputable abbrev zIL:Stmt:=top 31
noncomputable abbrev zGi:Stmt:=top 32
noncomputable abbrev zII:Stmt:=top 33
noncomputable abbrev zJr:Stmt:=top 34
noncomputable abbrev zJv:Stmt:=top 35
noncomputable abbrev zIN:Stmt:=top 36
noncomputable abbrev zIJ:Stmt:=top 37
noncomputable abbrev sOrd:Stmt:=top 39
noncomputable abbrev sByo:Stmt:=top 40
noncomputable abbrev sLbr:Stmt:=top 41
noncomputable abbrev sIsh:Stmt:=top 42
noncomputable abbrev sEbr:Stmt:=top 43
noncomputable abbrev sLaw:Stmt:=top 58
noncomputable def zBt (H:Hp)(t p:Addr)(N:Nat):Prop:=∃(ns:List Int)(spot rest:Int),H t=some (.lst [.ref p,.int spot,.int rest])/\H p=some (.lst (ns.map V.int))/\p≠t/\0<=spot/\spot<=N/\0<=rest/\ns.length<=64/\0<ns.length
noncomputable def zB1 (H:Hp)(t:Addr)(N:Nat):Prop:=∃p:Addr,zBt H t p N
variable {H:Hp}{t:Addr}{N:Nat}
theorem zB1.mono {M:Nat}(h:zB1 H t N)(l:N<=M):zB1 H t M:=by
 obtain⟨p,ns,spot,rest,a,b,c,d,e,f⟩:=h
 exact⟨p,ns,spot,rest,a,b,c,d,by omega,f⟩
noncomputable def Sm (t:Addr)(H H':Hp):Prop:=∀b o,b≠t->H b=some o->H' b=some o
theorem Sm.refl (t:Addr)(H:Hp):Sm t H H:=fun _ _ _ e=>e
variable {H2:Hp}
theorem Sm.trans {H1:Hp}(a:Sm t H H1)(b:Sm t H1 H2):Sm t H H2:=fun c o n e=>b c o n (a c o n e)
variable {H':Hp}
theorem Sm.of (h:zAw H H'):Sm t H H':=fun b o _ e=>h b o e
variable {l:Addr}
theorem zH {o:HO}(h:H l=none):zAw H (upd H l o):=fun b u e=>by rw[zk (zq e h)];exact e
theorem zAu {o:HO}(s:zAw H H')(h:H l=none):zAw H (upd H' l o):=fun b u e=>by rw[zk (zq e h)];exact s b u e
theorem zB1.keep (h:zB1 H t N)(k:zAw H H'):zB1 H' t N:=by
 obtain⟨p,ns,spot,rest,a,b,c⟩:=h
 exact⟨p,ns,spot,rest,k _ _ a,k _ _ b,c⟩
variable {p:Addr}
theorem zBI (s:zAw H H')(h:H' p=none):H p=none:=by
 cases e:H p with
 | none=>rfl
 | some o=>rw[s p o e] at h;cases h
variable {K:PySem.W.Frag}{xs:List V}
theorem zJl {a:Addr}(h:SqL K H a xs)(s:zAw H H'):SqL K H' a xs:=by
 rcases h with (h | ⟨o,h⟩) | h
 . exact .inl (.inl (s _ _ h))
 . exact .inl (.inr ⟨o,s _ _ h⟩)
 . exact .inr h
noncomputable def zK0 (K:PySem.W.Frag):Sp:=fun vs H Q _=>∃(a:Addr)(ns:List Int),vs=[.ref a]/\SqL K H a (ns.map V.int)/\ns.length<=63/\∀(t:Addr)(H':Hp),H t=none->zB1 H' t 0->zAw H H'->Q (.ref t) H'
noncomputable def zDP:Sp:=fun vs H Q _=>∃(t p:Addr)(N:Nat)(many:Int),vs=[.ref t,.int many]/\zBt H t p N/\N<1000000/\0<many/\many<1000000 /\
 ∀(r:Int)(H':Hp),0<=r->r<many->zBt H' t p (N+1)->(∀b,b≠t->H' b=H b)->Q (.int r) H'
theorem scFeed:zAO ["_law_script"] ["_law_script"] (defScope zJu):=fS0
variable {f:Addr}
theorem zMR {fd:FuncData}(F:Fun K "_law_feed" "_law_feed" zJu f fd) (mInt:mg "int" = none):zAg P w K mg base CX0 1 f fd ["_law_script"] (zK0 K):=by
 refine F.ok scFeed (fun vs H Q E h=>?_) (fun cdv A outer s H vs Q E hr h=>?_)
 . obtain⟨a,ns,rfl,_⟩:=h
   rfl
 . obtain⟨a,ns,rfl,hS,hl,k⟩:=h
   have hu0:=hr.units0
   refine⟨_,zd (zAJ (zBh (zE (zA3 zIc (zDE zLn (pv 0) zD9 (zD8 zz)) (zA3 zLD (zBh (zE zz zM)) (zAc zER mInt (zE (zBq (zIb hu0) (pv 0) (zBh zM) (zAd _)) zM)))) (zCK (zCK zM))))),?_⟩
   refine⟨_,rfl,_,rfl,a,_,rfl,hS,fun p hp=>?_⟩
   have s1:=zH (o:=.lst (zFR (ns.map V.int) none (some 63))) hp
   have h1:(upd H p (.lst (zFR (ns.map V.int) none (some 63)))) p=some (.lst (zFR (ns.map V.int) none (some 63))):=zJ
   generalize upd H p (.lst (zFR (ns.map V.int) none (some 63)))=H1 at s1 h1 ⊢
   have e1:zFR (ns.map V.int) none (some 63)=ns.map V.int:=by
    unfold zFR
    rw[HT.sIx_none,List.drop_zero,Nat.sub_zero,zB,show (63:Int)=((63:Nat):Int) from rfl,HT.sIx_nat]
    rw[show min 63 ns.length=ns.length by omega,zY (by rw[zB];exact zI _)]
   rw[e1] at h1
   refine⟨by show 1<=sizeLine;decide,fun q hq=>?_⟩
   have s2:=zAu (o:=.lst [.int 0]) s1 (zBI s1 hq)
   have h2:(upd H1 q (.lst [.int 0])) q=some (.lst [.int 0]):=zJ
   have n2:p≠q:=(zq h1 hq)
   have h12:(upd H1 q (.lst [.int 0])) p=some (.lst (ns.map V.int)):=by rw[zk n2];exact h1
   generalize upd H1 q (.lst [.int 0])=H2 at s2 h2 h12 ⊢
   refine⟨_,rfl,by show 0<=sizeLine;decide,fun r hr'=>?_⟩
   have s3:=zAu (o:=.lst []) s2 (zBI s2 hr')
   have h3:(upd H2 r (.lst [])) r=some (.lst []):=zJ
   have h23:(upd H2 r (.lst [])) q=some (.lst [.int 0]):=by rw[zk (zq h2 hr')];exact h2
   have h13:(upd H2 r (.lst [])) p=some (.lst (ns.map V.int)):=by rw[zk (zq h12 hr')];exact h12
   generalize upd H2 r (.lst [])=H3 at s3 h3 h23 h13 ⊢
   refine⟨a,r,_,rfl,rfl,zJl hS s3,SqL.of h3,.inr ⟨_,rfl,?_⟩⟩
   have hk:(-(2 ^ 63):Int)<=(if (ns.map V.int).isEmpty=true then (1:Int) else 0)/\(if (ns.map V.int).isEmpty=true then (1:Int) else 0)<2 ^ 63/\[V.int 0].length*(if (ns.map V.int).isEmpty=true then (1:Int) else 0).toNat<=sizeLine/\(List.replicate (if (ns.map V.int).isEmpty=true then (1:Int) else 0).toNat [V.int 0]).flatten=(if ns=[] then [(0:Int)] else []).map V.int:=by
    cases ns with
    | nil=>exact⟨by decide,by decide,by decide,rfl⟩
    | cons _ _=>exact⟨(by decide:(-(2 ^ 63):Int)<=0),(by decide:(0:Int)<2 ^ 63),(by decide:1*(0:Int).toNat<=sizeLine),rfl⟩
   obtain⟨k1,k2,k3,k4⟩:=hk
   refine⟨q,_,_,rfl,rfl,h23,k1,k2,k3,fun u hu=>?_⟩
   rw[k4]
   have s4:=zAu (o:=.lst ((if ns=[] then [(0:Int)] else []).map V.int)) s3 (zBI s3 hu)
   have h4:(upd H3 u (.lst ((if ns=[] then [(0:Int)] else []).map V.int))) u=some (.lst ((if ns=[] then [(0:Int)] else []).map V.int)):=zJ
   have h14:(upd H3 u (.lst ((if ns=[] then [(0:Int)] else []).map V.int))) p=some (.lst (ns.map V.int)):=by rw[zk (zq h13 hu)];exact h13
   generalize upd H3 u (.lst ((if ns=[] then [(0:Int)] else []).map V.int))=H4 at s4 h4 h14 ⊢
   refine⟨p,u,_,_,rfl,rfl,h14,h4,by simp only[zB];split <;> simp only[zn,List.length_nil] <;> exact zAP (Nat.add_le_add_right hl _) (by decide),fun v hv=>?_⟩
   rw[<-zR]
   have s5:=zAu (o:=.lst ((ns++if ns=[] then [(0:Int)] else []).map V.int)) s4 (zBI s4 hv)
   have h5:(upd H4 v (.lst ((ns++if ns=[] then [(0:Int)] else []).map V.int))) v=some (.lst ((ns++if ns=[] then [(0:Int)] else []).map V.int)):=zJ
   generalize upd H4 v (.lst ((ns++if ns=[] then [(0:Int)] else []).map V.int))=H5 at s5 h5 ⊢
   refine⟨by show 3<=sizeLine;decide,fun t ht=>?_⟩
   have nvt:v≠t:=zq h5 ht
   refine k t _ (zBI s5 ht) ⟨v,_,0,0,zJ,by rw[zk nvt];exact h5,nvt,Int.le_refl _,Int.le_refl _,Int.le_refl _,?_,?_⟩ (zAu s5 (zBI s5 ht))
   . rw[zO];split <;> simp only[zn,List.length_nil] <;> omega
   . rw[zO]
     cases ns with
     | nil=>decide
     | cons x y=>simp only[zn];omega
theorem zEo:zAO ["_law_feed_here", "_law_many", "_law_found", "_law_spot", "_law_cell", "_law_mixed"] ["_law_feed_here", "_law_many"] (defScope zFs):=fS0
variable {a:Int}
theorem zDf {m:Int}(h:0<m):0<=a%m/\a%m<m:=⟨Int.emod_nonneg _ (by omega),Int.emod_lt_of_pos _ h⟩
theorem zDo {fd:FuncData}(F:Fun K "_law_take" "_law_take" zFs f fd) (mLen:mg "len" = none):zAg P w K mg base CX0 1 f fd ["_law_feed_here", "_law_many"] zDP:=by
 refine F.ok zEo (fun vs H Q E h=>?_) (fun cdv A outer s H vs Q E hr h=>?_)
 . obtain⟨t,p,N,many,rfl,_⟩:=h
   rfl
 . obtain⟨t,p,N,many,rfl,T,hN,hm0,hm1,k⟩:=h
   obtain⟨ns,spot,rest,ht,hp,hne,hs0,hs1,hr0,hl,hl0⟩:=T
   refine⟨_,zS (zBn (zAN zL5 (zAT zAi (pv 0) zz (fun _ _=>rfl)) zz (zAd _))
    (zS (zAa (i:=2) zEo.nd rfl (Or.inl rfl) (zA3 zDe (zAT zAi (pv 0) zz (fun _ _=>rfl)) (pv 1)))
    (zS (zD7 (zA3 zIa (zAT zAi (pv 0) zz (fun _ _=>rfl)) (pv 1)) (zEB (pv 0) zz zCi))
    (zd (zAJ (pv 2))))) zAh)
    (zS (zAa (i:=3) zEo.nd rfl (Or.inl rfl) (zAT zAi (pv 0) zz (fun _ _=>rfl)))
    (zS (zD7 (zA3 zCL (pv 3) zz) (zEB (pv 0) zz zCi))
    (zS (zAa (i:=4) zEo.nd rfl (Or.inl rfl) (zAT zAi (zAT zAi (pv 0) zz (fun _ _=>rfl)) (zA3 zDe (pv 3) (zj zAS mLen (zE (zAT zAi (pv 0) zz (fun _ _=>rfl)) zM))) (fun _ _=>rfl)))
    (zS (zBn (zD5 (zAN op_ge (pv 4) (zA3 zFx zz zz) (zAd _)) (zC7 (zAN zIZ (pv 3) (zj zAS mLen (zE (zAT zAi (pv 0) zz (fun _ _=>rfl)) zM)) (zAd _)))).pt
     (zS (zD7 (zA3 zIa (pv 4) (pv 1)) (zEB (pv 0) zz zCi)) (zd (zAJ (zA3 zDe (pv 4) (pv 1))))) zAh)
    (zS (zAa (i:=5) zEo.nd rfl (Or.inl rfl) (zA3 zDe (zA3 zDd (zA3 zCL (zA3 zCL (zA3 zCL (zA3 zDe (pv 4) zz) (zA3 zDd (zA3 zDd zz (pv 3)) (pv 3))) (zA3 zDd zz (pv 3))) zz) zz) zz))
    (zS (zAa (i:=5) zEo.nd rfl (Or.inl rfl) (zA3 zDe (zA3 zCL (zA3 zCL (zA3 zDd (pv 5) (pv 5)) (zA3 zDd zz (pv 3))) zz) zz))
    (zd (zAJ (zA3 zDe (zA3 zDe (zA3 zCL (zA3 zDd (pv 5) zz) (pv 3)) zz) (pv 1)))))))))),?_⟩
   have cd:CDiv 0 many:=⟨hm0,by omega⟩
   refine⟨_,rfl,t,_,_,_,rfl,rfl,SqL.of ht,rfl,_,_,rfl,rfl,_,rfl,?_⟩
   refine zCz (fun hc=>?_) (fun hc=>?_)
   . have hpos:0<rest:=of_decide_eq_true hc
     refine⟨_,rfl,t,_,_,_,rfl,rfl,SqL.of ht,rfl,_,rfl,_,_,rfl,rfl,hm0,?_⟩
     refine⟨_,rfl,t,_,_,_,rfl,rfl,SqL.of ht,rfl,_,rfl,_,_,rfl,rfl,cd,?_⟩
     refine⟨_,rfl,t,_,_,2,rfl,rfl,ht,rfl,?_⟩
     refine⟨_,rfl,?_⟩
     refine k _ _ (zDf hm0).1 (zDf hm0).2 ⟨ns,spot,rest/many,zJ,by rw[zk hne];exact hp,hne,hs0,by omega,Int.ediv_nonneg hr0 (by omega),hl,hl0⟩ fun b hb=>zk hb
   . -- spot=feed[1];feed[1]=spot+1
     refine⟨_,rfl,t,_,_,_,rfl,rfl,SqL.of ht,rfl,?_⟩
     refine⟨_,rfl,_,_,rfl,rfl,_,rfl,t,_,_,1,rfl,rfl,ht,rfl,?_⟩
     have ht1:(upd H t (.lst [.ref p,.int (spot+1),.int rest])) t=some (.lst [.ref p,.int (spot+1),.int rest]):=zJ
     have hp1:(upd H t (.lst [.ref p,.int (spot+1),.int rest])) p=some (.lst (ns.map V.int)):=by rw[zk hne];exact hp
     have h2:0<((ns.map V.int).length:Int):=by rw[zB];omega
     have ex:∃c,atI (ns.map V.int) (spot%((ns.map V.int).length:Int))=some (.int c):=by
      have hb:=zDf (a:=spot) h2
      obtain⟨j,hj⟩:=Int.eq_ofNat_of_zero_le hb.1
      have hlt:j<ns.length:=by
       have h2:=hb.2
       rw[hj,zB] at h2
       omega
      refine⟨ns[j],?_⟩
      rw[hj]
      exact zGv (by simp[hlt])
     obtain⟨c,hc⟩:=ex
     refine⟨_,rfl,t,_,_,_,rfl,rfl,SqL.of ht1,rfl,_,rfl,_,rfl,t,_,_,_,rfl,rfl,SqL.of ht1,rfl,p,_,rfl,.inl (SqL.of hp1),_,_,rfl,rfl,h2,p,_,_,_,rfl,rfl,SqL.of hp1,hc,?_⟩
     refine⟨_,rfl,_,_,rfl,rfl,⟨by decide,by decide,by decide⟩,_,_,rfl,rfl,_,rfl,?_⟩
     refine zCz (fun h3=>?_) (fun h3=>?_)
     all_goals first
      | (refine⟨_,rfl,_,rfl,t,_,_,_,rfl,rfl,SqL.of ht1,rfl,p,_,rfl,.inl (SqL.of hp1),_,_,rfl,rfl,_,rfl,?_⟩;refine zCz (fun h4=>?_) (fun h4=>?_))
      | refine zCw ?_
     all_goals first
      | (refine⟨_,rfl,_,rfl,_,_,rfl,rfl,⟨hm0,by omega⟩,_,rfl,t,_,_,2,rfl,rfl,ht1,rfl,?_⟩
         refine⟨_,rfl,_,rfl,_,_,rfl,rfl,hm0,?_⟩
         refine k _ _ (zDf hm0).1 (zDf hm0).2 ⟨ns,spot+1,_,zJ,by rw[zk hne];exact hp1,hne,by omega,by omega,Int.ediv_nonneg (Int.le_trans (show (0:Int)<=10 ^ (18:Int).toNat by decide) (of_decide_eq_true h3)) (by omega),hl,hl0⟩ fun b hb=>by rw[zk hb,zk hb])
      | (refine⟨_,rfl,_,_,rfl,rfl,(by dsimp only;decide),_,rfl,_,_,rfl,rfl,.inl ⟨by decide,by decide⟩,_,rfl,_,_,rfl,rfl,.inr ⟨by omega,by omega⟩,_,_,rfl,rfl,_,rfl,_,_,rfl,rfl,.inl ⟨by decide,by decide⟩,_,_,rfl,rfl,_,_,rfl,rfl,_,_,rfl,rfl,.inr ⟨by decide,by decide⟩,_,_,rfl,rfl,(by dsimp only;decide),?_⟩
         generalize hx:(c%1000003+37*spot*spot+11*spot+5)*48271%2147483629=x1
         have hx1:0<=x1/\x1<2147483629:=by rw[<-hx];exact zDf (by decide)
         refine⟨_,rfl,_,rfl,_,_,rfl,rfl,.inl ⟨by omega,by omega⟩,_,rfl,_,_,rfl,rfl,.inl ⟨by decide,by decide⟩,_,_,rfl,rfl,_,_,rfl,rfl,_,_,rfl,rfl,(by dsimp only;decide),?_⟩
         refine⟨_,rfl,_,_,rfl,rfl,.inr ⟨by decide,by decide⟩,_,rfl,_,_,rfl,rfl,_,_,rfl,rfl,(by dsimp only;decide),_,rfl,_,_,rfl,rfl,hm0,?_⟩
         refine k _ _ (zDf hm0).1 (zDf hm0).2 ⟨ns,spot+1,rest,ht1,hp1,hne,by omega,by omega,hr0,hl,hl0⟩ fun b hb=>zk hb)
theorem zDQ (h:∀b,b≠t->H' b=H b):Sm t H H':=fun b o n e=>by rw[h b n];exact e
theorem Sm.laid {o:HO}(h:H l=none):Sm t H (upd H l o):=fun b u _ e=>by rw[zk (zq e h)];exact e
theorem Sm.chg {o:HO}(s:Sm t H H')(h:H l=none):Sm t H (upd H' l o):=fun b u n e=>by rw[zk (zq e h)];exact s b u n e
theorem zBt.keepF {M:Nat}(h:zBt H t p N)(k1:∀o,H t=some o->H' t=some o)(k2:∀o,H p=some o->H' p=some o)(l:N<=M):zBt H' t p M:=by
 obtain⟨ns,spot,rest,a,b,c,d,e,f⟩:=h
 exact⟨ns,spot,rest,k1 _ a,k2 _ b,c,d,by omega,f⟩
theorem zBt.same (h:zBt H t p N)(s:zAw H H'):zBt H' t p N:=h.keepF (fun o e=>s _ _ e) (fun o e=>s _ _ e) (zI _)
theorem zBt.mono {M:Nat}(h:zBt H t p N)(l:N<=M):zBt H t p M:=h.keepF (fun _ e=>e) (fun _ e=>e) l
theorem zBt.laid {o:HO}(h:zBt H t p N)(hl:H l=none):zBt (upd H l o) t p N:=h.same (zH hl)
theorem zBt.upd {o:HO}(h:zBt H t p N)(n1:l≠t)(n2:l≠p):zBt (upd H l o) t p N:=h.keepF (fun _ e=>by rw[zk n1.symm];exact e) (fun _ e=>by rw[zk n2.symm];exact e) (zI _)
theorem zBt.ne {b:Addr}(h:zBt H t p N)(hb:H b=none):b≠t/\b≠p:=by
 obtain⟨ns,spot,rest,a,q,_⟩:=h
 exact⟨(zq a hb).symm,(zq q hb).symm⟩
variable {ys:List V}
theorem zBt.neT {b:Addr}(h:zBt H t p N)(hb:H b=some (.tup ys)):b≠t:=by
 obtain⟨ns,spot,rest,a,q,_⟩:=h
 exact zBu hb a (by intro z;cases z)
theorem zIo {L:List Int}{r:Int}(h0:0<=r)(h1:r<L.length):∃n,n∈L/\atI (L.map V.int) r=some (.int n):=by
 obtain⟨j,rfl⟩:=Int.eq_ofNat_of_zero_le h0
 have hj:j<L.length:=by omega
 exact⟨L[j],List.getElem_mem hj,zGv (by simp[hj])⟩
theorem zl {n:Nat}(h:n<=100000):n<sizeLine:=zAo h (by decide)
noncomputable def zBw (H:Hp)(wa:Addr)(n:Int)(ts:List T3):Prop:=∃(ta:Addr)(tys:List V),H wa=some (.tup [.int n,.ref ta])/\H ta=some (.tup tys)/\zAW H tys (ts.map tl)/\GW n ts
variable {n:Int}{wa:Addr}{ts:List T3}
theorem zBw.keepT (h:zBw H wa n ts)(k:∀b ys,H b=some (.tup ys)->H' b=some (.tup ys)):zBw H' wa n ts:=by
 obtain⟨ta,tys,a,b,c,d⟩:=h
 exact⟨ta,tys,k _ _ a,k _ _ b,c.keep k,d⟩
theorem zBw.keep (h:zBw H wa n ts)(k:zAw H H'):zBw H' wa n ts:=h.keepT fun b _ e=>k b _ e
noncomputable def zKq:Sp:=fun vs H Q _=>∃(t:Addr)(N:Nat)(most:Int),vs=[.ref t,.int most]/\zB1 H t N/\N<900000/\1<=most/\most<=11 /\
 ∀(wa:Addr)(n:Int)(ts:List T3)(H':Hp),H wa=none->n<=most->zBw H' wa n ts->zB1 H' t (N+400)->Sm t H H'->Q (.ref wa) H'
noncomputable def TR (B:Int)(ts:List T3):Prop:=(∀t∈ts,0<=t.1/\t.1<t.2.1/\t.2.1<B/\1<=t.2.2/\t.2.2<=99)/\ts.Pairwise fun s t=>¬ (s.1=t.1/\s.2.1=t.2.1)
theorem TR.nil (B:Int):TR B []:=⟨fun _ h=>by simp at h,zBD⟩
theorem TR.more {B:Int}{us:List T3}(h:TR B ts)(hu:∀t∈us,0<=t.1/\t.1<B/\t.2.1=B/\1<=t.2.2/\t.2.2<=99)(nd:(us.map (·.1)).Nodup):TR (B+1) (ts++us):=by
 refine⟨fun t ht=>?_,List.pairwise_append.mpr ⟨h.2,?_,fun s hs t ht e=>?_⟩⟩
 . rcases zm.mp ht with q | q
   . obtain⟨a,b,c,d⟩:=h.1 t q;exact⟨a,b,by omega,d⟩
   . obtain⟨a,b,c,d⟩:=hu t q;exact⟨a,by omega,by omega,d⟩
 . rw[List.Nodup,zA2] at nd
   exact nd.imp fun h e=>h e.1
 . obtain⟨_,_,c,_⟩:=h.1 s hs
   obtain⟨_,_,d,_⟩:=hu t ht
   omega
theorem zG2 {H:Hp}:∀{xs ys:List V}{ks ls:List (List Int)},zAW H xs ks->zAW H ys ls->zAW H (xs++ys) (ks++ls)
 | [],ys,[],ls,_,h=>h
 | [],ys,_::_,ls,a,_=>a.elim
 | _::_,ys,[],ls,a,_=>a.elim
 | x::xs,ys,k::ks,ls,a,h=>⟨a.1,zG2 a.2 h⟩
structure WF (H:Hp)(t p D pl:Addr)(L:List Int)(N m:Nat)(B:Int)(H2:Hp):Prop where
 sm:Sm t H H2
 tp:zBt H2 t p N
 pool:H2 pl=some (.lst (L.map V.int))
 ties:∃(ys:List V)(ts:List T3),H2 D=some (.lst ys)/\zAW H2 ys (ts.map tl)/\TR B ts/\ts.length<=m
variable {D:Addr}
theorem WF.on {H3:Hp}{pl:Addr}{L:List Int}{N' m:Nat}{B:Int}(h:WF H t p D pl L N m B H2)(nD:D≠t)(nl:pl≠t)(s:Sm t H2 H3)(T:zBt H3 t p N'):WF H t p D pl L N' m B H3:=by
 obtain⟨ys,ts,a,b,c⟩:=h.ties
 exact⟨h.sm.trans s,T,s _ _ nl h.pool,ys,ts,s _ _ nD a,b.keep fun x zs e=>s _ _ (h.tp.neT e) e,c⟩
theorem zDC:zAO ["_law_feed_here", "_law_most", "_law_many", "_law_pool", "_law_dense", "_law_whole", "_law_ties", "_law_b", "_law_some"] ["_law_feed_here", "_law_most"] (defScope zGf):=fS0
variable {fD:Addr}{fdD:FuncData}
theorem zMB {fd:FuncData}(F:Fun K "_law_web" "_law_web" zGf f fd) (FD:Fun K "_law_take" "_law_take" zFs fD fdD) (bD:zAU K fdD ["_law_feed_here", "_law_many"] []) (mD:mg "_law_take" = some (.ref fD)) (mLen:mg "len" = none)
 (mRange:mg "range" = none) (mTuple:mg "tuple" = none) (mSorted:mg "sorted" = none):zAg P w K mg base CX0 2 f fd ["_law_feed_here", "_law_most"] zKq:=by
 have GD:zAg P w K mg base CX0 1 fD fdD ["_law_feed_here", "_law_many"] zDP:=zDo FD mLen
 refine F.ok zDC (fun vs H Q E h=>?_) (fun cdv A outer s H vs Q E hr h=>?_)
 . obtain⟨t,N,n,rfl,_⟩:=h
   rfl
 . obtain⟨t,N,most,rfl,TT,hN,hn1,hn2,k⟩:=h
   obtain⟨p,T⟩:=TT
   have hu:=zMd hr
   have hu0:=hr.units0
   obtain⟨es,q0,q1,q2,j3,q3,q4,p1,p2,p3,hbd,hes⟩:∃es q0 q1 q2 j3 q3 q4 p1 p2 p3,defBody zGf=(defBody zGf).getD 0 (.Pass ⟨0,0,0,0⟩) :: .Assign [.Name "_law_pool" q0] (.Subscript (.List es p1) (.Call (.Name "_law_take" q1) [.Name "_law_feed_here" q2,.Constant (.int 4) j3 q3] [] q4) p2) p3::(defBody zGf).drop 2 /\
    zDN es [[1],[1,2],[1,1,2,4],[1,3,97,98,99]]:=⟨_,_,_,_,_,_,_,_,_,_,rfl,.cons (.cons .nil) (by show 1<=sizeLine;decide) (.cons (.cons (.cons .nil)) (by show 2<=sizeLine;decide) (.cons (.cons (.cons (.cons (.cons .nil)))) (by show 4<=sizeLine;decide) (.cons (.cons (.cons (.cons (.cons (.cons .nil))))) (by show 5<=sizeLine;decide) (.nil))))⟩
   rw[hbd]
   refine⟨_,zS (zAa (i:=2) zDC.nd rfl (Or.inl rfl) (zA3 zCL zz (zy GD hr rfl mD FD.kp bD .nil zAt (zE (pv 0) (zE (pv 1) zM)))))
    (zS (zAa (i:=3) zDC.nd rfl (Or.inr rfl) (zAT zAi (zBh (zKD hes))
     (zy GD hr rfl mD FD.kp bD .nil zAt (zE (pv 0) (zCK zM))) (fun _ _=>rfl)))
    (zS (zAa (i:=4) zDC.nd rfl (Or.inr rfl) (zAT zAi (zBh (zCK (zCK (zCK zM))))
     (zy GD hr rfl mD FD.kp bD .nil zAt (zE (pv 0) (zCK zM))) (fun _ _=>rfl)))
    (zS (zAa (i:=5) zDC.nd rfl (Or.inl rfl) (zBq zL5 (zy GD hr rfl mD FD.kp bD .nil zAt (zE (pv 0) (zCK zM))) zz (zAd _)))
    (zS (zAa (i:=6) zDC.nd rfl (Or.inl rfl) (zBh zM))
    (zS (zB3 PassesOwn.never rfl (zFw rfl mRange (zCK (zE (pv 2) zM))) (zAA (i:=7) zDC.nd rfl (Or.inr rfl))
     (zS (zD6 (i:=8) (own:=["_law_a"]) (cn:=["_law_feed_here", "_law_dense"]) (ci:=[0,4]) zDC.nd rfl (Or.inl rfl) rfl (csc rfl rfl) ⟨rfl,rfl,rfl,rfl,rfl,rfl,trivial⟩ rfl
      (zA5 rfl mRange (zE (pv 7) zM)) (fun _ _ _ _=>zAA (i:=0) (zB4 rfl) rfl (Or.inl rfl))
      (fun _ _ _ _=>zCC (zAN zCr (zy GD hr rfl mD FD.kp bD .nil zAt (zE (pv 1) (zE (pv 2) zM))) zz (zAd _)))
      (fun _ _ _ _=>pv 0))
     (zS (zBn (PW.pt (zD5 (zBx (pv 5)) (zC7 (zAN (zIb hu0) (pv 8) (zBh zM) (zAd _)))))
      (zd (zAa (i:=8) zDC.nd rfl (Or.inl rfl) (zBh (zE (zy GD hr rfl mD FD.kp bD .nil zAt (zE (pv 0) (zE (pv 7) zM))) zM)))) zAh)
     (zd (zCZ (zED PySem.F.plainAttrs_list PySem.F.slot_list_extend PySem.F.type_list_extend zIl (pv 6) (zE
      (zBH (own:=["_law_a"]) (cn:=["_law_b", "_law_pool", "_law_feed_here"]) (ci:=[7,3,0]) rfl (csc rfl rfl) ⟨rfl,rfl,rfl,rfl,rfl,rfl,rfl,rfl,rfl,trivial⟩ rfl
       (zCa (pv 8)) (fun _ _ _ _=>zAA (i:=0) (zB4 rfl) rfl (Or.inl rfl)) (fun _ _ _ _=>zB2)
       (fun _ _ _ _=>zBQ (zE (pv 0) (zE (pv 1) (zE (zAT zFO (pv 2) (zy GD hr rfl mD FD.kp bD .nil zAt (zE (pv 3) (zE (zj zFU mLen (zE (pv 2) zM)) zM))) (fun _ _=>rfl)) zM))))) zM)))))))
    (zd (zAJ (zBQ (zE (pv 2) (zE (zAc zAI mTuple (zE (zj zEQ mSorted (zE (pv 6) zM)) zM)) zM)))))))))),?_⟩
   refine⟨_,rfl,_,rfl,t,p,N,most,rfl,T,by omega,by omega,by omega,fun r0 H0 a0 b0 T0 he0=>?_⟩
   refine⟨_,_,rfl,rfl,?_⟩
   have s0:Sm t H H0:=zDQ he0
   have hm1:1<=1+r0/\1+r0<=most:=by omega
   intro a1 e1 a2 e2 a3 e3 a4 e4
   refine⟨by show 4<=sizeLine;decide,fun al el=>?_⟩
   have g1:=(zH (o:=.lst [.int 1]) e1)
   have g2:=g1.trans (zH (o:=.lst [.int 1,.int 2]) e2)
   have g3:=g2.trans (zH (o:=.lst [.int 1,.int 1,.int 2,.int 4]) e3)
   have g4:=g3.trans (zH (o:=.lst [.int 1,.int 3,.int 97,.int 98,.int 99]) e4)
   have g5:=g4.trans (zH (o:=.lst [.ref a1,.ref a2,.ref a3,.ref a4]) el)
   have f1:(upd (upd (upd (upd (upd H0 a1 (.lst [.int 1])) a2 (.lst [.int 1,.int 2])) a3 (.lst [.int 1,.int 1,.int 2,.int 4])) a4 (.lst [.int 1,.int 3,.int 97,.int 98,.int 99])) al (.lst [.ref a1,.ref a2,.ref a3,.ref a4])) a1=some (.lst [.int 1]):=(zH (o:=.lst [.int 1,.int 2]) e2).trans ((zH (o:=.lst [.int 1,.int 1,.int 2,.int 4]) e3).trans ((zH (o:=.lst [.int 1,.int 3,.int 97,.int 98,.int 99]) e4).trans (zH (o:=.lst [.ref a1,.ref a2,.ref a3,.ref a4]) el))) a1 _ zJ
   have f2:(upd (upd (upd (upd (upd H0 a1 (.lst [.int 1])) a2 (.lst [.int 1,.int 2])) a3 (.lst [.int 1,.int 1,.int 2,.int 4])) a4 (.lst [.int 1,.int 3,.int 97,.int 98,.int 99])) al (.lst [.ref a1,.ref a2,.ref a3,.ref a4])) a2=some (.lst [.int 1,.int 2]):=(zH (o:=.lst [.int 1,.int 1,.int 2,.int 4]) e3).trans ((zH (o:=.lst [.int 1,.int 3,.int 97,.int 98,.int 99]) e4).trans (zH (o:=.lst [.ref a1,.ref a2,.ref a3,.ref a4]) el)) a2 _ zJ
   have f3:(upd (upd (upd (upd (upd H0 a1 (.lst [.int 1])) a2 (.lst [.int 1,.int 2])) a3 (.lst [.int 1,.int 1,.int 2,.int 4])) a4 (.lst [.int 1,.int 3,.int 97,.int 98,.int 99])) al (.lst [.ref a1,.ref a2,.ref a3,.ref a4])) a3=some (.lst [.int 1,.int 1,.int 2,.int 4]):=(zH (o:=.lst [.int 1,.int 3,.int 97,.int 98,.int 99]) e4).trans (zH (o:=.lst [.ref a1,.ref a2,.ref a3,.ref a4]) el) a3 _ zJ
   have f4:(upd (upd (upd (upd (upd H0 a1 (.lst [.int 1])) a2 (.lst [.int 1,.int 2])) a3 (.lst [.int 1,.int 1,.int 2,.int 4])) a4 (.lst [.int 1,.int 3,.int 97,.int 98,.int 99])) al (.lst [.ref a1,.ref a2,.ref a3,.ref a4])) a4=some (.lst [.int 1,.int 3,.int 97,.int 98,.int 99]):=zH (o:=.lst [.ref a1,.ref a2,.ref a3,.ref a4]) el a4 _ zJ
   have n1:a1≠t:=(T0.ne e1).1
   have n2:a2≠t:=(T0.ne (zBI g1 e2)).1
   have n3:a3≠t:=(T0.ne (zBI g2 e3)).1
   have n4:a4≠t:=(T0.ne (zBI g3 e4)).1
   have n5:al≠t:=(T0.ne (zBI g4 el)).1
   have f5:(upd (upd (upd (upd (upd H0 a1 (.lst [.int 1])) a2 (.lst [.int 1,.int 2])) a3 (.lst [.int 1,.int 1,.int 2,.int 4])) a4 (.lst [.int 1,.int 3,.int 97,.int 98,.int 99])) al (.lst [.ref a1,.ref a2,.ref a3,.ref a4])) al=some (.lst [.ref a1,.ref a2,.ref a3,.ref a4]):=zJ
   show tCall zDP [] E0 _ _ (upd (upd (upd (upd (upd H0 a1 (.lst [.int 1])) a2 (.lst [.int 1,.int 2])) a3 (.lst [.int 1,.int 1,.int 2,.int 4])) a4 (.lst [.int 1,.int 3,.int 97,.int 98,.int 99])) al (.lst [.ref a1,.ref a2,.ref a3,.ref a4])) _
   generalize upd (upd (upd (upd (upd H0 a1 (.lst [.int 1])) a2 (.lst [.int 1,.int 2])) a3 (.lst [.int 1,.int 1,.int 2,.int 4])) a4 (.lst [.int 1,.int 3,.int 97,.int 98,.int 99])) al (.lst [.ref a1,.ref a2,.ref a3,.ref a4])=G at g5 f1 f2 f3 f4 f5 ⊢
   clear g1 g2 g3 g4 e1 e2 e3 e4 el
   refine⟨_,rfl,t,p,N+1,4,rfl,T0.same g5,by omega,by decide,by decide,fun r H1 h0 h1 T1 he1=>?_⟩
   obtain⟨pl,L,hat,hpl,hL,hL0,npl⟩:∃(pl:Addr)(L:List Int),atI [V.ref a1,V.ref a2,V.ref a3,V.ref a4] r=some (.ref pl)/\H1 pl=some (.lst (L.map V.int))/\(∀l∈L,1<=l/\l<=99)/\(0<L.length/\L.length<=5)/\pl≠t:=by
    have hr4:r=0\/r=1\/r=2\/r=3:=by omega
    rcases hr4 with rfl | rfl | rfl | rfl
    . exact⟨a1,[1],rfl,by rw[he1 _ n1];exact f1,by decide,by decide,n1⟩
    . exact⟨a2,[1,2],rfl,by rw[he1 _ n2];exact f2,by decide,by decide,n2⟩
    . exact⟨a3,[1,1,2,4],rfl,by rw[he1 _ n3];exact f3,by decide,by decide,n3⟩
    . exact⟨a4,[1,3,97,98,99],rfl,by rw[he1 _ n4];exact f4,by decide,by decide,n4⟩
   refine⟨al,_,_,_,rfl,rfl,SqL.of (by rw[he1 al n5];exact f5),hat,?_⟩
   have s1:Sm t H H1:=s0.trans ((Sm.of g5).trans (zDQ he1))
   refine⟨by show 3<=sizeLine;decide,fun ad ed=>?_⟩
   refine⟨_,rfl,t,p,N+2,3,rfl,T1.laid ed,by omega,by decide,by decide,fun r2 H2 h20 h21 T2 he2=>?_⟩
   have nad:ad≠t:=(T1.ne ed).1
   obtain⟨dn,hdn,hda⟩:=zIo (L:=[2,3,5]) h20 h21
   have hdb:0<dn/\dn<1000000:=by
    have:∀m∈([2,3,5]:List Int),0<m/\m<1000000:=by decide
    exact this dn hdn
   refine⟨ad,_,_,_,rfl,rfl,SqL.of (by rw[he2 ad nad];exact zJ),hda,?_⟩
   have s2:Sm t H1 H2:=(Sm.laid ed).trans (zDQ he2)
   have hpl2:=s2 _ _ npl hpl
   refine⟨_,rfl,t,p,N+3,3,rfl,T2,by omega,by decide,by decide,fun r3 H3 _ _ Tw he3=>?_⟩
   refine⟨_,_,rfl,rfl,?_⟩
   have s3:Sm t H2 H3:=zDQ he3
   have hpl3:=s3 _ _ npl hpl2
   refine⟨by show 0<=sizeLine;decide,fun D hD=>?_⟩
   have nD:=(Tw.ne hD).1
   have nDp:=(Tw.ne hD).2
   have s13:Sm t H H3:=s1.trans (s2.trans s3)
   have hD0:H D=none:=by
    cases q:H D with
    | none=>rfl
    | some o=>rw[s13 _ _ nD q] at hD;cases hD
   have npD:pl≠D:=zq hpl3 hD
   have W0:WF H t p D pl L (N+4) 0 1 (upd H3 D (.lst [])):=⟨s13.trans (Sm.laid hD),Tw.laid hD,zH hD _ _ hpl3,[],[],zJ,trivial,TR.nil 1,zI _⟩
   generalize upd H3 D (.lst [])=H4 at W0 ⊢
   refine⟨_,rfl,1,1+r0,rfl,⟨by decide,by decide,by omega,by omega⟩,zCU (lo:=1) (n:=(1+r0-1).toNat) (fun i σ H5=>∃(vb vs:Option V),σ=[some (.ref t),some (.int most),some (.int (1+r0)),some (.ref pl),some (.int dn),some (.bl (decide (0<r3))),some (.ref D),vb,vs]/\∃m,2*m<=i*(i+1)/\WF H t p D pl L (N+4+30*i) m (1+i) H5) ⟨none,none,rfl,0,by omega,(by rw[show (1:Int)+((0:Nat):Int)=1 from rfl];exact W0)⟩ ?turn ?after⟩
   case turn=>
    rintro i σ H5 hi ⟨vb,vs,rfl,m,hm,W⟩
    refine⟨_,rfl,1+(i:Int),rfl,by omega,by omega,[.ref t,.int dn],rfl,fun D1 hD1=>?_⟩
    have n1t:=(W.tp.ne hD1).1
    have n1p:=(W.tp.ne hD1).2
    refine zBV (lo:=0) (n:=(1+(i:Int)).toNat) (fun j ys H6=>j<=1+i/\(∃as:List Int,ys=as.map V.int/\(∀a∈as,0<=a/\a<j)/\as.Nodup/\as.length<=j)/\zBt H6 t p (N+4+30*i+j)/\Sm t H5 H6/\H6 D1=some (.lst ys))
     ⟨zg _,⟨[],rfl,by simp,List.nodup_nil,zI _⟩,W.tp.laid hD1,Sm.laid hD1,zJ⟩ (fun j ys H6 z=>?_) (fun j ys H6 hj z=>?_) (fun ys H6 z=>?_)
    . obtain⟨_,⟨as,rfl,_,_,hk⟩,_⟩:=z
      rw[zB]
      exact zl (by omega)
    . obtain⟨_,⟨as,rfl,ha,nd,hk⟩,T6,s6,hD6⟩:=z
      rw[zAn]
      refine⟨⟨rfl,rfl⟩,?_⟩
      refine⟨_,rfl,_,rfl,t,p,_,dn,rfl,T6,by omega,hdb.1,hdb.2,fun r7 H7 _ _ T7 he7=>?_⟩
      have s7:Sm t H6 H7:=zDQ he7
      have hD7:=s7 _ _ n1t hD6
      refine⟨rfl,_,rfl,?_⟩
      refine zCz (fun _=>?_) (fun _=>?_)
      . refine⟨_,rfl,hD7,by omega,⟨as++[(j:Int)],by rw[zR];rfl,fun a q=>?_,?_,by rw[zO];simp;omega⟩,T7.upd n1t n1p,(s6.trans s7).chg hD1,zJ⟩
        . rcases zm.mp q with z | z
          . have:=ha a z;omega
          . rw[zf.mp z];omega
        . exact List.nodup_append.mpr ⟨nd,by simp,fun a q b z e=>by rw[zf.mp z] at e;have:=ha a q;omega⟩
      . exact⟨by omega,⟨as,rfl,fun a q=>by have:=ha a q;omega,nd,by omega⟩,T7,s6.trans s7,hD7⟩
    . obtain⟨_,⟨as,rfl,ha,nd,hk⟩,T6,s6,hD6⟩:=z
      have W6:=W.on nD npl s6 T6
      have hDa:=hD6
      have npD1:D1≠t:=n1t
      refine⟨_,rfl,_,rfl,?_⟩
      refine zCz (fun _=>?a) (fun _=>?c)
      case' a=>
       refine⟨_,rfl,by show 0<=sizeLine;decide,fun e0 he0=>?_⟩
       have W7:=W6.on nD npl (Sm.laid (o:=.lst []) he0) (W6.tp.laid he0)
       have hD7:=zH (o:=.lst []) he0 _ _ hD6
       have h00:(upd H6 e0 (.lst [])) e0=some (.lst []):=zJ
       generalize upd H6 e0 (.lst [])=H7 at W7 hD7 h00 ⊢
       refine⟨D1,e0,_,rfl,rfl,SqL.of hD7,SqL.of h00,_,rfl,?_⟩
       refine zCz (fun _=>?a1) (fun _=>?a2)
      case' a1=>
       refine⟨_,rfl,_,rfl,t,p,_,1+(i:Int),rfl,W7.tp,by omega,by omega,by omega,fun r8 H8 h80 h81 T8 he8=>?_⟩
       have W8':=W7.on nD npl (zDQ he8) T8
       refine⟨by show 1<=sizeLine;decide,fun D2 hD2=>?_⟩
       have nD2:=(W8'.tp.ne hD2).1
       have W8:WF H t p D pl L (N+4+30*i+(i+2)) m (1+i) (upd H8 D2 (.lst [.int r8])):=W8'.on nD npl (Sm.laid (o:=.lst [.int r8]) hD2) ((W8'.tp.laid hD2).mono (by omega))
       obtain⟨as',hD2',ha',nd',hk'⟩:∃as':List Int,(upd H8 D2 (.lst [.int r8])) D2=some (.lst (as'.map V.int))/\(∀a∈as',0<=a/\a<1+(i:Int))/\as'.Nodup/\as'.length<=i+1:=⟨[r8],zJ,fun a q=>by rw[zf.mp q];exact⟨h80,h81⟩,by simp,by simp⟩
       generalize upd H8 D2 (.lst [.int r8])=H9 at W8 hD2' ⊢
      case' a2=>
       obtain⟨as',hD2',ha',nd',hk'⟩:∃as':List Int,H7 D1=some (.lst (as'.map V.int))/\(∀a∈as',0<=a/\a<1+(i:Int))/\as'.Nodup/\as'.length<=i+1:=⟨as,hD7,fun a q=>by have:=ha a q;omega,nd,by omega⟩
       have W8:WF H t p D pl L (N+4+30*i+(i+2)) m (1+i) H7:=W7.on nD npl (Sm.refl _ _) (W7.tp.mono (by omega))
       have nD2:=n1t
       clear ha nd hk hD7 h00 hDa npD1
       generalize H7=H9 at W8 hD2' ⊢
       generalize D1=D2 at hD2' nD2 ⊢
      case' c=>
       refine zCw ?_
       obtain⟨as',hD2',ha',nd',hk'⟩:∃as':List Int,H6 D1=some (.lst (as'.map V.int))/\(∀a∈as',0<=a/\a<1+(i:Int))/\as'.Nodup/\as'.length<=i+1:=⟨as,hD6,fun a q=>by have:=ha a q;omega,nd,by omega⟩
       have W8:WF H t p D pl L (N+4+30*i+(i+2)) m (1+i) H6:=W6.on nD npl (Sm.refl _ _) (W6.tp.mono (by omega))
       have nD2:=n1t
       clear ha nd hk hDa npD1
       generalize H6=H9 at W8 hD2' ⊢
       generalize D1=D2 at hD2' nD2 ⊢
      all_goals
       obtain⟨ys9,ts9,hD9,TA9,tr9,hl9⟩:=W8.ties
       refine⟨_,rfl,.inl ⟨rfl,_,SqL.of hD9⟩,_,rfl,D2,rfl,⟨_,SqL.of hD2'⟩,[.int (1+(i:Int)),.ref pl,.ref t],rfl,fun D3 hD3=>?_⟩
       have nD3:=W8.tp.ne hD3
       refine zCe (a:=D2) (xs:=as'.map V.int) (fun j ys Ha=>∃us:List T3,us.map (·.1)=as'.take j/\(∀u∈us,u.2.1=1+(i:Int)/\1<=u.2.2/\u.2.2<=99)/\Ha D3=some (.lst ys)/\zAW Ha ys (us.map tl)/\zBt Ha t p (N+4+30*i+(i+2)+j)/\Sm t H9 Ha)
        ⟨[],rfl,by simp,zJ,trivial,W8.tp.laid hD3,Sm.laid hD3⟩ (fun j ys Ha z=>?_) (fun j ys Ha z=>?_) (fun j x ys Ha hx z=>?_) (fun ys Ha z=>?_)
       . obtain⟨_,_,_,_,_,_,sa⟩:=z
         exact SqL.of (sa _ _ nD2 hD2')
       . obtain⟨us,e1,_,_,TA,_⟩:=z
         have e3:=TA.length
         rw[zB] at e3
         have e4:=congrArg List.length e1
         rw[zB,zw] at e4
         exact zl (by omega)
       . obtain⟨us,e1,hus,hDa,TA,TP,sa⟩:=z
         rw[zP] at hx
         cases hxa:as'[j]? with
         | none=>rw[hxa] at hx;cases hx
         | some av=>
         rw[hxa] at hx
         cases hx
         have hjl:j<as'.length:=(zK.mp hxa).1
         have hLn:0<((L.map V.int).length:Int)/\((L.map V.int).length:Int)<1000000:=by rw[zB];omega
         have hpa:=sa _ _ npl W8.pool
         refine⟨⟨rfl,rfl⟩,?_⟩
         refine zGa ?_
         refine⟨_,rfl,_,rfl,_,rfl,_,rfl,_,rfl,pl,_,rfl,.inl (SqL.of hpa),t,p,_,_,rfl,TP,by omega,hLn.1,hLn.2,fun rb Hb g0 g1 Tb heb=>?_⟩
         have sb:Sm t Ha Hb:=zDQ heb
         obtain⟨lg,hlg,hla⟩:=zIo (L:=L) g0 (by rw[zB] at g1;exact g1)
         refine⟨pl,_,_,_,rfl,rfl,SqL.of (sb _ _ npl hpa),hla,?_⟩
         refine⟨by show 3<=sizeLine;decide,fun q hq=>?_⟩
         have hDb:=sb _ _ nD3.1 hDa
         have nDq:D3≠q:=zq hDb hq
         refine⟨by rw[zk nDq];exact hDb,us++[(av,1+(i:Int),lg)],?_,fun u hu=>?_,zJ,?_,?_,?_⟩
         . rw[zR,e1,zAH,hxa];rfl
         . rcases zm.mp hu with z | z
           . exact hus u z
           . rw[zf.mp z];exact⟨rfl,hL lg hlg⟩
         . rw[zR]
           refine (TA.keep fun c zs e=>?_).snoc ⟨q,rfl,by rw[zk nDq.symm,zJ];rfl,by simp[tl]⟩
           have e':=sb _ _ (TP.neT e) e
           rw[zk (zBu e' hDb (by intro z;cases z)),zk (zq e' hq)]
           exact e'
         . exact ((Tb.laid hq).upd nD3.1 nD3.2).mono (by omega)
         . exact (sa.trans (sb.trans (Sm.laid hq))).chg hD3
       . obtain⟨us,e1,hus,hDa,TA,TP,sa⟩:=z
         rw[zB,zY (zI _)] at e1
         rw[zB] at TP
         have hul:us.length=as'.length:=by rw[<-e1,zB]
         have hDDa:=sa _ _ nD hD9
         have h9l:=TA9.length
         have hal:=TA.length
         rw[zB] at h9l hal
         have hii:i<=10:=by omega
         have hmm:i*(i+1)<=10*11:=Nat.mul_le_mul hii (by omega)
         refine⟨D,D3,_,_,rfl,rfl,hDDa,hDa,zAr (zl (by omega)),?_⟩
         refine⟨_,_,rfl,m+(i+1),?_,?_⟩
         . have:(i+1)*(i+1+1)=i*(i+1)+2*(i+1):=by rw[Nat.mul_comm (i+1) (i+1+1),Nat.add_mul (i+1) 1,Nat.add_mul i 1 (i+1)];omega
           omega
         . refine⟨(W8.sm.trans sa).chg hD0,(TP.upd nD nDp).mono (by omega),by rw[zk npD];exact sa _ _ npl W8.pool,_,ts9++us,zJ,?_,?_,by rw[zO];omega⟩
           . rw[zR]
             refine zG2 (TA9.keep fun c zs e=>?_) (TA.keep fun c zs e=>?_)
             . have e':=sa _ _ (W8.tp.neT e) e
               rw[zk (zBu e' hDDa (by intro z;cases z))];exact e'
             . rw[zk (zBu e hDDa (by intro z;cases z))];exact e
           . rw[show (1:Int)+((i+1:Nat):Int)=(1+(i:Int))+1 by omega]
             refine tr9.more (fun u hu=>?_) (by rw[e1];exact nd')
             have h1:=ha' u.1 (by rw[<-e1];exact List.mem_map_of_mem hu)
             have h2:=hus u hu
             exact⟨h1.1,h1.2,h2⟩
   case after=>
    rintro σ H5 ⟨vb,vs,rfl,m,hm,W⟩
    obtain⟨ys,ts,hD5,TA,tr,hl5⟩:=W.ties
    have hii:(1+r0-1).toNat<=10:=by omega
    have hmm:(1+r0-1).toNat*((1+r0-1).toNat+1)<=10*11:=Nat.mul_le_mul hii (by omega)
    refine⟨_,rfl,_,rfl,D,ys,ts.map tl,rfl,SqL.of hD5,TA,by rw[zB];omega,fun l us ms hl TA4 hpm _=>?_⟩
    refine⟨l,us,rfl,.inl ⟨SqL.of zJ,fun ta hta=>?_⟩⟩
    obtain⟨ts',ets,hpt⟩:∃ts':List T3,ts'.map tl=ms/\ts'.Perm ts:=by
     refine⟨ms.map fun k=>(k.getD 0 0,k.getD 1 0,k.getD 2 0),?_,?_⟩
     . rw[List.map_map]
       conv=>rhs;rw[<-List.map_id ms]
       refine List.map_congr_left fun k hk=>?_
       obtain⟨t',_,rfl⟩:=zAM.mp (hpm.mem_iff.mp hk)
       rfl
     . have:=hpm.map fun k:List Int=>((k.getD 0 0,k.getD 1 0,k.getD 2 0):T3)
       rw[List.map_map] at this
       have e:ts.map ((fun k:List Int=>((k.getD 0 0,k.getD 1 0,k.getD 2 0):T3))∘tl)=ts:=by
        conv=>rhs;rw[<-List.map_id ts]
        exact List.map_congr_left fun t' _=>rfl
       rw[e] at this
       exact this
    refine⟨by show 2<=sizeLine;decide,fun wa hwa=>?_⟩
    have sl:=(zH (o:=.lst us) hl).trans (zH (o:=.tup us) hta)
    have sw:=sl.trans (zH (o:=.tup [.int (1+r0),.ref ta]) hwa)
    have nwt:wa≠t:=(W.tp.ne (zBI sl hwa)).1
    have h0:H wa=none:=by
     cases q:H wa with
     | none=>rfl
     | some o=>rw[sl _ _ (W.sm _ _ nwt q)] at hwa;cases hwa
    refine k wa (1+r0) ts' _ h0 (by omega) ⟨ta,us,zJ,zH hwa _ _ zJ,?_,?_⟩ ⟨p,(W.tp.same sw).mono (by omega)⟩ (W.sm.trans (Sm.of sw))
    . rw[ets]
      exact TA4.keep fun c zs e=>sw _ _ e
    . refine⟨by omega,by omega,by rw[hpt.length_eq];omega,fun t' ht'=>?_,?_⟩
      . have:=tr.1 t' (hpt.mem_iff.mp ht')
        have e:((1:Int)+((1+r0-1).toNat:Int))=1+r0:=by omega
        rw[e] at this
        exact this
      . exact (List.Perm.pairwise_iff (R:=fun s t:T3=>¬ (s.1=t.1/\s.2.1=t.2.1)) (fun h e=>h ⟨e.1.symm,e.2.symm⟩) hpt).mpr tr.2
theorem ifT {c:Bool}{p q:Prop}(h:c=true)(hp:p):(if c=true then p else q):=by rw[if_pos h];exact hp
theorem ifF {c:Bool}{p q:Prop}(h:c=false)(hq:q):(if c=true then p else q):=by rw[if_neg (by simp[h])];exact hq
noncomputable def zHz:Sp:=fun vs H Q _=>∃(wa:Addr)(n:Int)(ts:List T3)(p:Int),vs=[.ref wa,.int p]/\zBw H wa n ts /\
 ∀(l:Addr)(zs:List V)(ms:List (List Int))(H':Hp),zAw H H'->H l=none->H' l=some (.lst zs)->zAW H' zs ms->ms.Perm (fd p ts)->zKk ms->Q (.ref l) H'
theorem zFr:zAO ["web", "place", "found", "a", "b", "long"] ["web", "place"] (defScope zGg):=fS0
variable {fd':FuncData}
theorem zId (F:Fun K "ties_at" "ties_at" zGg f fd') (mSorted:mg "sorted" = none):zAg P w K mg base CX0 1 f fd' ["web", "place"] zHz:=by
 refine F.ok zFr (fun vs H Q E h=>?_) (fun cdv A outer s H vs Q E hr h=>?_)
 . obtain⟨wa,n,ts,p,rfl,_⟩:=h
   rfl
 . obtain⟨wa,n,ts,p,rfl,⟨ta,tys,hwa,hta,TA,G⟩,k⟩:=h
   refine⟨_,zS (zAa (i:=2) zFr.nd rfl (Or.inl rfl) (zBh zM))
    (zS (zB3 PassesOwn.never rfl (zB9 (zAT zAy (pv 0) zz (fun _ _=>rfl))) (zEr rfl (zA6 (zAA (i:=3) zFr.nd rfl (Or.inl rfl)) (zA6 (zAA (i:=4) zFr.nd rfl (Or.inl rfl)) (zA6 (zAA (i:=5) zFr.nd rfl (Or.inl rfl)) zC8))))
     (zS (zBn (zAN zCr (pv 3) (pv 1) (zAd _)) (zd (zCZ (zED PySem.F.plainAttrs_list PySem.F.slot_list_append PySem.F.type_list_append zBr (pv 2) (zE (zBQ (zE (pv 4) (zE (pv 5) zM))) zM)))) zAh)
     (zd (zBn (zAN zCr (pv 4) (pv 1) (zAd _)) (zd (zCZ (zED PySem.F.plainAttrs_list PySem.F.slot_list_append PySem.F.type_list_append zBr (pv 2) (zE (zBQ (zE (pv 3) (zE (pv 5) zM))) zM)))) zAh))))
    (zd (zAJ (zj zEQ mSorted (zE (pv 2) zM))))),?_⟩
   refine⟨zg _,fun l hl=>?_⟩
   have hwl:wa≠l:=zq hwa hl
   have htl:ta≠l:=zq hta hl
   have hlt:tys.length=ts.length:=by rw[TA.length,zB]
   refine⟨_,rfl,wa,_,_,_,rfl,rfl,SqT.of (by rw[zk hwl];exact hwa),rfl,ta,rfl,⟨_,SqT.of (by rw[zk htl];exact hta)⟩,zCk (K:=K) (a:=ta) (xs:=tys)
    (fun i σ H2=>∃(va vb vl:Option V)(xs:List V),σ=[some (.ref wa),some (.int p),some (.ref l),va,vb,vl]/\zAw H H2/\H2 l=some (.lst xs)/\zAW H2 xs (fd p (ts.take i)))
    ⟨none,none,none,[],rfl,zH hl,zJ,trivial⟩ (fun i σ H2 _ ⟨_,_,_,_,_,s2,_⟩=>SqT.of (s2 _ _ hta)) ?turn ?after⟩
   case turn=>
    rintro i y σ H2 hi ⟨va,vb,vl,xs,rfl,s2,hl2,T2⟩
    obtain⟨ya,ky,rfl,hky,hya,_⟩:=TA.get hi
    rw[zP] at hky
    obtain⟨⟨a,b,c⟩,hti,rfl⟩:∃t:T3,ts[i]? = some t/\tl t=ky:=by
     cases e:ts[i]? with
     | none=>rw[e] at hky;cases hky
     | some t=>rw[e] at hky;exact⟨t,rfl,zX hky⟩
    have hil:i<ts.length:=(zK.mp hti).1
    have hlen:∀{xs':List V}{H3:Hp},zAW H3 xs' (fd p (ts.take i))->xs'.length<sizeLine:=fun T=>by
     have e1:=T.length
     have e2:=zHL (n:=n) p (ts:=ts.take i) fun t ht=>(G.rng t (List.mem_of_mem_take ht)).2.1
     rw[zw] at e2
     exact zl (by have:=G.len;omega)
    have hfd:fd p (ts.take (i+1))=fd p (ts.take i)++((if a=p then [[b,c]] else [])++(if b=p then [[a,c]] else [])):=by
     rw[zAH,hti,zF8]
     show _++((if a=p then [[b,c]] else [])++(if b=p then [[a,c]] else [])++[])=_
     rw[zt]
    have hab:a<b:=(G.rng _ (zU hti)).2.1
    refine⟨ya,_,rfl,SqT.of (s2 _ _ hya),rfl,_,_,rfl,_,_,rfl,_,_,rfl,rfl,?_⟩
    have app:∀{x:Int},∀q,H2 q=none->∃xs',(upd (upd H2 q (.tup [.int x,.int c])) l (.lst (xs++[.ref q]))) l=some (.lst xs')/\zAw H (upd (upd H2 q (.tup [.int x,.int c])) l (.lst (xs++[.ref q])))/\zAW (upd (upd H2 q (.tup [.int x,.int c])) l (.lst (xs++[.ref q]))) xs' (fd p (ts.take i)++[[x,c]]):=by
     intro x q hq
     have nlq:l≠q:=zq hl2 hq
     refine⟨_,zJ,zAu (s2.trans (zH hq)) hl,(T2.keep fun e ys he=>?_).snoc ⟨q,rfl,by rw[zk nlq.symm,zJ];rfl,by simp⟩⟩
     rw[zk (zBu he hl2 (by intro z;cases z)),zk (zq he hq)]
     exact he
    refine⟨_,rfl,_,rfl,rfl,_,rfl,?_⟩
    refine zCz (fun h1=>?_) (fun h1=>?_)
    . have e1:a=p:=by have:=of_decide_eq_true h1;injection this
      have n2:¬ b=p:=by omega
      refine⟨_,rfl,.inl ⟨rfl,_,SqL.of hl2⟩,_,rfl,_,rfl,by show 2<=sizeLine;decide,fun q hq=>?_⟩
      have nlq:l≠q:=zq hl2 hq
      refine⟨l,_,_,rfl,rfl,by rw[zk nlq];exact hl2,hlen T2,?_⟩
      refine⟨_,rfl,_,rfl,rfl,_,rfl,?_⟩
      rw[show decide (V.int b=V.int p)=false from zu fun e=>n2 (by injection e)]
      refine zCw ?_
      obtain⟨xs',g1,g2,g3⟩:=app (x:=b) q hq
      refine⟨_,_,_,xs',rfl,g2,g1,?_⟩
      rw[hfd,if_pos e1,if_neg n2]
      exact g3
    . have n1:¬ a=p:=fun e=>by
       have:=h1
       rw[e] at this
       exact this (zW rfl)
      refine⟨_,rfl,_,rfl,rfl,_,rfl,?_⟩
      refine zCz (fun h2=>?_) (fun h2=>?_)
      . have e2:b=p:=by have:=of_decide_eq_true h2;injection this
        refine⟨_,rfl,.inl ⟨rfl,_,SqL.of hl2⟩,_,rfl,_,rfl,by show 2<=sizeLine;decide,fun q hq=>?_⟩
        have nlq:l≠q:=zq hl2 hq
        refine⟨l,_,_,rfl,rfl,by rw[zk nlq];exact hl2,hlen T2,?_⟩
        obtain⟨xs',g1,g2,g3⟩:=app (x:=a) q hq
        refine⟨_,_,_,xs',rfl,g2,g1,?_⟩
        rw[hfd,if_neg n1,if_pos e2]
        exact g3
      . have n2:¬ b=p:=fun e=>by
         have:=h2
         rw[e] at this
         exact this (zW rfl)
        refine⟨_,_,_,xs,rfl,s2,hl2,?_⟩
        rw[hfd,if_neg n1,if_neg n2,zt,zt]
        exact T2
   case after=>
    rintro σ H2 ⟨va,vb,vl,xs,rfl,s2,hl2,T2⟩
    rw[hlt,zY (zI _)] at T2
    have e2:=zHL (n:=n) p (ts:=ts) fun t ht=>(G.rng t ht).2.1
    refine⟨_,rfl,l,xs,fd p ts,rfl,SqL.of hl2,T2,by have:=G.len;omega,fun l' zs ms hl' T3 hp hrs=>?_⟩
    have nll:l'≠l:=fun e=>by rw[e,hl2] at hl';cases hl'
    have hl0:H l'=none:=by
     cases q:H l' with
     | none=>rfl
     | some o=>have:=s2 l' o q;rw[hl'] at this;cases this
    exact k l' zs ms _ (s2.trans (zH hl')) hl0 zJ (T3.keep fun e ys he=>zH hl' _ _ he) hp hrs
theorem zHi {ms:List (List Int)}(h:zKk ms)(hk:∀k∈ms,∃y l,k=[y,l])(hn:(ms.map hd).Nodup):(ms.map hd).Pairwise (· < ·):=by
 rw[zA2]
 rw[List.Nodup,zA2] at hn
 have both:ms.Pairwise fun a b=>HT.lexLt b a=false/\hd a≠hd b:=by
  rw[zAQ]
  intro i j hi hj hij
  exact⟨zAQ.mp h i j hi hj hij,zAQ.mp hn i j hi hj hij⟩
 refine both.imp_of_mem fun {a b} ha hb hab=>?_
 obtain⟨y,l,rfl⟩:=hk a ha
 obtain⟨z,m,rfl⟩:=hk b hb
 obtain⟨h1,h2⟩:=hab
 have h2':y≠z:=h2
 rw[HT.lexLt_cons,if_neg (Ne.symm h2')] at h1
 have:=of_decide_eq_false h1
 show y<z
 omega
theorem zMj (a b:Int):eqV (.int a) (.int b)=(a==b):=rfl
theorem zBl {z:Int}:∀{l:List Int},inV (.int z) (l.map V.int)=decide (z∈l)
 | []=>rfl
 | x::r=>by
  show (eqV (.int x) (.int z) || inV (.int z) (r.map V.int))=_
  rw[zBl (l:=r),zMj]
  by_cases h:x=z
  . subst h;simp
  . have h':(x==z)=false:=by simpa using h
    rw[h',Bool.false_or]
    simp[Ne.symm h]
theorem zBJ:∀(l:List Int),(l.map V.int).all zEh=true
 | []=>rfl
 | _::r=>by rw[zAX,List.all_cons,zBJ r];rfl
theorem zDy {i j:Int}:decide (V.int i=V.int j)=decide (i=j):=by
 by_cases h:i=j
 . subst h;simp
 . rw[zu h,zu fun e=>h (by injection e)]
noncomputable def lamP:Pos:=⟨79,36,79,64⟩
noncomputable abbrev lamQ:Str:=(("nearest" : Str) ++ ".<locals>.") ++ "<lambda>"
noncomputable abbrev Tb (H:Hp)(PT:Addr):Prop:=zC4 H PT lamP lamQ
noncomputable def zKz (PT:Addr):Sp:=fun vs H Q _=>∃(d:Addr)(n:Int)(kvs:List (Key×V))(wt:Int->Option Int),vs=[.ref d]/\H d=some (.dK kvs)/\WD n kvs wt/\0<=n/\n<=24/\kvs≠[]/\Tb H PT /\
 ∀(M e:Int)(H':Hp),wt M=some e->(∀q f,wt q=some f->e<=f)->SmT H H'->Tb H' PT->Q (.int M) H'
noncomputable def zH3 (PT:Addr):Sp:=fun vs H Q _=>∃(wa:Addr)(n:Int)(ts:List T3)(s:Int),vs=[.ref wa,.int s]/\zBw H wa n ts/\0<=s/\s<n/\Tb H PT /\
 ∀(l:Addr)(kn:List (Option Int))(H':Hp),SmT H H'->Tb H' PT->H' l=some (.tup (kn.map oV))->zJf ts n s kn->Q (.ref l) H'
theorem zBw.smT (h:zBw H wa n ts)(k:SmT H H'):zBw H' wa n ts:=h.keepT fun b ys e=>by
 rcases k b _ e with ⟨ps,z⟩ | z
 . cases z
 . exact z
theorem scNear:zAO ["waiting"] ["waiting"] (defScope zIK):=fS0
variable {c:Addr}
theorem zMN (F:zKm K "nearest" "nearest" zIK f fd' c) (C:PySem.W.CodeHd base c PT)(hbm:zJd mg base)(mMin:mg "min" = none) (mSorted:mg "sorted" = none):zAg P w K mg base CX0 2 f fd' ["waiting"] (zKz PT):=by
 refine F.ok scNear (fun vs H Q E h=>?_) (fun A outer s H vs Q E hr h=>?_)
 . obtain⟨d,n,kvs,wt,rfl,_⟩:=h
   rfl
 . obtain⟨d,n,kvs,wt,rfl,hd,W,hn0,hn,hne,T,k⟩:=h
   refine⟨_,zd (zAJ (zIW (k:=0) (j:=0) (P:=PT) (c:=c) (dn := "waiting") (pn := "place") rfl hr rfl mMin (zE (zj (zGJ rfl) mSorted (zE (pv 0) zM)) zM) rfl C hbm rfl rfl rfl rfl rfl (by decide +kernel) (zMh rfl) rfl rfl rfl (fun _ _ _ _ _ _ _=>rfl))),?_⟩
   have hl:=W.len hn0
   refine⟨_,rfl,d,kvs,zEg kvs,rfl,hd,W.keys,by unfold zEg;rw[zB];omega,fun l ms hl' hp _=>?_⟩
   have mem:∀x,x∈ms->∃e,wt x=some e:=fun x hx=>W.mem.mp (hp.mem_iff.mp hx)
   refine⟨l,d,ms,kvs,fun x=>(wt x).getD 0,rfl,zJ,fun e=>?_,rfl,by rw[zk (zq hd hl')];exact hd,fun x hx=>?_,T.same (zH hl'),fun M H2 hM hb sm T2=>?_⟩
   . subst e
     have:=hp.length_eq
     unfold zEg at this
     rw[zB] at this
     exact hne (List.eq_nil_of_length_eq_zero this.symm)
   . obtain⟨e,he⟩:=mem x hx
     show zCu kvs (Sum.inl x)=some (.int ((wt x).getD 0))
     rw[W.at_ x,he];rfl
   . obtain⟨e,he⟩:=mem M hM
     refine k M e H2 he (fun q f hq=>?_) ((SmT.of (zH hl')).trans sm) T2
     have hq':q∈ms:=hp.mem_iff.mpr (W.mem.mpr ⟨f,hq⟩)
     have:=hb q hq'
     simp only[he,hq,zBR] at this
     exact this
theorem zD3:zAO ["web", "start", "known", "waiting", "place", "other", "long", "far"] ["web", "start"] (defScope zIM):=fS0
variable {o:Option Int}{j:Nat}
theorem zHb {kn:List (Option Int)}:(kn.map oV).set j (oV o)=(kn.set j o).map oV:=by rw[List.map_set]
theorem zFz:decide (oV o=V.non)=o.isNone:=by
 cases o with
 | none=>rfl
 | some d=>exact zu (by intro e;cases e)
variable {fN:Addr}{fdN fdT:FuncData}
theorem zMQ {fT:Addr}(F:Fun K "lengths_from" "lengths_from" zIM f fd') (FN:zKm K "nearest" "nearest" zIK fN fdN c) (bN:zAU K fdN ["waiting"] []) (mN:mg "nearest" = some (.ref fN)) (FT:Fun K "ties_at" "ties_at" zGg fT fdT) (bT:zAU K fdT ["web", "place"] []) (mT:mg "ties_at" = some (.ref fT))
 (C:PySem.W.CodeHd base c PT)(hbm:zJd mg base)(mMin:mg "min" = none) (mSorted:mg "sorted" = none) (mTuple:mg "tuple" = none):zAg P w K mg base CX0 3 f fd' ["web", "start"] (zH3 PT):=by
 have GN:zAg P w K mg base CX0 2 fN fdN ["waiting"] (zKz PT):=zMN FN C hbm mMin mSorted
 have GT:zAg P w K mg base CX0 2 fT fdT ["web", "place"] zHz:=(zId FT mSorted).mono (by decide)
 refine F.ok zD3 (fun vs H Q E h=>?_) (fun cdv A outer s H vs Q E hr h=>?_)
 . obtain⟨wa,n,ts,st,rfl,_⟩:=h
   rfl
 . obtain⟨wa,n,ts,st,rfl,W,hs0,hs1,T,k⟩:=h
   obtain⟨ta,tys,hwa,_,_,G⟩:=id W
   have hu:=zMd hr
   have hn1:=G.n1
   have hn24:=G.n24
   refine⟨_,zS (zAa (i:=2) zD3.nd rfl (Or.inl rfl) (zA3 zLD (zBh (zE zCR zM)) (zAT zAy (pv 0) zz (fun _ _=>rfl))))
    (zS (zAa (i:=3) zD3.nd rfl (Or.inl rfl) (zL1 (zJ7 (pv 1) zz zLy) rfl rfl (by decide) (by decide)))
    (zS (zFH PassesOwn.never (zJ2 (pv 3) (fun _=>rfl))
     (zS (zAa (i:=4) zD3.nd rfl (Or.inl rfl) (zy GN hr rfl mN FN.kp bN .nil zAt (zE (pv 3) zM)))
     (zS (zD7 (zKB (pv 3) (pv 4) ⟨rfl,rfl,rfl,rfl⟩) (zEB (pv 2) (pv 4) zCi))
     (zd (zB3 PassesOwn.never rfl (zCa (zy GT hr rfl mT FT.kp bT .nil zAt (zE (pv 0) (zE (pv 4) zM)))) (zEr rfl (zA6 (zAA (i:=5) zD3.nd rfl (Or.inl rfl)) (zA6 (zAA (i:=6) zD3.nd rfl (Or.inl rfl)) zC8)))
      (zd (zBn (zAN zHC (zAT zAi (pv 2) (pv 5) (fun _ _=>rfl)) zCR (zAd _))
       (zS (zAa (i:=7) zD3.nd rfl (Or.inl rfl) (zA3 zCL (zAT zAi (pv 2) (pv 4) (fun _ _=>rfl)) (pv 6)))
       (zd (zLx hu (pv 3) (pv 5) (zj (zGN rfl) mMin (zE (pv 7) (zE (zKC hu (pv 3) (pv 5) (pv 7) ⟨rfl,rfl,rfl,rfl⟩) zM))) rfl))) zAh)))))))
    (zd (zAJ (zAc zAI mTuple (zE (pv 2) zM)))))),?_⟩
   refine⟨by show 1<=sizeLine;decide,fun l0 hl0=>?_⟩
   refine⟨_,rfl,wa,_,_,_,rfl,rfl,SqT.of (zH hl0 _ _ hwa),rfl,l0,n,_,rfl,rfl,zJ,by omega,by omega,?_,fun kl hkl=>?_⟩
   . have:sizeLine=16777216:=rfl
     show 1*n.toNat<=sizeLine
     omega
   have s1:zAw H (upd (upd H l0 (.lst [.non])) kl (.lst (List.replicate n.toNat [V.non]).flatten)):=(zH hl0).trans (zH hkl)
   have erep:(List.replicate n.toNat [V.non]).flatten=(List.replicate n.toNat (none:Option Int)).map oV:=by
    generalize n.toNat=m
    induction m with
    | zero=>rfl
    | succ m ih=>rw[zBB,List.flatten_cons,ih,zBB];rfl
   rw[erep] at s1 ⊢
   have hk1:(upd (upd H l0 (.lst [.non])) kl (.lst ((List.replicate n.toNat (none:Option Int)).map oV))) kl=some (.lst ((List.replicate n.toNat (none:Option Int)).map oV)):=zJ
   generalize hH1:upd (upd H l0 (.lst [.non])) kl (.lst ((List.replicate n.toNat (none:Option Int)).map oV))=H1 at s1 hk1 ⊢
   intro wd hwd
   refine⟨_,rfl,zJ,[(Sum.inl st,.int 0)],rfl,by show 1<=15;decide,?_⟩
   have s2:zAw H (upd (upd H1 wd (.dK [])) wd (.dK [(Sum.inl st,.int 0)])):=by rw[zB8];exact s1.trans (zH hwd)
   have nkw:kl≠wd:=zq hk1 hwd
   rw[show zEv [] [((Sum.inl st:Key),V.int 0)]=[((Sum.inl st:Key),V.int 0)] from rfl,zB8]
   rw[zB8] at s2
   refine⟨fun m σ H2=>∃(kn:List (Option Int))(kvs:List (Key×V))(wt:Int->Option Int)(v4 v5 v6 v7:Option V),σ=[some (.ref wa),some (.int st),some (.ref kl),some (.ref wd),v4,v5,v6,v7]/\m=n.toNat-cnt kn/\SmT H H2/\Tb H2 PT/\H2 kl=some (.lst (kn.map oV))/\H2 wd=some (.dK kvs)/\WD n kvs wt/\Dl ts n st kn wt,
    ⟨_,_,_,_,_,_,_,_,rfl,rfl,SmT.of s2,T.same s2,by rw[zk nkw];exact hk1,zJ,WD.one hs0 hs1,Dl.start G hs0 hs1⟩,?_⟩
   rintro m σ H2 ⟨kn,kvs,wt,v4,v5,v6,v7,rfl,rfl,sm,T2,hk2,hw2,WW,D⟩
   cases hkb:kvs.isEmpty with
   | true=>
    refine⟨_,rfl,false,.inr (.inr ⟨kvs,hw2,by rw[hkb];rfl⟩),?_⟩
    refine zCw ?_
    have hkv:kvs=[]:=List.isEmpty_iff.mp hkb
    have hnone:∀q,wt q=none:=fun q=>by
     cases e:wt q with
     | none=>rfl
     | some d=>
      have:=WW.mem.mpr ⟨d,e⟩
      rw[hkv] at this
      simp[zEg] at this
    refine⟨_,rfl,kl,_,rfl,.inl ⟨SqL.of hk2,fun q hq=>?_⟩⟩
    exact k q kn _ (sm.trans (SmT.of (zH hq))) (T2.same (zH hq)) zJ (D.done G hnone)
   | false=>
    refine⟨_,rfl,true,.inr (.inr ⟨kvs,hw2,by rw[hkb];rfl⟩),?_⟩
    refine zCt ?_
    have hne:kvs≠[]:=by intro e;rw[e] at hkb;cases hkb
    refine⟨fun σ' H'=>∃(kn':List (Option Int))(kvs':List (Key×V))(wt':Int->Option Int)(v4 v5 v6 v7:Option V),σ'=[some (.ref wa),some (.int st),some (.ref kl),some (.ref wd),v4,v5,v6,v7]/\cnt kn'=cnt kn+1/\SmT H H'/\Tb H' PT/\H' kl=some (.lst (kn'.map oV))/\H' wd=some (.dK kvs')/\WD n kvs' wt'/\Dl ts n st kn' wt',?_,?_⟩
    . rintro σ' H' ⟨kn',kvs',wt',v4',v5',v6',v7',rfl,hc,sm',T',hk',hw',WW',D'⟩
      have h1:=zJL kn'
      have h2:=D'.ln
      exact⟨n.toNat-cnt kn',by omega,kn',kvs',wt',v4',v5',v6',v7',rfl,rfl,sm',T',hk',hw',WW',D'⟩
    refine⟨_,rfl,wd,n,kvs,wt,rfl,hw2,WW,by omega,hn24,hne,T2,fun M e H3 hM hmin sm3 T3=>?_⟩
    have hk3:H3 kl=some (.lst (kn.map oV)):=sm3.get hk2 (by intro ps z;cases z)
    have hw3:H3 wd=some (.dK kvs):=sm3.get hw2 (by intro ps z;cases z)
    obtain⟨hknM,hM0,hM1,hcnt,N0⟩:=D.enter G hM hmin
    have hval:zCu kvs (Sum.inl M)=some (.int e):=by rw[WW.at_ M,hM];rfl
    refine⟨_,rfl,wd,rfl,.inl ⟨kvs,.inl hw3⟩,_,rfl,kvs,Sum.inl M,_,hw3,rfl,hval,?_⟩
    have hlk:(kn.map oV).length=n.toNat:=by rw[zB];exact D.ln
    have hk3':(upd H3 wd (.dK (zCV kvs (Sum.inl M)))) kl=some (.lst (kn.map oV)):=by rw[zk nkw];exact hk3
    refine⟨_,rfl,_,rfl,kl,_,M,M.toNat,rfl,rfl,hk3',zHH hM0 (by rw[hlk];omega),?_⟩
    rw[show V.int e=oV (some e) from rfl,zHb]
    have sm4:SmT H (upd (upd H3 wd (.dK (zCV kvs (Sum.inl M)))) kl (.lst ((kn.set M.toNat (some e)).map oV))):=by
     intro b o hb
     rcases (sm.trans sm3) b o hb with z | z
     . exact .inl z
     . right
       have n1:b≠wd:=fun q=>by
        have hbn:H b=none:=by
         rw[q]
         cases e':H wd with
         | none=>rfl
         | some o'=>have:=s1 wd o' e';rw[hwd] at this;cases this
        rw[hbn] at hb;cases hb
       have n2:b≠kl:=fun q=>by
        have hbn:H b=none:=by
         rw[q]
         cases e':H kl with
         | none=>rfl
         | some o'=>have:=zH (o:=.lst [.non]) hl0 kl o' e';rw[hkl] at this;cases this
        rw[hbn] at hb;cases hb
       rw[zk n2,zk n1];exact z
    have T4:Tb (upd (upd H3 wd (.dK (zCV kvs (Sum.inl M)))) kl (.lst ((kn.set M.toNat (some e)).map oV))) PT:=by
     refine T3.keep (fun o ho=>?_) fun c φ hc=>?_
     . obtain⟨ps,hps,_⟩:=T3
       have e1:=ho
       rw[hps] at e1;cases e1
       rw[zk (zBu ho hk3 (by intro z;cases z)),zk (zBu ho hw3 (by intro z;cases z))];exact ho
     . rw[zk (zBu hc hk3 (by intro z;cases z)),zk (zBu hc hw3 (by intro z;cases z))];exact hc
    have hk4:(upd (upd H3 wd (.dK (zCV kvs (Sum.inl M)))) kl (.lst ((kn.set M.toNat (some e)).map oV))) kl=some (.lst ((kn.set M.toNat (some e)).map oV)):=zJ
    have hw4:(upd (upd H3 wd (.dK (zCV kvs (Sum.inl M)))) kl (.lst ((kn.set M.toNat (some e)).map oV))) wd=some (.dK (zCV kvs (Sum.inl M))):=by rw[zk nkw.symm,zJ]
    generalize upd (upd H3 wd (.dK (zCV kvs (Sum.inl M)))) kl (.lst ((kn.set M.toNat (some e)).map oV))=H4 at sm4 T4 hk4 hw4 ⊢
    refine⟨_,rfl,_,rfl,wa,n,ts,M,rfl,W.smT sm4,fun l zs ms H5 s5 hl5 hl5' T5 hp _=>?_⟩
    have hlz:=T5.length
    refine⟨l,rfl,⟨_,SqL.of hl5'⟩,zDu (K:=K) (a:=l) (xs:=zs) (fun i σ H6=>∃(kvs':List (Key×V))(wt':Int->Option Int)(v5 v6 v7:Option V),σ=[some (.ref wa),some (.int st),some (.ref kl),some (.ref wd),some (.int M),v5,v6,v7]/\(∀b o,b≠wd->H5 b=some o->H6 b=some o)/\H6 wd=some (.dK kvs')/\WD n kvs' wt'/\Dn ts n st M e (kn.set M.toNat (some e)) wt' (fun r=>∃j k,j<i/\ms[j]? = some k/\hd k=r))
     ⟨_,_,_,_,_,rfl,fun _ _ _ z=>z,s5 _ _ hw4,WW.drop,⟨⟨N0.dm.kd,N0.dm.wk,N0.dm.ord,fun q e' r l' hq ha=>(N0.dm.nb q e' r l' hq ha).imp (fun z=>⟨z.1,fun ⟨j,_,hj,_⟩=>absurd hj (zBz _)⟩) id,N0.dm.st,N0.dm.pd,N0.dm.mx⟩,N0.ln,N0.bk,N0.bd,N0.bw⟩⟩
     (fun i σ H6 _ ⟨_,_,_,_,_,_,s6,_⟩=>SqL.of (s6 l _ (zBu hl5' (s5 _ _ hw4) (by intro z;cases z)) hl5')) ?turn ?after⟩
    case after=>
     rintro σ H6 ⟨kvs',wt',v5,v6,v7,rfl,s6,hw6,WW6,N6⟩
     have hk5:H5 kl=some (.lst ((kn.set M.toNat (some e)).map oV)):=s5 _ _ hk4
     refine⟨_,kvs',wt',_,_,_,_,rfl,hcnt,?_,?_,s6 kl _ nkw hk5,hw6,WW6,N6.leave fun r c ha=>?_⟩
     . intro b o hb
       rcases (sm4.trans (SmT.of s5)) b o hb with z | z
       . exact .inl z
       . right
         refine s6 b o (fun q=>?_) z
         have hbn:H b=none:=by
          rw[q]
          cases e':H wd with
          | none=>rfl
          | some o'=>have:=s1 wd o' e';rw[hwd] at this;cases this
         rw[hbn] at hb;cases hb
     . refine (T4.same s5).keep (fun o ho=>?_) fun c φ hc=>?_
       . obtain⟨ps,hps,_⟩:=T4.same s5
         refine s6 PT o (fun q=>?_) ho
         rw[q,s5 _ _ hw4] at hps;cases hps
       . refine s6 c _ (fun q=>?_) hc
         rw[q,s5 _ _ hw4] at hc;cases hc
     . have hm:[r,c]∈ms:=hp.mem_iff.mpr (zEw.mpr ⟨r,c,rfl,ha⟩)
       obtain⟨j,hj,ej⟩:=zAL hm
       exact⟨j,[r,c],by omega,by rw[zD hj,ej],rfl⟩
    case turn=>
     rintro i y σ H6 hi ⟨kvs',wt',v5,v6,v7,rfl,s6,hw6,WW6,N6⟩
     obtain⟨ya,ky,rfl,hky,hya,_⟩:=T5.get hi
     obtain⟨r,c,rfl,ha⟩:=zEw.mp (hp.mem_iff.mp (zU hky))
     have hadj:=G.adj ha
     have hk6:H6 kl=some (.lst ((kn.set M.toNat (some e)).map oV)):=s6 kl _ nkw (s5 _ _ hk4)
     have hln:(kn.set M.toNat (some e)).length=n.toNat:=N6.ln
     have seen_of:∀{x:Int},(x=r\/∃j k,j<i/\ms[j]? = some k/\hd k=x)->∃j k,j<i+1/\ms[j]? = some k/\hd k=x:=fun {x} z=>by
      rcases z with rfl | ⟨j,k',hj,hk',e'⟩
      . exact⟨i,[x,c],zBS _,hky,rfl⟩
      . exact⟨j,k',zAl hj,hk',e'⟩
     have sub:∀{x:Int},(∃j k,j<i+1/\ms[j]? = some k/\hd k=x)->(∃j k,j<i/\ms[j]? = some k/\hd k=x)\/x=r:=fun {x} ⟨j,k',hj,hk',e'⟩=>by
      by_cases hji:j<i
      . exact .inl ⟨j,k',hji,hk',e'⟩
      . have:j=i:=by omega
        subst this
        rw[hky] at hk';cases hk'
        exact .inr e'.symm
     have conv:∀{wt2:Int->Option Int},Dn ts n st M e (kn.set M.toNat (some e)) wt2 (fun x=>(∃j k,j<i/\ms[j]? = some k/\hd k=x)\/x=r)->Dn ts n st M e (kn.set M.toNat (some e)) wt2 (fun x=>∃j k,j<i+1/\ms[j]? = some k/\hd k=x):=fun {wt2} N=>
      ⟨⟨N.dm.kd,N.dm.wk,N.dm.ord,fun q e' r' l' hq ha'=>(N.dm.nb q e' r' l' hq ha').imp (fun z=>⟨z.1,fun y=>z.2 (sub y)⟩) id,N.dm.st,N.dm.pd,N.dm.mx⟩,N.ln,N.bk,N.bd,N.bw⟩
     refine⟨ya,_,rfl,SqT.of (s6 _ _ (zBu hya (s5 _ _ hw4) (by intro z;cases z)) hya),rfl,_,_,rfl,_,_,rfl,rfl,?_⟩
     obtain⟨o,ho⟩:∃o,(kn.set M.toNat (some e))[r.toNat]? = some o:=⟨_,zD (by omega)⟩
     have hfnl:fnl (kn.set M.toNat (some e)) r=o:=by
      unfold fnl
      rw[if_pos hadj.2.2.1,zF,ho];rfl
     refine⟨_,rfl,_,rfl,kl,_,_,oV o,rfl,rfl,SqL.of hk6,zAv hadj.2.2.1 (by rw[zP,ho];rfl),rfl,_,rfl,?_⟩
     rw[zFz]
     cases o with
     | some f0=>
      refine zCw ?_
      exact⟨kvs',wt',_,_,_,rfl,s6,hw6,WW6,conv (N6.skip hfnl)⟩
     | none=>
      refine zCt ?_
      have hkM:(kn.set M.toNat (some e))[M.toNat]? = some (some e):=by
       rw[List.getElem?_set_self (by have:=D.ln;omega)]
      refine⟨_,rfl,_,rfl,kl,_,_,oV (some e),rfl,rfl,SqL.of hk6,zAv hM0 (by rw[zP,hkM];rfl),_,rfl,_,_,rfl,rfl,?_⟩
      refine⟨_,rfl,_,rfl,wd,rfl,.inl ⟨kvs',.inl hw6⟩,_,rfl,_,rfl,_,DGet.k (k:=Sum.inl r) hw6,?_⟩
      have hg:((zCu kvs' (Sum.inl r)).getD (V.int (e+c)))=V.int ((wt' r).getD (e+c)):=by
       rw[WW6.at_ r]
       cases wt' r <;> rfl
      rw[hg]
      refine⟨_,_,rfl,?_⟩
      have hwl:=WW6.len (by omega)
      refine⟨_,rfl,_,rfl,wd,_,rfl,DPut.k (k:=Sum.inl r) hw6 (zl (by omega)),?_⟩
      exact⟨_,_,_,_,_,rfl,fun b o' hb z=>by rw[zk hb];exact s6 b o' hb z,zJ,WW6.put hadj.2.2.1 hadj.2.2.2.1,conv (N6.wait G ha hfnl)⟩
noncomputable def zLj:Sp:=fun vs H Q _=>∃(lh lt:Addr)(n:Int)(ts:List T3)(x y:Int)(kn1 kn2:List (Option Int)),vs=[.ref lh,.ref lt,.int y]/\GW n ts/\0<=x/\x<n/\0<=y/\y<n/\H lh=some (.tup (kn1.map oV))/\H lt=some (.tup (kn2.map oV))/\zJf ts n x kn1/\zJf ts n y kn2 /\
 ∀(l:Addr)(xs:List Int)(H':Hp),zAw H H'->H' l=some (.tup (xs.map V.int))->xs.Pairwise (· < ·)->(∀p,p∈xs↔Btw ts x y p)->Q (.ref l) H'
noncomputable def spNbr:Sp:=fun vs H Q _=>∃(wa lt:Addr)(n:Int)(ts:List T3)(x y:Int)(kn:List (Option Int)),vs=[.ref wa,.int x,.ref lt]/\zBw H wa n ts/\0<=x/\x<n/\0<=y/\y<n/\H lt=some (.tup (kn.map oV))/\zJf ts n y kn /\
 ∀(l:Addr)(xs:List Int)(H':Hp),zAw H H'->H' l=some (.tup (xs.map V.int))->xs.Pairwise (· < ·)->(∀p,p∈xs↔Nxt ts x y p)->Q (.ref l) H'
variable {y:Int}
theorem zCF {s:Int}{kn:List (Option Int)}(h:zJf ts n s kn)(h0:0<=y)(h1:y<n):(kn.map oV)[y.toNat]? = some (oV (fnl kn y)):=by
 have hl:=h.ln
 have hlt:y.toNat<kn.length:=by omega
 rw[zP,zD hlt]
 unfold fnl
 rw[if_pos h0,zF,zD hlt]
 rfl
theorem zF6 (q:Nat):lowTo (q+1)=lowTo q++[(q:Int)]:=by unfold lowTo;rw[List.range_succ,zR];rfl
theorem zDs (q:Nat):(lowTo q).length=q:=by unfold lowTo;rw[zB,zAV]
theorem scBwr:zAO ["here", "there", "other", "reached"] ["here", "there", "other"] (defScope sBwr):=fS0
theorem zLF (F:Fun K "between_rows" "between_rows" sBwr f fd') (mRange:mg "range" = none) (mTuple:mg "tuple" = none) (mLen:mg "len" = none):zAg P w K mg base CX0 1 f fd' ["here", "there", "other"] zLj:=by
 refine F.ok scBwr (fun vs H Q E h=>?_) (fun cdv A outer s H2 vs Q E hr h=>?_)
 . obtain⟨lh,lt,n,ts,x,y,kn1,kn2,rfl,_⟩:=h
   rfl
 . obtain⟨lh,lt,n,ts,x,y,kn1,kn2,rfl,G,hx0,hx1,hy0,hy1,hh2,hl2,L1,L2,k⟩:=h
   have hn24:=G.n24
   have hln:=L1.ln
   refine⟨_,zS (zBn (zAN zHC (zAT zAy (pv 0) (pv 2) (fun _ _=>rfl)) zCR (zAd _)) (zd (zAJ (zBQ zM))) zAh)
    (zS (zD6 (i:=3) (own:=["place"]) (cn:=["here"]) (ci:=[0]) scBwr.nd rfl (Or.inl rfl) rfl (csc rfl rfl) ⟨rfl,rfl,rfl,trivial⟩ rfl
     (zA5 rfl mRange (zE (zj zAS mLen (zE (pv 0) zM)) zM)) (fun _ _ _ _=>zAA (i:=0) (zB4 rfl) rfl (Or.inl rfl))
     (fun _ _ _ _=>zCC (zAN zL4 (zAT zCJ (pv 1) (pv 0) (fun _ _=>rfl)) zCR (zAd _))) (fun _ _ _ _=>pv 0))
    (zd (zAJ (zAc zAI mTuple (zE
     (zBH (own:=["place"]) (cn:=["here", "there", "other"]) (ci:=[0,1,2]) rfl (csc rfl rfl) ⟨rfl,rfl,rfl,rfl,rfl,rfl,rfl,rfl,rfl,trivial⟩ rfl
      (zCa (pv 3)) (fun _ _ _ _=>zAA (i:=0) (zB4 rfl) rfl (Or.inl rfl))
      (fun _ _ _ _=>zCC (zAN zCr (zA3 zCL (zAT zCJ (pv 1) (pv 0) (fun _ _=>rfl)) (zAT zCJ (pv 2) (pv 0) (fun _ _=>rfl))) (zAT zCJ (pv 1) (pv 3) (fun _ _=>rfl)) (zAd _)))
      (fun _ _ _ _=>pv 0)) zM))))),?_⟩
   have hy:=L1.len y hy0 hy1
   refine⟨_,rfl,_,rfl,lh,_,_,oV (fnl kn1 y),rfl,rfl,SqT.of hh2,zAv hy0 (zCF L1 hy0 hy1),rfl,_,rfl,?_⟩
   rw[zFz]
   cases hd:fnl kn1 y with
   | none=>
    refine zCt ?_
    rw[hd] at hy
    refine⟨zg _,fun l hl=>k l [] _ (zH hl) zJ zBD fun p=>⟨fun z=>by simp at z,fun ⟨a,b,_,_,z⟩=>absurd z.1 (hy _)⟩⟩
   | some d=>
    refine zCw ?_
    rw[hd] at hy
    have hyD:WM.IsD ts x y d:=hy
    refine⟨_,rfl,lh,_,rfl,.inr (SqT.of hh2),n,by rw[zB,hln];exact congrArg (fun z=>[V.int z]) (zBg (by omega)),by omega,by omega,[.ref lh],rfl,fun D hD=>?_⟩
    refine zBV (lo:=0) (n:=n.toNat) (fun q ys H3=>q<=n.toNat/\ys=((lowTo q).filter fun o=>(fnl kn1 o).isSome).map V.int/\zAw H2 H3/\H3 D=some (.lst ys)) ⟨zg _,rfl,zH hD,zJ⟩ (fun q ys H3 h=>?_) (fun q ys H3 hq h=>?_) (fun ys H3 h=>?_)
    . obtain⟨hq,rfl,_⟩:=h
      rw[zB]
      refine zAo (zo _ _) (zl ?_)
      rw[zDs];omega
    . obtain⟨_,rfl,s3,hD3⟩:=h
      rw[zAn]
      refine⟨⟨rfl,rfl⟩,?_⟩
      refine⟨_,rfl,_,rfl,lh,_,_,oV (fnl kn1 q),rfl,rfl,SqT.of (s3 _ _ hh2),zAv (by omega) (zCF L1 (by omega) (by omega)),rfl,_,rfl,?_⟩
      rw[zFz]
      cases e:fnl kn1 q with
      | none=>
       refine zCw ?_
       refine⟨hq,?_,s3,hD3⟩
       rw[zF6,List.filter_append,List.filter_cons_of_neg (by rw[e];decide),List.filter_nil,zt]
      | some a=>
       refine zCt ?_
       refine⟨_,rfl,hD3,hq,?_,zAu s3 hD,zJ⟩
       rw[zF6,List.filter_append,List.filter_cons_of_pos (by rw[e];rfl),List.filter_nil,zR]
       rfl
    . obtain⟨_,rfl,s3,hD3⟩:=h
      generalize hR:((lowTo n.toNat).filter fun o=>(fnl kn1 o).isSome)=R at hD3 ⊢
      have hRm:∀p,p∈R↔(0<=p/\p<n)/\∃a,fnl kn1 p=some a:=fun p=>by
       rw[<-hR,zAs,zHF,zBO]
       constructor
       . rintro ⟨z1,z2⟩;exact⟨by omega,z2⟩
       . rintro ⟨z1,z2⟩;exact⟨by omega,z2⟩
      have hRr:R.Pairwise (· < ·):=by rw[<-hR];exact (zI0 _).sublist List.filter_sublist
      have hRl:R.length<=24:=by
       rw[<-hR]
       exact zAP (zo _ _) (by rw[zDs];omega)
      have both:∀p,p∈R->∃a b,fnl kn1 p=some a/\fnl kn2 p=some b/\WM.IsD ts x p a/\WM.IsD ts p y b:=fun p hp=>by
       obtain⟨⟨h0,h1⟩,a,ha⟩:=(hRm p).mp hp
       have l1:=L1.len p h0 h1
       rw[ha] at l1
       obtain⟨b,hb,_⟩:=Len.via (show WM.IsD ts x p a from l1) hyD (Len.symm (L2.len p h0 h1))
       have l2:=L2.len p h0 h1
       rw[hb] at l2
       exact⟨a,b,ha,hb,l1,WM.IsD.symm l2⟩
      refine⟨_,rfl,D,rfl,⟨_,SqL.of hD3⟩,[.ref lh,.ref lt,.int y],rfl,fun D2 hD2=>?_⟩
      have nDD:D≠D2:=zq hD3 hD2
      refine zCe (a:=D) (xs:=R.map V.int) (fun i ys H4=>ys=((R.take i).filter fun p=>decide ((fnl kn1 p).getD 0+(fnl kn2 p).getD 0=d)).map V.int/\zAw H3 H4/\H4 D2=some (.lst ys)) ⟨rfl,zH hD2,zJ⟩ (fun i ys H4 h=>?_) (fun i ys H4 h=>?_) (fun i v ys H4 hv h=>?_) (fun ys H4 h=>?_)
      . obtain⟨_,s4,_⟩:=h
        exact SqL.of (s4 _ _ hD3)
      . obtain⟨rfl,_⟩:=h
        rw[zB]
        refine zAo (zo _ _) (zl ?_)
        rw[zw];omega
      . obtain⟨rfl,s4,hD4⟩:=h
        obtain⟨p,hp,rfl⟩:∃p,R[i]? = some p/\V.int p=v:=by
         rw[zP] at hv
         cases e:R[i]? with
         | none=>rw[e] at hv;cases hv
         | some p=>rw[e] at hv;exact⟨p,rfl,zX hv⟩
        have hpR:=zU hp
        obtain⟨⟨h0,h1⟩,_⟩:=(hRm p).mp hpR
        obtain⟨a,b,ha,hb,_,_⟩:=both p hpR
        have hlh4:H4 lh=some (.tup (kn1.map oV)):=s4 _ _ (s3 _ _ hh2)
        have hlt4:H4 lt=some (.tup (kn2.map oV)):=s4 _ _ (s3 _ _ hl2)
        refine⟨⟨rfl,rfl⟩,?_⟩
        refine⟨_,rfl,_,rfl,lh,_,_,.int a,rfl,rfl,SqT.of hlh4,zAv h0 (by rw[zCF L1 h0 h1,ha];rfl),?_⟩
        refine⟨_,rfl,_,rfl,lt,_,_,.int b,rfl,rfl,SqT.of hlt4,zAv h0 (by rw[zCF L2 h0 h1,hb];rfl),_,_,rfl,rfl,?_⟩
        refine⟨_,rfl,_,rfl,lh,_,_,.int d,rfl,rfl,SqT.of hlh4,zAv hy0 (by rw[zCF L1 hy0 hy1,hd];rfl),rfl,_,rfl,?_⟩
        rw[zDy]
        have etk:(R.take (i+1)).filter (fun p=>decide ((fnl kn1 p).getD 0+(fnl kn2 p).getD 0=d))=(R.take i).filter (fun p=>decide ((fnl kn1 p).getD 0+(fnl kn2 p).getD 0=d))++(if a+b=d then [p] else []):=by
         rw[zAH,hp,List.filter_append]
         show _++List.filter _ [p]=_
         rw[zB6,ha,hb]
         by_cases c:a+b=d
         . rw[if_pos (by simpa using c),if_pos c];rfl
         . rw[if_neg (by simpa using c),if_neg c];rfl
        refine zCz (fun c=>?_) (fun c=>?_)
        . have c':=of_decide_eq_true c
          refine⟨_,rfl,hD4,?_,zAu s4 hD2,zJ⟩
          rw[etk,if_pos c',zR];rfl
        . have c':¬ a+b=d:=fun z=>c (zW z)
          refine⟨?_,s4,hD4⟩
          rw[etk,if_neg c',zt]
      . obtain⟨rfl,s4,hD4⟩:=h
        rw[zB,zY (zI _)] at hD4
        refine⟨D2,_,rfl,.inl ⟨SqL.of hD4,fun q hq=>?_⟩⟩
        refine k q _ _ ((s3.trans s4).trans (zH hq)) zJ (hRr.sublist List.filter_sublist) fun p=>?_
        rw[zAs]
        constructor
        . rintro ⟨hp,c⟩
          obtain⟨a,b,ha,hb,ia,ib⟩:=both p hp
          have c':=of_decide_eq_true c
          rw[ha,hb] at c'
          exact⟨a,b,ia,ib,by rw[show a+b=d from c'];exact hyD⟩
        . rintro ⟨a,b,ia,ib,iab⟩
          have hp:=ia.1.in_ G hx0 hx1
          have l1:=Len.uniq (L1.len p hp.1 hp.2) (show Len ts x p (some a) from ia)
          have l2:=Len.uniq (L2.len p hp.1 hp.2) (show Len ts y p (some b) from WM.IsD.symm ib)
          refine⟨(hRm p).mpr ⟨hp,a,l1⟩,zW ?_⟩
          rw[l1,l2]
          exact WM.IsD.uniq iab hyD
theorem scNbr:zAO ["web", "one", "there"] ["web", "one", "there"] (defScope sNbr):=fS0
noncomputable def sl1 (k:List Int):Int:=k.getD 1 0
theorem ok_nbr {fT:Addr}(F:Fun K "next_by_row" "next_by_row" sNbr f fd')
 (FT:Fun K "ties_at" "ties_at" zGg fT fdT) (bT:zAU K fdT ["web", "place"] []) (mT:mg "ties_at" = some (.ref fT)) (mSorted:mg "sorted" = none) (mTuple:mg "tuple" = none):zAg P w K mg base CX0 3 f fd' ["web", "one", "there"] spNbr:=by
 have GT:zAg P w K mg base CX0 2 fT fdT ["web", "place"] zHz:=(zId FT mSorted).mono (by decide)
 refine F.ok scNbr (fun vs H Q E h=>?_) (fun cdv A outer s H1 vs Q E hr h=>?_)
 . obtain⟨wa,lt,n,ts,x,y,kn,rfl,_⟩:=h
   rfl
 . obtain⟨wa,lt,n,ts,x,y,kn,rfl,W,hx0,hx1,hy0,hy1,hl1,L,k⟩:=h
   obtain⟨ta,tys,hwa,_,_,G⟩:=id W
   refine⟨_,zS (zBn (zAN zHC (zAT zAy (pv 2) (pv 1) (fun _ _=>rfl)) zCR (zAd _)) (zd (zAJ (zBQ zM))) zAh)
    (zd (zAJ (zAc zAI mTuple (zE
     (zBH (own:=["place", "long"]) (cn:=["there", "one"]) (ci:=[2,1]) rfl (csc rfl rfl) ⟨rfl,rfl,rfl,rfl,rfl,rfl,trivial⟩ rfl
      (zCa (zy GT hr rfl mT FT.kp bT .nil zAt (zE (pv 0) (zE (pv 1) zM))))
      (fun _ _ _ _=>zIV (n:=2) rfl (zA6 (zAA (i:=0) (zB4 rfl) rfl (Or.inl rfl)) (zA6 (zAA (i:=1) (zB4 rfl) rfl (Or.inl rfl)) zC8)))
      (fun _ _ _ _=>zCC (zAN zCr (zA3 zCL (pv 1) (zAT zCJ (pv 2) (pv 0) (fun _ _=>rfl))) (zAT zCJ (pv 2) (pv 3) (fun _ _=>rfl)) (zAd _)))
      (fun _ _ _ _=>pv 0)) zM)))),?_⟩
   have hx:=L.len x hx0 hx1
   refine⟨_,rfl,_,rfl,lt,_,_,oV (fnl kn x),rfl,rfl,SqT.of hl1,zAv hx0 (zCF L hx0 hx1),rfl,_,rfl,?_⟩
   rw[zFz]
   cases hd:fnl kn x with
   | none=>
    refine zCt ?_
    rw[hd] at hx
    refine⟨zg _,fun l hl=>k l [] _ (zH hl) zJ zBD fun p=>⟨fun z=>by simp at z,fun ⟨a,b,_,_,z⟩=>absurd z.1.symm (hx _)⟩⟩
   | some d=>
    refine zCw ?_
    rw[hd] at hx
    have hxD:WM.IsD ts x y d:=WM.IsD.symm hx
    refine⟨_,rfl,_,rfl,wa,n,ts,x,rfl,W,fun l zs ms H2 s2 hl0 hl2 TT hp hrs=>?_⟩
    have hlz:=TT.length
    have hlt2:H2 lt=some (.tup (kn.map oV)):=s2 _ _ hl1
    have hlm:ms.length<64:=by
     have e2:=zHL (n:=n) x (ts:=ts) fun t ht=>(G.rng t ht).2.1
     have:=G.len
     rw[hp.length_eq];omega
    have near:∀k,k∈ms->∃z c b,k=[z,c]/\Adj ts x z c/\fnl kn z=some b/\WM.IsD ts z y b:=fun k hk=>by
     obtain⟨z,c,e,ha⟩:=zEw.mp (hp.mem_iff.mp hk)
     have hadj:=G.adj ha
     have lz:=L.len z hadj.2.2.1 hadj.2.2.2.1
     cases hz:fnl kn z with
     | none=>rw[hz] at lz;exact absurd (hx.1.snoc ha) (lz _)
     | some b=>rw[hz] at lz;exact⟨z,c,b,e,ha,hz,WM.IsD.symm lz⟩
    refine⟨l,rfl,⟨_,SqL.of hl2⟩,[.ref lt,.int x],rfl,fun D hD=>?_⟩
    have nlD:l≠D:=zq hl2 hD
    refine zCe (a:=l) (xs:=zs) (fun i ys H3=>ys=(((ms.take i).filter fun k=>decide (sl1 k+(fnl kn (WM.hd k)).getD 0=d)).map WM.hd).map V.int/\H3=upd H2 D (.lst ys)) ⟨rfl,rfl⟩ (fun i ys H3 h=>?_) (fun i ys H3 h=>?_) (fun i v ys H3 hv h=>?_) (fun ys H3 h=>?_)
    . obtain⟨_,rfl⟩:=h
      exact SqL.of (by rw[zk nlD];exact hl2)
    . obtain⟨rfl,_⟩:=h
      rw[zB,zB]
      refine zAo (zo _ _) (zl ?_)
      rw[zw];omega
    . obtain⟨rfl,rfl⟩:=h
      obtain⟨ya,ky,rfl,hky,hya,_⟩:=TT.get hv
      obtain⟨z,c,b,rfl,ha,hb,ib⟩:=near ky (zU hky)
      have hadj:=G.adj ha
      refine⟨ya,_,rfl,SqT.of (by rw[zk (zq hya hD)];exact hya),rfl,_,_,rfl,_,_,rfl,rfl,⟨rfl,rfl⟩,?_⟩
      have hltD:(upd H2 D (.lst ((((ms.take i).filter fun k=>decide (sl1 k+(fnl kn (WM.hd k)).getD 0=d)).map WM.hd).map V.int))) lt=some (.tup (kn.map oV)):=by rw[zk (zq hlt2 hD)];exact hlt2
      refine⟨_,rfl,_,rfl,_,rfl,lt,_,_,.int b,rfl,rfl,SqT.of hltD,zAv hadj.2.2.1 (by rw[zCF L hadj.2.2.1 hadj.2.2.2.1,hb];rfl),_,_,rfl,rfl,?_⟩
      refine⟨_,rfl,_,rfl,lt,_,_,.int d,rfl,rfl,SqT.of hltD,zAv hx0 (by rw[zCF L hx0 hx1,hd];rfl),rfl,_,rfl,?_⟩
      rw[zDy]
      have etk:(ms.take (i+1)).filter (fun k=>decide (sl1 k+(fnl kn (WM.hd k)).getD 0=d))=(ms.take i).filter (fun k=>decide (sl1 k+(fnl kn (WM.hd k)).getD 0=d))++(if c+b=d then [[z,c]] else []):=by
       rw[zAH,hky,List.filter_append]
       show _++List.filter _ [[z,c]]=_
       rw[zB6]
       have e1:decide (sl1 [z,c]+(fnl kn (WM.hd [z,c])).getD 0=d)=decide (c+b=d):=by
        show decide (c+(fnl kn z).getD 0=d)=_
        rw[hb];rfl
       rw[e1]
       by_cases cc:c+b=d
       . rw[if_pos (by simpa using cc),if_pos cc];rfl
       . rw[if_neg (by simpa using cc),if_neg cc];rfl
      refine zCz (fun cc=>?_) (fun cc=>?_)
      . have c':=of_decide_eq_true cc
        refine⟨_,rfl,zJ,?_,zB8⟩
        rw[etk,if_pos c',zR,zR];rfl
      . have c':¬ c+b=d:=fun q=>cc (zW q)
        refine⟨?_,rfl⟩
        rw[etk,if_neg c',zt]
    . obtain⟨rfl,rfl⟩:=h
      refine⟨D,_,rfl,.inl ⟨SqL.of zJ,fun q hq=>?_⟩⟩
      rw[hlz,zY (zI _)] at hq ⊢
      have s4:=(zH (o:=.lst ((((ms.filter fun k=>decide (sl1 k+(fnl kn (WM.hd k)).getD 0=d)).map WM.hd).map V.int))) hD).trans (zH (o:=.tup ((((ms.filter fun k=>decide (sl1 k+(fnl kn (WM.hd k)).getD 0=d)).map WM.hd).map V.int))) hq)
      have hk:∀k∈ms,∃y l,k=[y,l]:=fun k hk=>by
       obtain⟨z,c,b,e,_⟩:=near k hk
       exact⟨z,c,e⟩
      have hrise:=zHi hrs hk ((hp.map WM.hd).nodup_iff.mpr (zKW G x))
      refine k q _ _ (s2.trans s4) zJ (hrise.sublist (List.filter_sublist.map _)) fun p=>?_
      rw[zAM]
      constructor
      . rintro ⟨k0,hk0,rfl⟩
        obtain⟨hm,c⟩:=zAs.mp hk0
        obtain⟨z,c0,b,rfl,ha,hb,ib⟩:=near k0 hm
        have c':=of_decide_eq_true c
        have c2:c0+b=d:=by
         have:c0+(fnl kn z).getD 0=d:=c'
         rw[hb] at this;exact this
        exact⟨c0,b,ha,ib,by rw[c2];exact hxD⟩
      . rintro ⟨c0,b,ha,ib,iab⟩
        have hm:[p,c0]∈ms:=hp.mem_iff.mpr (zEw.mpr ⟨p,c0,rfl,ha⟩)
        refine⟨[p,c0],zAs.mpr ⟨hm,zW ?_⟩,rfl⟩
        have hadj:=G.adj ha
        have lp:=Len.uniq (L.len p hadj.2.2.1 hadj.2.2.2.1) (show Len ts y p (some b) from WM.IsD.symm ib)
        show c0+(fnl kn p).getD 0=d
        rw[lp]
        exact WM.IsD.uniq iab hxD
noncomputable def zCf (H:Hp)(rs:List Addr)(M:lLO):Prop:=rs.length=M.length/\∀(i:Nat)(r:Addr)(row:List (Option Int)),rs[i]? = some r->M[i]? = some row->H r=some (.tup (row.map oV))
variable {rs:List Addr}
theorem zCf.smT {M:lLO}(h:zCf H rs M)(k:SmT H H'):zCf H' rs M:=⟨h.1,fun i r row a b=>k.get (h.2 i r row a b) (by intro ps z;cases z)⟩
noncomputable def zG5 (PT:Addr):Sp:=fun vs H Q _=>∃(wa:Addr)(n:Int)(ts:List T3),vs=[.ref wa]/\zBw H wa n ts/\Tb H PT /\
 ∀(l:Addr)(rs:List Addr)(M:lLO)(H':Hp),SmT H H'->Tb H' PT->H' l=some (.tup (rs.map V.ref))->zCf H' rs M->Rows ts n M->Q (.ref l) H'
theorem scLens:zAO ["web"] ["web"] (defScope zHT):=fS0
theorem zMO {fF:Addr}{fdF:FuncData}(F:Fun K "lengths" "lengths" zHT f fd') (FF:Fun K "lengths_from" "lengths_from" zIM fF fdF) (bF:zAU K fdF ["web", "start"] []) (mF:mg "lengths_from" = some (.ref fF)) (GF:zAg P w K mg base CX0 3 fF fdF ["web", "start"] (zH3 PT))
 (mRange:mg "range" = none) (mTuple:mg "tuple" = none):zAg P w K mg base CX0 4 f fd' ["web"] (zG5 PT):=by
 refine F.ok scLens (fun vs H Q E h=>?_) (fun cdv A outer s H vs Q E hr h=>?_)
 . obtain⟨wa,n,ts,rfl,_⟩:=h
   rfl
 . obtain⟨wa,n,ts,rfl,W,T,k⟩:=h
   obtain⟨ta,tys,hwa,_,_,G⟩:=id W
   have hn24:=G.n24
   have hn1:=G.n1
   refine⟨_,zd (zAJ (zAc zAI mTuple (zE
    (zBH (own:=["place"]) (cn:=["web"]) (ci:=[0]) rfl (csc rfl rfl) ⟨rfl,rfl,rfl,trivial⟩ rfl
     (zA5 rfl mRange (zE (zAT zAy (pv 0) zz (fun _ _=>rfl)) zM)) (fun _ _ _ _=>zAA (i:=0) (zB4 rfl) rfl (Or.inl rfl)) (fun _ _ _ _=>zB2)
     (fun _ _ _ _=>zy GF hr rfl mF FF.kp bF .nil zAt (zE (pv 1) (zE (pv 0) zM)))) zM))),?_⟩
   refine⟨_,rfl,wa,_,_,_,rfl,rfl,SqT.of hwa,rfl,n,rfl,by omega,by omega,[.ref wa],rfl,fun D hD=>?_⟩
   refine zBV (lo:=0) (n:=n.toNat) (fun q ys H1=>q<=n.toNat/\∃(rs:List Addr)(M:lLO),ys=rs.map V.ref/\rs.length=q/\zCf H1 rs M/\(∀x:Nat,x<q->zJf ts n x (M.getD x []))/\SmT H H1/\Tb H1 PT/\H1 D=some (.lst ys))
    ⟨zg _,[],[],rfl,rfl,⟨rfl,fun i r row h=>by simp at h⟩,fun x hx=>absurd hx (zBz _),SmT.of (zH hD),T.same (zH hD),zJ⟩ (fun q ys H1 h=>?_) (fun q ys H1 hq h=>?_) (fun ys H1 h=>?_)
   . obtain⟨hq,rs,M,rfl,hl,_⟩:=h
     rw[zB,hl]
     exact zl (by omega)
   . obtain⟨_,rs,M,rfl,hl,R,L,sm,T1,hD1⟩:=h
     rw[zAn]
     refine⟨⟨rfl,rfl⟩,?_⟩
     refine zGa ?_
     refine⟨_,rfl,_,rfl,wa,n,ts,q,rfl,W.smT sm,by omega,by omega,T1,fun l kn H2 sm2 T2 hl2 L2=>?_⟩
     have hD2:H2 D=some (.lst (rs.map V.ref)):=sm2.get hD1 (by intro ps z;cases z)
     refine⟨hD2,hq,rs++[l],M++[kn],by rw[zR];rfl,by rw[zO,hl];rfl,⟨by rw[zO,zO,R.1];rfl,fun i r row h1 h2=>?_⟩,fun x hx=>?_,(sm.trans sm2).chg hD,T2.chg hD2,zJ⟩
     . have key:H2 r=some (.tup (row.map oV)):=by
        by_cases hi:i<rs.length
        . rw[zh hi] at h1
          rw[zh (by rw[<-R.1];exact hi)] at h2
          exact sm2.get (R.2 i r row h1 h2) (by intro ps z;cases z)
        . rw[za (by omega)] at h1
          rw[za (by rw[<-R.1];omega),<-R.1] at h2
          cases hz:i-rs.length with
          | zero=>
           rw[hz] at h1 h2
           have e1:l=r:=by simpa using h1
           have e2:kn=row:=by simpa using h2
           subst e1 e2
           exact hl2
          | succ k=>rw[hz] at h1;simp at h1
       rw[zk (zBu key hD2 (by intro z;cases z))]
       exact key
     . by_cases hx':x<q
       . rw[zF,zh (by rw[<-R.1,hl];exact hx'),<-zF]
         exact L x hx'
       . have e:x=q:=by omega
         subst e
         rw[zF,za (by rw[<-R.1,hl];exact zI _),<-R.1,hl]
         simpa using L2
   . obtain⟨_,rs,M,rfl,hl,R,L,sm,T1,hD1⟩:=h
     refine⟨D,_,rfl,.inl ⟨SqL.of hD1,fun q hq=>?_⟩⟩
     refine k q rs M _ (sm.trans (SmT.of (zH hq))) (T1.same (zH hq)) zJ (R.smT (SmT.of (zH hq))) ⟨by rw[<-R.1,hl],fun x hx hx'=>?_⟩
     have:=L x.toNat (by omega)
     rw[show ((x.toNat:Nat):Int)=x by omega] at this
     exact this
noncomputable def numD:PyData->Bool
 | .int _=>true
 | _=>false
noncomputable def zBT (d:PyData)(a b:Int):Bool:=match d with
 | .int i=>decide (a<=i) && decide (i<=b)
 | _=>false
noncomputable def tupD (d:PyData):Bool:=match d with
 | .tuple _=>true
 | _=>false
noncomputable def tupN (d:PyData)(n:Int):Bool:=match d with
 | .tuple ds=>decide ((ds.length:Int)=n)
 | _=>false
theorem zDB {ds:List PyData}(h:zA1 H xs ds):xs.length=ds.length:=by
 induction xs generalizing ds with
 | nil=>cases h;rfl
 | cons x xs ih=>
  cases h with
  | cons a b=>rw[zn,zn,ih b]
variable {i:Nat}{d:PyData}
theorem zD1 {ds:List PyData}(h:zA1 H xs ds)(e:ds[i]? = some d):∃x,xs[i]? = some x/\zBj H x d:=by
 induction xs generalizing ds i with
 | nil=>cases h;simp at e
 | cons x xs ih=>
  cases h with
  | cons a b=>
   cases i with
   | zero=>
    simp at e
    subst e
    exact⟨x,rfl,a⟩
   | succ i=>exact ih b (by simpa using e)
variable {v:V}
theorem zCO (k:zAw H H')(s:zBj H v d):zBj H' v d:=
 zBj.rec (motive_1:=fun v d _=>zBj H' v d) (motive_2:=fun xs ds _=>zA1 H' xs ds) .non (fun b=>.bl b) (fun i=>.int i) (fun x=>.str x) (fun e _ ih=>.tup (k _ _ e) ih) (fun e _ ih=>.lst (k _ _ e) ih) .nil (fun _ _ i1 i2=>.cons i1 i2) s
theorem zEy (s:zBj H v d):∃t bi bb bt:_,zGT K H v t/\PySem.W.kitOne K t (.type "int")=some bi/\PySem.W.kitOne K t (.type "bool")=some bb/\PySem.W.kitOne K t (.type "tuple")=some bt/\(bi && !bb)=numD d/\bt=tupD d/\(numD d=true->∃i,v = .int i/\d = .int i)/\(tupD d=true->∃a xs ds,v = .ref a/\H a=some (.tup xs)/\d = .tuple ds/\zA1 H xs ds):=by
 cases s with
 | non=>exact⟨_,_,_,_,.non,rfl,rfl,rfl,rfl,rfl,(fun z=>by cases z),(fun z=>by cases z)⟩
 | bl b=>exact⟨_,_,_,_,.bl b,rfl,rfl,rfl,rfl,rfl,(fun z=>by cases z),(fun z=>by cases z)⟩
 | int i=>exact⟨_,_,_,_,.int i,rfl,rfl,rfl,rfl,rfl,(fun z=>⟨i,rfl,rfl⟩),(fun z=>by cases z)⟩
 | str x=>exact⟨_,_,_,_,.str x,rfl,rfl,rfl,rfl,rfl,(fun z=>by cases z),(fun z=>by cases z)⟩
 | tup e al=>exact⟨_,_,_,_,.tup e,rfl,rfl,rfl,rfl,rfl,(fun z=>by cases z),(fun z=>⟨_,_,_,rfl,e,rfl,al⟩)⟩
 | lst e al=>exact⟨_,_,_,_,.lst e,rfl,rfl,rfl,rfl,rfl,(fun z=>by cases z),(fun z=>by cases z)⟩
noncomputable def spNum:Sp:=fun vs H Q _=>∃(v:V)(d:PyData),vs=[v]/\zBj H v d/\Q (.bl (numD d)) H
noncomputable def spWi:Sp:=fun vs H Q _=>∃(v:V)(d:PyData)(a b:Int),vs=[v,.int a,.int b]/\zBj H v d/\Q (.bl (zBT d a b)) H
noncomputable def zLe:Sp:=fun vs H Q _=>∃(v:V)(d:PyData)(n:Int),vs=[v,.int n]/\zBj H v d/\Q (.bl (tupN d n)) H
theorem scNum:zAO ["thing"] ["thing"] (defScope sNum):=fS0
theorem ok_num (F:Fun K "is_number" "is_number" sNum f fd') (mIsi:mg "isinstance" = none) (mInt:mg "int" = none) (mBool:mg "bool" = none):zAg P w K mg base CX0 1 f fd' ["thing"] spNum:=by
 refine F.ok scNum (fun vs H Q E h=>?_) (fun cdv A outer s H vs Q E hr h=>?_)
 . obtain⟨v,d,rfl,_⟩:=h
   rfl
 . obtain⟨v,d,rfl,S,k⟩:=h
   obtain⟨t,bi,bb,bt,ty,e1,e2,_,e4,_⟩:=zEy (K:=K) S
   refine⟨_,zd (zAJ (zDG (zj zAK mIsi (zE (pv 0) (zE (zBE (T := "int") mInt) zM)))
    (zDF (pe_not (zj zAK mIsi (zE (pv 0) (zE (zBE (T := "bool") mBool) zM))))))),?_⟩
   refine⟨_,rfl,_,_,t,bi,rfl,ty,e1,bi,rfl,?_⟩
   rw[<-e4] at k
   cases bi with
   | false=>exact zCw k
   | true=>exact zCt ⟨_,rfl,_,_,t,bb,rfl,ty,e2,bb,rfl,k⟩
theorem scWi:zAO ["thing", "least", "most"] ["thing", "least", "most"] (defScope sWi):=fS0
theorem ok_wi (F:Fun K "is_within" "is_within" sWi f fd') (FN:Fun K "is_number" "is_number" sNum fN fdN) (bN:zAU K fdN ["thing"] []) (mN:mg "is_number" = some (.ref fN)) (mIsi:mg "isinstance" = none) (mInt:mg "int" = none) (mBool:mg "bool" = none) :
 zAg P w K mg base CX0 2 f fd' ["thing", "least", "most"] spWi:=by
 have GN:zAg P w K mg base CX0 1 fN fdN ["thing"] spNum:=ok_num FN mIsi mInt mBool
 refine F.ok scWi (fun vs H Q E h=>?_) (fun cdv A outer s H vs Q E hr h=>?_)
 . obtain⟨v,d,a,b,rfl,_⟩:=h
   rfl
 . obtain⟨v,d,a,b,rfl,S,k⟩:=h
   refine⟨_,zd (zAJ (zDG (zy GN hr rfl mN FN.kp bN .nil zAt (zE (pv 0) zM)) (zDG (zBq zKE (pv 1) (pv 0) (zAd _)) (zDF (zBq zKE (pv 0) (pv 2) (zAd _)))))),?_⟩
   refine⟨_,rfl,v,d,rfl,S,numD d,rfl,?_⟩
   obtain⟨_,_,_,_,_,_,_,_,_,_,hi,_⟩:=zEy (K:=K) S
   cases hn:numD d with
   | false=>
    refine zCw ?_
    have:zBT d a b=false:=by
     cases d <;> first | rfl | cases hn
    rw[this] at k
    exact k
   | true=>
    refine zCt ?_
    obtain⟨i,rfl,rfl⟩:=hi hn
    have k':Q (.bl (decide (a<=i) && decide (i<=b))) H:=k
    refine⟨_,rfl,_,rfl,_,_,rfl,rfl,_,rfl,?_⟩
    by_cases c:a<=i
    . rw[zW c,Bool.true_and] at k'
      exact ifT (zW c) ⟨_,rfl,_,rfl,_,_,rfl,rfl,k'⟩
    . rw[zu c,Bool.false_and] at k'
      exact ifF (zu c) k'
theorem scTof:zAO ["thing", "count"] ["thing", "count"] (defScope sTof):=fS0
theorem ok_tof (F:Fun K "is_tuple_of" "is_tuple_of" sTof f fd') (mIsi:mg "isinstance" = none) (mTuple:mg "tuple" = none) (mLen:mg "len" = none):zAg P w K mg base CX0 1 f fd' ["thing", "count"] zLe:=by
 refine F.ok scTof (fun vs H Q E h=>?_) (fun cdv A outer s H vs Q E hr h=>?_)
 . obtain⟨v,d,n,rfl,_⟩:=h
   rfl
 . obtain⟨v,d,n,rfl,S,k⟩:=h
   obtain⟨t,bi,bb,bt,ty,_,_,e3,_,e5,_,ht⟩:=zEy (K:=K) S
   refine⟨_,zd (zAJ (zDG (zj zAK mIsi (zE (pv 0) (zE (zBE (T := "tuple") mTuple) zM)))
    (zDF (zBq zCr (zj zAS mLen (zE (pv 0) zM)) (pv 1) (zAd _))))),?_⟩
   refine⟨_,rfl,_,_,t,bt,rfl,ty,e3,bt,rfl,?_⟩
   rw[e5]
   cases hn:tupD d with
   | false=>
    refine zCw ?_
    have:tupN d n=false:=by
     cases d <;> first | rfl | cases hn
    rw[this] at k
    exact k
   | true=>
    refine zCt ?_
    obtain⟨a,xs,ds,rfl,ha,rfl,al⟩:=ht hn
    refine⟨_,rfl,a,xs,rfl,.inr (SqT.of ha),_,rfl,rfl,?_⟩
    rw[zDy,zDB al]
    exact k
structure Ordr (n:Int)(os:List Int):Prop where
 ln:os.length=n.toNat
 nd:os.Nodup
 rng:∀p∈os,0<=p/\p<n
noncomputable def IsOrd (n:Int)(d:PyData):Prop:=∃os:List Int,d = .tuple (os.map PyData.int)/\Ordr n os
noncomputable def zLf:Sp:=fun vs H Q _=>∃(wa p:Addr)(n:Int)(ts:List T3)(os:List Int),vs=[.ref wa,.ref p]/\zBw H wa n ts/\H p=some (.tup (os.map V.int))/\Ordr n os/\∀H',zAw H H'->Q (.bl true) H'
noncomputable def zH1:Sp:=fun vs H Q _=>∃(wa:Addr)(v:V)(d:PyData)(n:Int)(ts:List T3),vs=[.ref wa,v]/\zBw H wa n ts/\zBj H v d/\∀(b:Bool) H',(b=true↔IsOrd n d)->zAw H H'->Q (.bl b) H'
noncomputable def spPl:Sp:=fun vs H Q _=>∃(n:Int)(v:V)(d:PyData),vs=[.int n,v]/\zBj H v d/\Q (.bl (zBT d 0 (n-1))) H
theorem zHP {b:Int}(h:zBT d a b=true):∃i,d = .int i/\a<=i/\i<=b:=by
 cases d with
 | int i=>
  have h':(decide (a<=i) && decide (i<=b))=true:=h
  rw[zAf,decide_eq_true_iff,decide_eq_true_iff] at h'
  exact⟨i,rfl,h'.1,h'.2⟩
 | _=>cases h
theorem zGp {n:Int}:∀{ds:List PyData},(ds.all fun d=>zBT d 0 (n-1))=true->∃os:List Int,ds=os.map PyData.int/\∀p∈os,0<=p/\p<n
 | [],_=>⟨[],rfl,fun p h=>by cases h⟩
 | d::ds,h=>by
  rw[List.all_cons,zAf] at h
  obtain⟨i,rfl,h0,h1⟩:=zHP h.1
  obtain⟨os,rfl,hr⟩:=zGp h.2
  refine⟨i::os,rfl,fun p hp=>?_⟩
  rcases zV.mp hp with rfl | hp
  . exact⟨h0,by omega⟩
  . exact hr p hp
theorem zFX {n:Int}:∀{os:List Int},(∀p∈os,0<=p/\p<n)->((os.map PyData.int).all fun d=>zBT d 0 (n-1))=true
 | [],_=>rfl
 | i::os,h=>by
  rw[zAX,List.all_cons,zAf]
  have:=h i zZ
  refine⟨?_,zFX fun p hp=>h p (zc _ hp)⟩
  show (decide (0<=i) && decide (i<=n-1))=true
  rw[zAf,decide_eq_true_iff,decide_eq_true_iff]
  omega
theorem zDV:∀{a b:List Int},a.map PyData.int=b.map PyData.int->a=b
 | [],[],_=>rfl
 | [],_::_,h=>by cases h
 | _::_,[],h=>by cases h
 | x::a,y::b,h=>by
  rw[zAX,zAX] at h
  injection h with h1 h2
  injection h1 with h1
  rw[h1,zDV h2]
theorem zEn {H:Hp}:∀{xs:List V}{os:List Int},zA1 H xs (os.map PyData.int)->xs=os.map V.int
 | [],[],_=>rfl
 | [],_::_,h=>by cases h
 | _::_,[],h=>by cases h
 | x::xs,o::os,h=>by
  cases h with
  | cons a b=>
   cases a
   rw[zEn b]
   rfl
theorem zDK {val:Nat->Int}:∀{k:Nat},(PyProof.Rows.firstMet val k).length=k->((List.range k).map val).Nodup/\PyProof.Rows.firstMet val k=(List.range k).map val
 | 0,_=>⟨by simp,rfl⟩
 | k+1,h=>by
  rw[PyProof.Rows.firstMet_succ] at h ⊢
  have hl:=PyProof.Rows.firstMet_length_le val k
  unfold PyProof.Rows.step_dedup at h ⊢
  by_cases c:((PyProof.Rows.firstMet val k).any fun x=>x==val k)=true
  . rw[if_pos c] at h
    omega
  . rw[if_neg c] at h ⊢
    rw[zO] at h
    obtain⟨h1,h2⟩:=zDK (val:=val) (k:=k) (by simpa using h)
    rw[List.range_succ,zR]
    refine⟨?_,by rw[h2];rfl⟩
    rw[h2] at c
    refine List.nodup_append.mpr ⟨h1,by simp,fun a ha b hb=>?_⟩
    have eb:b=val k:=by simpa using hb
    rw[eb]
    rintro rfl
    exact c (by simpa using ha)
theorem zKP (os:List Int):(List.range os.length).map (fun i=>os.getD i 0)=os:=by
 apply List.ext_getElem
 . simp
 . intro i h1 h2
   simp[zF,h2]
theorem scPl:zAO ["n", "thing"] ["n", "thing"] (defScope sPl):=fS0
theorem ok_pl {fW:Addr}{fdW:FuncData}(F:Fun K "is_place" "is_place" sPl f fd') (FW:Fun K "is_within" "is_within" sWi fW fdW) (bW:zAU K fdW ["thing", "least", "most"] []) (mW:mg "is_within" = some (.ref fW)) (FN:Fun K "is_number" "is_number" sNum fN fdN) (bN:zAU K fdN ["thing"] []) (mN:mg "is_number" = some (.ref fN)) (mIsi:mg "isinstance" = none) (mInt:mg "int" = none) (mBool:mg "bool" = none) :
 zAg P w K mg base CX0 3 f fd' ["n", "thing"] spPl:=by
 have GW':zAg P w K mg base CX0 2 fW fdW ["thing", "least", "most"] spWi:=ok_wi FW FN bN mN mIsi mInt mBool
 refine F.ok scPl (fun vs H Q E h=>?_) (fun cdv A outer s H vs Q E hr h=>?_)
 . obtain⟨n,v,d,rfl,_⟩:=h
   rfl
 . obtain⟨n,v,d,rfl,S,k⟩:=h
   refine⟨_,zd (zAJ (zy GW' hr rfl mW FW.kp bW .nil zAt (zE (pv 1) (zE zz (zE (zA3 zLC (pv 0) zz) zM))))),?_⟩
   exact⟨_,rfl,_,rfl,_,_,rfl,rfl,v,d,0,n-1,rfl,S,k⟩
theorem scOrd:zAO ["web", "thing", "n"] ["web", "thing"] (defScope sOrd):=fS0
theorem zMJ {fT fP:Addr}{fdP:FuncData}(F:Fun K "is_order" "is_order" sOrd f fd') (FT:Fun K "is_tuple_of" "is_tuple_of" sTof fT fdT) (bT:zAU K fdT ["thing", "count"] []) (mT:mg "is_tuple_of" = some (.ref fT)) (GT:zAg P w K mg base CX0 3 fT fdT ["thing", "count"] zLe)
 (FP:Fun K "is_place" "is_place" sPl fP fdP) (bP:zAU K fdP ["n", "thing"] []) (mP:mg "is_place" = some (.ref fP)) (GP:zAg P w K mg base CX0 3 fP fdP ["n", "thing"] spPl)
 (mLen:mg "len" = none) (mAll:mg "all" = none) (mSet:mg "set" = none):zAg P w K mg base CX0 4 f fd' ["web", "thing"] zH1:=by
 refine F.ok scOrd (fun vs H Q E h=>?_) (fun cdv A outer s H vs Q E hr h=>?_)
 . obtain⟨wa,v,d,n,ts,rfl,_⟩:=h
   rfl
 . obtain⟨wa,v,d,n,ts,rfl,W,S,k⟩:=h
   obtain⟨ta,tys,hwa,_,_,G⟩:=id W
   have hn1:=G.n1
   have hn24:=G.n24
   refine⟨_,zS (zAa (i:=2) scOrd.nd rfl (Or.inr rfl) (zAT zAy (pv 0) zz (fun _ _=>rfl)))
    (zS (zBn (PW.pt (zEc (zCB (zBx (zy GT hr rfl mT FT.kp bT .nil zAt (zE (pv 1) (zE (pv 2) zM)))))
     (zDb (zCB (zBx (zj (zC2 rfl) mAll (zE (zBH (own:=["place"]) (cn:=["n"]) (ci:=[2]) rfl (csc rfl rfl) ⟨rfl,rfl,rfl,trivial⟩ rfl (zB9 (pv 1)) (fun _ _ _ _=>zAA (i:=0) (zB4 rfl) rfl (Or.inl rfl))
      (fun _ _ _ _=>zB2) (fun _ _ _ _=>zy GP hr rfl mP FP.kp bP .nil zAt (zE (pv 1) (zE (pv 0) zM)))) zM))))))) (zd (zAJ zCc)) zAh)
    (zd (zAJ (zBq zCr (zj zJP mLen (zE (zAc (zJO rfl) mSet (zE (pv 1) zM)) zM)) (pv 2) (zAd _))))),?_⟩
   refine⟨_,rfl,wa,_,_,_,rfl,rfl,SqT.of hwa,rfl,?_⟩
   refine⟨_,rfl,_,rfl,v,d,n,rfl,S,tupN d n,rfl,?_⟩
   cases hn:tupN d n with
   | false=>
    refine zCt (zCt ?_)
    refine k false H ⟨(fun z=>by cases z),?_⟩ (zAw.refl _)
    rintro ⟨os,rfl,O⟩
    have hn':decide (((os.map PyData.int).length:Int)=n)=false:=hn
    rw[zB,O.ln] at hn'
    exact absurd (of_decide_eq_false hn') (by omega)
   | true=>
    refine zCw ?_
    obtain⟨ds,rfl,hl⟩:∃ds,d = .tuple ds/\(ds.length:Int)=n:=by
     cases d with
     | tuple ds=>
      have hn':decide ((ds.length:Int)=n)=true:=hn
      exact⟨ds,rfl,of_decide_eq_true hn'⟩
     | _=>cases hn
    cases S with
    | @tup a xs _ ha al=>
     have hxl:=zDB al
     refine⟨_,rfl,a,rfl,⟨_,SqT.of ha⟩,[.int n],rfl,fun D hD=>?_⟩
     refine zCE (a:=a) (xs:=xs) (fun i ys H4=>ys=((ds.take i).map fun x=>zBT x 0 (n-1)).map V.bl/\H4=upd H D (.lst ys)) ⟨rfl,rfl⟩ (fun i ys H4 z=>?_) (fun i ys H4 z=>?_) (fun i x ys H4 hx z=>?_) (fun ys H4 z=>?_)
     . obtain⟨_,rfl⟩:=z
       exact SqT.of (zH hD _ _ ha)
     . obtain⟨rfl,_⟩:=z
       rw[zB,zB,zw]
       exact zl (by omega)
     . obtain⟨rfl,rfl⟩:=z
       have hi:i<ds.length:=by have:=(zK.mp hx).1;omega
       obtain⟨x',hx',Sx⟩:=zD1 al (zD hi)
       rw[hx] at hx'
       cases hx'
       refine⟨⟨rfl,rfl⟩,?_⟩
       refine zGa ?_
       refine⟨_,rfl,_,rfl,n,x,ds[i],rfl,zCO (zH hD) Sx,zJ,?_,zB8⟩
       rw[zAH,zD hi,zR,zR];rfl
     . obtain⟨rfl,rfl⟩:=z
       rw[hxl,zY (zI _)]
       refine⟨D,_,rfl,SqL.of zJ,(ds.map fun x=>zBT x 0 (n-1)).all id,rfl,?_⟩
       have ea:(ds.map fun x=>zBT x 0 (n-1)).all id=ds.all fun x=>zBT x 0 (n-1):=by rw[List.all_map];rfl
       rw[ea]
       have sD:=zH (o:=.lst ((ds.map fun x=>zBT x 0 (n-1)).map V.bl)) hD
       generalize upd H D (.lst ((ds.map fun x=>zBT x 0 (n-1)).map V.bl))=H4 at sD ⊢
       cases hall:(ds.all fun x=>zBT x 0 (n-1)) with
       | false=>
        refine zCt (k false _ ⟨(fun z=>by cases z),?_⟩ sD)
        rintro ⟨os,e,O⟩
        cases e
        rw[zFX O.rng] at hall
        cases hall
       | true=>
        refine zCw ?_
        obtain⟨os,rfl,hr'⟩:=zGp hall
        have hxs:=zEn al
        subst hxs
        rw[zB] at hl
        refine⟨_,rfl,a,os,rfl,SqT.of (sD _ _ ha),by omega,fun dd SS hdd=>?_⟩
        refine⟨dd,SS,_,rfl,zJ,_,rfl,rfl,?_⟩
        refine k _ _ ?_ (sD.trans (zH hdd))
        rw[zDy,decide_eq_true_iff]
        constructor
        . intro z
          obtain⟨nd,_⟩:=zDK (val:=fun i=>os.getD i 0) (k:=os.length) (by omega)
          rw[zKP] at nd
          exact⟨os,rfl,by omega,nd,hr'⟩
        . rintro ⟨os',e,O⟩
          have e':=zDV (PyData.tuple.inj e)
          subst e'
          rw[zEO O.nd os.length (zI _),zY (zI _)]
          exact hl
theorem zIf {k:Nat}(F:zAg P w K mg base CX0 k f fd' ["web", "thing"] zH1):zAg P w K mg base CX0 k f fd' ["web", "thing"] zLf:=F.imp fun vs H Q E h=>by
 obtain⟨wa,p,n,ts,os,rfl,W,hp,O,k⟩:=h
 have al:∀os:List Int,zA1 H (os.map V.int) (os.map PyData.int):=fun os=>by
  induction os with
  | nil=>exact .nil
  | cons a r ih=>exact .cons (.int a) ih
 refine⟨wa,.ref p,.tuple (os.map PyData.int),n,ts,rfl,W,.tup hp (al os),fun b H' hb s=>?_⟩
 rw[hb.mpr ⟨os,rfl,O⟩]
 exact k H' s
noncomputable def zJy:List Int->Bool
 | a::b::r=>decide (a<b) && zJy (b::r)
 | _=>true
theorem zIR:∀(ms:List Int),zJy ms=(List.range (ms.length-1)).all fun k=>decide (ms.getD k 0<ms.getD (k+1) 0)
 | []=>rfl
 | [_]=>rfl
 | a::b::r=>by
  show (decide (a<b) && zJy (b::r))=_
  rw[zIR (b::r)]
  show _=(List.range (r.length+1)).all _
  rw[List.range_succ_eq_map,List.all_cons,List.all_map]
  rfl
theorem zHA:∀(ms:List Int),zJy ms=true↔ms.Pairwise (· < ·)
 | []=>by simp[zJy]
 | [_]=>by simp[zJy]
 | a::b::r=>by
  have ih:=zHA (b::r)
  show (decide (a<b) && zJy (b::r))=true↔_
  rw[zAf,ih,decide_eq_true_iff,zBp (a:=a)]
  constructor
  . rintro ⟨h1,h2⟩
    refine⟨fun x hx=>?_,h2⟩
    rcases zV.mp hx with rfl | hx
    . exact h1
    . have:=(zBp.mp h2).1 x hx
      omega
  . rintro ⟨h1,h2⟩
    exact⟨h1 b zZ,h2⟩
noncomputable def spRis:Sp:=fun vs H Q _=>∃(p:Addr)(xs:List Int),vs=[.ref p]/\H p=some (.tup (xs.map V.int))/\xs.length<=1000/\∀H',zAw H H'->Q (.bl (zJy xs)) H'
theorem scRis:zAO ["things"] ["things"] (defScope sRis):=fS0
theorem ok_ris (F:Fun K "is_rising" "is_rising" sRis f fd') (mLen:mg "len" = none) (mRange:mg "range" = none) (mAll:mg "all" = none):zAg P w K mg base CX0 1 f fd' ["things"] spRis:=by
 refine F.ok scRis (fun vs H Q E h=>?_) (fun cdv A outer s H vs Q E hr h=>?_)
 . obtain⟨p,xs,rfl,_⟩:=h
   rfl
 . obtain⟨p,xs,rfl,hp,hl,k⟩:=h
   refine⟨_,zd (zAJ (zj (zC2 rfl) mAll (zE (zBH (own:=["k"]) (cn:=["things"]) (ci:=[0]) rfl (csc rfl rfl) ⟨rfl,rfl,rfl,trivial⟩ rfl
    (zFw rfl mRange (zE zz (zE (zj zAS mLen (zE (pv 0) zM)) zM))) (fun _ _ _ _=>zAA (i:=0) (zB4 rfl) rfl (Or.inl rfl)) (fun _ _ _ _=>zB2)
    (fun _ _ _ _=>zBq zIZ (zAT zCJ (pv 1) (zA3 zLC (pv 0) zz) (fun _ _=>rfl)) (zAT zCJ (pv 1) (pv 0) (fun _ _=>rfl)) (zAd _))) zM))),?_⟩
   refine⟨_,rfl,p,_,rfl,.inr (SqT.of hp),1,_,rfl,⟨by decide,by decide,by rw[zB];omega,by rw[zB];omega⟩,[.ref p],rfl,fun D hD=>?_⟩
   refine zBV (lo:=1) (n:=(((xs.map V.int).length:Int)-1).toNat) (fun q ys H4=>q<=(((xs.map V.int).length:Int)-1).toNat/\ys=((List.range q).map fun k=>decide (xs.getD k 0<xs.getD (k+1) 0)).map V.bl/\H4=upd H D (.lst ys)) ⟨zg _,rfl,rfl⟩ (fun q ys H4 z=>?_) (fun q ys H4 hq z=>?_) (fun ys H4 z=>?_)
   . obtain⟨hq,rfl,_⟩:=z
     rw[zB] at hq
     rw[zB,zB,zAV]
     exact zl (by omega)
   . obtain⟨_,rfl,rfl⟩:=z
     rw[zB] at hq
     have hp4:=zH (o:=.lst (((List.range q).map fun k=>decide (xs.getD k 0<xs.getD (k+1) 0)).map V.bl)) hD _ _ hp
     have h1:q<xs.length:=by omega
     have h2:q+1<xs.length:=by omega
     refine⟨⟨rfl,rfl⟩,?_⟩
     refine zGa ?_
     refine⟨_,rfl,_,rfl,_,_,rfl,rfl,p,_,_,.int xs[q],rfl,rfl,SqT.of hp4,zAv (by omega) (by rw[show ((1:Int)+q-1).toNat=q by omega,zP,zD h1];rfl),_,rfl,_,rfl,p,_,_,.int xs[q+1],rfl,rfl,SqT.of hp4,zAv (by omega) (by rw[show ((1:Int)+q).toNat=q+1 by omega,zP,zD h2];rfl),_,_,rfl,rfl,zJ,by rw[zB];omega,?_,zB8⟩
     have d1:xs.getD q 0=xs[q]:=by rw[zF,zD h1];rfl
     have d2:xs.getD (q+1) 0=xs[q+1]:=by rw[zF,zD h2];rfl
     rw[List.range_succ,zR,zR]
     show _=_++[V.bl (decide (xs.getD q 0<xs.getD (q+1) 0))]
     rw[d1,d2]
   . obtain⟨_,rfl,rfl⟩:=z
     refine⟨D,_,rfl,SqL.of zJ,?_⟩
     have e:(((List.range (((xs.map V.int).length:Int)-1).toNat).map fun k=>decide (xs.getD k 0<xs.getD (k+1) 0)).all id)=zJy xs:=by
      rw[zIR,List.all_map,zB,show ((xs.length:Int)-1).toNat=xs.length-1 by omega]
      rfl
     rw[e]
     exact k _ (zH hD)
structure zGz (n:Int)(ps:List Int):Prop where
 ne:ps≠[]
 ln:(ps.length:Int)<=n
 rng:∀p∈ps,0<=p/\p<n
 rise:ps.Pairwise (· < ·)
noncomputable def zMt (n:Int)(d:PyData):Prop:=∃ps:List Int,d = .tuple (ps.map PyData.int)/\zGz n ps
noncomputable def zH5:Sp:=fun vs H Q _=>∃(n:Int)(v:V)(d:PyData),vs=[.int n,v]/\zBj H v d/\0<=n/\n<=24/\∀(b:Bool) H',(b=true↔zMt n d)->zAw H H'->Q (.bl b) H'
theorem scArp:zAO ["n", "thing"] ["n", "thing"] (defScope sArp):=fS0
theorem zMV {fP fR:Addr}{fdP fdR:FuncData}(F:Fun K "are_places" "are_places" sArp f fd') (FP:Fun K "is_place" "is_place" sPl fP fdP) (bP:zAU K fdP ["n", "thing"] []) (mP:mg "is_place" = some (.ref fP)) (GP:zAg P w K mg base CX0 3 fP fdP ["n", "thing"] spPl)
 (FR:Fun K "is_rising" "is_rising" sRis fR fdR) (bR:zAU K fdR ["things"] []) (mR:mg "is_rising" = some (.ref fR)) (mIsi:mg "isinstance" = none) (mTuple:mg "tuple" = none) (mLen:mg "len" = none) (mRange:mg "range" = none) (mAll:mg "all" = none) :
 zAg P w K mg base CX0 4 f fd' ["n", "thing"] zH5:=by
 have GR:zAg P w K mg base CX0 3 fR fdR ["things"] spRis:=(ok_ris FR mLen mRange mAll).mono (by decide)
 refine F.ok scArp (fun vs H Q E h=>?_) (fun cdv A outer s H vs Q E hr h=>?_)
 . obtain⟨n,v,d,rfl,_⟩:=h
   rfl
 . obtain⟨n,v,d,rfl,S,hn0,hn,k⟩:=h
   refine⟨_,zS (zBn (PW.pt (zEc (zCB (zBx (zj zAK mIsi (zE (pv 1) (zE (zBE (T := "tuple") mTuple) zM)))))
    (zEc (zAN zCr (zj zAS mLen (zE (pv 1) zM)) zz (zAd _))
    (zDb (zAN zL5 (zj zAS mLen (zE (pv 1) zM)) (pv 0) (zAd _)))))) (zd (zAJ zCc)) zAh)
    (zd (zAJ (zDG (zj (zC2 rfl) mAll (zE (zBH (own:=["place"]) (cn:=["n"]) (ci:=[0]) rfl (csc rfl rfl) ⟨rfl,rfl,rfl,trivial⟩ rfl
     (zB9 (pv 1)) (fun _ _ _ _=>zAA (i:=0) (zB4 rfl) rfl (Or.inl rfl)) (fun _ _ _ _=>zB2)
     (fun _ _ _ _=>zy GP hr rfl mP FP.kp bP .nil zAt (zE (pv 1) (zE (pv 0) zM)))) zM))
     (zDF (zy GR hr rfl mR FR.kp bR .nil zAt (zE (pv 1) zM)))))),?_⟩
   obtain⟨t,bi,bb,bt,ty,_,_,e3,_,e5,_,ht⟩:=zEy (K:=K) S
   refine⟨_,rfl,_,_,t,bt,rfl,ty,e3,bt,rfl,?_⟩
   subst e5
   cases hd:tupD d with
   | false=>
    refine zCt (zCt ?_)
    refine k false H ⟨(fun z=>by cases z),?_⟩ (zAw.refl _)
    rintro ⟨ps,rfl,_⟩
    cases hd
   | true=>
    obtain⟨a,xs,ds,rfl,ha,rfl,al⟩:=ht hd
    have hxl:=zDB al
    refine zCw ?_
    refine⟨_,rfl,a,_,rfl,.inr (SqT.of ha),rfl,_,rfl,?_⟩
    refine zCz (fun c=>?_) (fun c=>?_)
    . have c':=V.int.inj (of_decide_eq_true c)
      refine zCt (k false H ⟨(fun z=>by cases z),?_⟩ (zAw.refl _))
      rintro ⟨ps,e,O⟩
      have e':=PyData.tuple.inj e
      subst e'
      rw[zB] at hxl
      exact (O.ne (zBW.mp (by omega))).elim
    have c0:xs.length≠0:=fun z=>c (by rw[z];rfl)
    refine⟨_,rfl,a,_,rfl,.inr (SqT.of ha),_,rfl,_,_,rfl,rfl,_,rfl,?_⟩
    refine zCz (fun c2=>?_) (fun c2=>?_)
    . have c':=of_decide_eq_true c2
      refine k false H ⟨(fun z=>by cases z),?_⟩ (zAw.refl _)
      rintro ⟨ps,e,O⟩
      have e':=PyData.tuple.inj e
      subst e'
      rw[zB] at hxl
      have:=O.ln
      omega
    have c1:(xs.length:Int)<=n:=Int.not_lt.mp fun z=>c2 (zW z)
    refine⟨_,rfl,a,rfl,⟨_,SqT.of ha⟩,[.int n],rfl,fun D hD=>?_⟩
    refine zCE (a:=a) (xs:=xs) (fun i ys H4=>ys=((ds.take i).map fun x=>zBT x 0 (n-1)).map V.bl/\H4=upd H D (.lst ys)) ⟨rfl,rfl⟩ (fun i ys H4 z=>?_) (fun i ys H4 z=>?_) (fun i x ys H4 hx z=>?_) (fun ys H4 z=>?_)
    . obtain⟨_,rfl⟩:=z
      exact SqT.of (zH hD _ _ ha)
    . obtain⟨rfl,_⟩:=z
      rw[zB,zB,zw]
      exact zl (by omega)
    . obtain⟨rfl,rfl⟩:=z
      have hi:i<ds.length:=by have:=(zK.mp hx).1;omega
      obtain⟨x',hx',Sx⟩:=zD1 al (zD hi)
      rw[hx] at hx'
      cases hx'
      refine⟨⟨rfl,rfl⟩,?_⟩
      refine zGa ?_
      refine⟨_,rfl,_,rfl,n,x,ds[i],rfl,zCO (zH hD) Sx,zJ,?_,zB8⟩
      rw[zAH,zD hi,zR,zR];rfl
    . obtain⟨rfl,rfl⟩:=z
      rw[hxl,zY (zI _)]
      refine⟨D,_,rfl,SqL.of zJ,(ds.map fun x=>zBT x 0 (n-1)).all id,rfl,?_⟩
      have ea:(ds.map fun x=>zBT x 0 (n-1)).all id=ds.all fun x=>zBT x 0 (n-1):=by rw[List.all_map];rfl
      rw[ea]
      have sD:=zH (o:=.lst ((ds.map fun x=>zBT x 0 (n-1)).map V.bl)) hD
      generalize upd H D (.lst ((ds.map fun x=>zBT x 0 (n-1)).map V.bl))=H4 at sD ⊢
      cases hall:(ds.all fun x=>zBT x 0 (n-1)) with
      | false=>
       refine zCw (k false _ ⟨(fun z=>by cases z),?_⟩ sD)
       rintro ⟨ps,e,O⟩
       cases e
       rw[zFX O.rng] at hall
       cases hall
      | true=>
       refine zCt ?_
       obtain⟨ps,rfl,hr'⟩:=zGp hall
       have hxs:=zEn al
       subst hxs
       rw[zB] at c0 c1
       refine⟨_,rfl,a,ps,rfl,sD _ _ ha,by omega,fun H' s'=>?_⟩
       refine k _ H' ?_ (sD.trans s')
       rw[zHA]
       constructor
       . exact fun r=>⟨ps,rfl,fun z=>c0 (by rw[z];rfl),c1,hr',r⟩
       . rintro ⟨ps',e,O⟩
         have e':=zDV (PyData.tuple.inj e)
         subst e'
         exact O.rise
noncomputable def eV (e:En):List V:=[.int e.h,.int e.l,oV e.u,oV e.d]
noncomputable def zDO (H:Hp)(as:List Addr)(es:List En):Prop:=as.length=es.length/\∀(i:Nat)(a:Addr),as[i]? = some a->∃e,es[i]? = some e/\H a=some (.tup (eV e))
noncomputable def zCs (H:Hp)(p:Addr)(es:List En):Prop:=∃as:List Addr,H p=some (.tup (as.map V.ref))/\zDO H as es/\es.length<=1000
variable {es:List En}
theorem zDO.keep {as:List Addr}(h:zDO H as es)(k:∀b ys,H b=some (.tup ys)->H' b=some (.tup ys)):zDO H' as es:=
 ⟨h.1,fun i a ha=>let ⟨e,h1,h2⟩:=h.2 i a ha;⟨e,h1,k _ _ h2⟩⟩
theorem zDO.snoc {as:List Addr}{a:Addr}{e:En}(h:zDO H as es)(ha:H a=some (.tup (eV e))):zDO H (as++[a]) (es++[e]):=by
 refine⟨by rw[zO,zO,h.1];rfl,fun i b hb=>?_⟩
 by_cases c:i<as.length
 . rw[zh c] at hb
   obtain⟨e',h1,h2⟩:=h.2 i b hb
   exact⟨e',by rw[zh (by rw[<-h.1];exact c)];exact h1,h2⟩
 . rw[za (by omega)] at hb
   have hi:i-as.length=0:=by
    cases z:i-as.length with
    | zero=>rfl
    | succ m=>rw[z] at hb;simp at hb
   rw[hi] at hb
   have:a=b:=by simpa using hb
   subst this
   exact⟨e,by rw[za (by rw[<-h.1];omega),<-h.1,hi];rfl,ha⟩
theorem zCs.keep {H H':Hp}{p:Addr}{es:List En}(h:zCs H p es)(k:∀b ys,H b=some (.tup ys)->H' b=some (.tup ys)):zCs H' p es:=
 let ⟨as,h1,h2,h3⟩:=h;⟨as,k _ _ h1,h2.keep k,h3⟩
theorem zCs.same (h:zCs H p es)(k:zAw H H'):zCs H' p es:=h.keep fun b ys e=>k _ _ e
theorem zDO.at {H:Hp}{as:List Addr}{es:List En}(h:zDO H as es){i:Nat}{v:V}(hv:(as.map V.ref)[i]? = some v):∃a e,v = .ref a/\es[i]? = some e/\H a=some (.tup (eV e)):=by
 rw[zP] at hv
 cases z:as[i]? with
 | none=>rw[z] at hv;cases hv
 | some a=>
  rw[z] at hv
  obtain⟨e,h1,h2⟩:=h.2 i a z
  exact⟨a,e,(zX hv).symm,h1,h2⟩
theorem zKQ {n:Nat}(h:n<=1000):n<sizeLine:=zAo h (by decide)
theorem zKe {b:Int}:decide (V.int a=V.int b)=decide (a=b):=by
 by_cases h:a=b
 . rw[zW h,zW (congrArg V.int h)]
 . rw[zu h,zu fun z=>h (V.int.inj z)]
noncomputable def rkf (rks:List Int)(p:Int):Int:=rks.getD p.toNat 0
noncomputable def zJa (ts:List T3)(rk:Int->Int)(h v:Int):Prop:=(∃d,WM.IsD ts h v d)/\∀p,Btw ts h v p->rk h<=rk p
noncomputable def zLW (P:Int->Prop):Option Int->Prop
 | none=>∀p,¬ P p
 | some m=>P m/\∀p,P p->m<=p
theorem zLW.congr {P P':Int->Prop}(e:∀p,P p↔P' p):∀{o:Option Int},zLW P o->zLW P' o
 | none,h=>fun p z=>h p ((e p).mpr z)
 | some _,h=>⟨(e _).mp h.1,fun p z=>h.2 p ((e p).mpr z)⟩
structure zMu (ts:List T3)(n:Int)(rk:Int->Int)(v:Int)(e:En):Prop where
 rng:0<=e.h/\e.h<n
 hub:zJa ts rk e.h v
 len:WM.IsD ts v e.h e.l
 up:zLW (Nxt ts v e.h) e.u
 dn:zLW (Nxt ts e.h v) e.d
structure zMs (ts:List T3)(n:Int)(rk:Int->Int)(v:Int)(es:List En):Prop where
 hub:Hub es
 ent:∀e∈es,zMu ts n rk v e
 all:∀h,0<=h->h<n->zJa ts rk h v->∃e∈es,e.h=h
 len:es.length<=24
noncomputable def zC6 (H:Hp)(l:Addr)(ess:List (List En)):Prop:=∃as:List Addr,H l=some (.tup (as.map V.ref))/\as.length=ess.length/\∀(i:Nat)(a:Addr),as[i]? = some a->∃es,ess[i]? = some es/\zCs H a es
theorem zC6.keep {H H':Hp}{l:Addr}{ess:List (List En)}(h:zC6 H l ess)(k:∀b ys,H b=some (.tup ys)->H' b=some (.tup ys)):zC6 H' l ess:=
 let ⟨as,h1,h2,h3⟩:=h;⟨as,k _ _ h1,h2,fun i a ha=>let ⟨es,e1,e2⟩:=h3 i a ha;⟨es,e1,e2.keep k⟩⟩
variable {x:Int}
theorem zCf.at {M:lLO}(RA:zCf H rs M)(RR:Rows ts n M)(h0:0<=x)(h1:x<n) :
 ∃r,(rs.map V.ref)[x.toNat]? = some (.ref r)/\H r=some (.tup ((M.getD x.toNat []).map oV))/\zJf ts n x (M.getD x.toNat []):=by
 have hM:x.toNat<M.length:=by rw[RR.1];omega
 have hr:x.toNat<rs.length:=by rw[RA.1];exact hM
 have e:M[x.toNat]? = some (M.getD x.toNat []):=by rw[zF,zD hM];rfl
 exact⟨rs[x.toNat],by rw[zP,zD hr];rfl,RA.2 _ _ _ (zD hr) e,RR.2 x h0 h1⟩
theorem zCf.same {M:lLO}(h:zCf H rs M)(k:zAw H H'):zCf H' rs M:=⟨h.1,fun i r row a b=>k _ _ (h.2 i r row a b)⟩
theorem zIm {xs:List Int}{Q:VK}(hp:SqT K H p (xs.map V.int))(h:∀u,zLW (· ∈ xs) u->Q (oV u) H):rMinD K (.ref p) .non H Q:=by
 refine⟨p,_,rfl,.inr hp,fun e=>?_,.inr ⟨xs,rfl,fun n hn hm=>h (some n) ⟨hn,hm⟩⟩⟩
 have:xs=[]:=by simpa using e
 exact h none fun q hq=>by rw[this] at hq;simp at hq
structure zJX (H:Hp)(rl ra:Addr)(rs:List Addr)(M:lLO)(rks:List Int)(n:Int)(ts:List T3):Prop where
 tab:H rl=some (.tup (rs.map V.ref))
 rows:zCf H rs M
 right:Rows ts n M
 rk:H ra=some (.lst (rks.map V.int))
 rln:rks.length=n.toNat
 web:GW n ts
theorem zJX.same {rl ra:Addr}{M:lLO}{rks:List Int}(L:zJX H rl ra rs M rks n ts)(k:zAw H H'):zJX H' rl ra rs M rks n ts:=⟨k _ _ L.tab,L.rows.same k,L.right,k _ _ L.rk,L.rln,L.web⟩
theorem zJX.rank {rl ra:Addr}{M:lLO}{rks:List Int}(L:zJX H rl ra rs M rks n ts)(h0:0<=x)(h1:x<n):(rks.map V.int)[x.toNat]? = some (.int (rkf rks x)):=by
 have:x.toNat<rks.length:=by rw[L.rln];omega
 rw[zP,zD this]
 unfold rkf
 rw[zF,zD this]
 rfl
noncomputable def zLh:Sp:=fun vs H Q _=>∃(rl ra:Addr)(rs:List Addr)(M:lLO)(rks:List Int)(n:Int)(ts:List T3)(h v:Int),vs=[.ref rl,.ref ra,.int h,.int v]/\zJX H rl ra rs M rks n ts/\0<=h/\h<n/\0<=v/\v<n /\
 ∀(b:Bool)(H':Hp),zAw H H'->(b=true↔zJa ts (rkf rks) h v)->Q (.bl b) H'
noncomputable def zLi:Sp:=fun vs H Q _=>∃(wa rl ra:Addr)(rs:List Addr)(M:lLO)(rks:List Int)(n:Int)(ts:List T3)(v h:Int),vs=[.ref wa,.ref rl,.int v,.int h]/\zBw H wa n ts/\zJX H rl ra rs M rks n ts/\0<=h/\h<n/\0<=v/\v<n/\zJa ts (rkf rks) h v /\
 ∀(a:Addr)(e:En)(H':Hp),zAw H H'->H' a=some (.tup (eV e))->e.h=h->zMu ts n (rkf rks) v e->Q (.ref a) H'
noncomputable def zLg:Sp:=fun vs H Q _=>∃(wa rl ra:Addr)(rs:List Addr)(M:lLO)(rks:List Int)(n:Int)(ts:List T3)(v:Int),vs=[.ref wa,.ref rl,.ref ra,.int v]/\zBw H wa n ts/\zJX H rl ra rs M rks n ts/\0<=v/\v<n /\
 ∀(a:Addr)(es:List En)(H':Hp),zAw H H'->zCs H' a es->zMs ts n (rkf rks) v es->Q (.ref a) H'
theorem scIsh:zAO ["rows", "ranks", "hub", "place"] ["rows", "ranks", "hub", "place"] (defScope sIsh):=fS0
variable {fB:Addr}{fdB:FuncData}
theorem ok_ish (F:Fun K "is_hub" "is_hub" sIsh f fd') (FB:Fun K "between_rows" "between_rows" sBwr fB fdB) (bB:zAU K fdB ["here", "there", "other"] []) (mB:mg "between_rows" = some (.ref fB)) (mRange:mg "range" = none) (mTuple:mg "tuple" = none) (mLen:mg "len" = none) (mAll:mg "all" = none) :
 zAg P w K mg base CX0 2 f fd' ["rows", "ranks", "hub", "place"] zLh:=by
 have GB:zAg P w K mg base CX0 1 fB fdB ["here", "there", "other"] zLj:=zLF FB mRange mTuple mLen
 refine F.ok scIsh (fun vs H Q E h=>?_) (fun cdv A outer s H vs Q E hr h=>?_)
 . obtain⟨rl,ra,rs,M,rks,n,ts,h,v,rfl,_⟩:=h
   rfl
 . obtain⟨rl,ra,rs,M,rks,n,ts,h,v,rfl,L,h0,h1,v0,v1,k⟩:=h
   have G:=L.web
   have hn24:=G.n24
   refine⟨_,zS (zBn (zAN zHC (zAT zAy (zAT zAy (pv 0) (pv 2) (fun _ _=>rfl)) (pv 3) (fun _ _=>rfl)) zCR (zAd _)) (zd (zAJ zCc)) zAh)
    (zd (zAJ (zj (zC2 rfl) mAll (zE (zBH (own:=["other"]) (cn:=["ranks", "hub"]) (ci:=[1,2]) rfl (csc rfl rfl) ⟨rfl,rfl,rfl,rfl,rfl,rfl,trivial⟩ rfl
     (zB9 (zy GB hr rfl mB FB.kp bB .nil zAt (zE (zAT zAy (pv 0) (pv 2) (fun _ _=>rfl)) (zE (zAT zAy (pv 0) (pv 3) (fun _ _=>rfl)) (zE (pv 3) zM))))) (fun _ _ _ _=>zAA (i:=0) (zB4 rfl) rfl (Or.inl rfl))
     (fun _ _ _ _=>zB2) (fun _ _ _ _=>zBq zKE (zAT zFO (pv 1) (pv 2) (fun _ _=>rfl)) (zAT zFO (pv 1) (pv 0) (fun _ _=>rfl)) (zAd _))) zM)))),?_⟩
   obtain⟨rh,gh,hh,Lh⟩:=L.rows.at L.right h0 h1
   obtain⟨rv,gv,hv,Lv⟩:=L.rows.at L.right v0 v1
   have lhv:=Lh.len v v0 v1
   refine⟨_,rfl,_,rfl,rl,_,_,.ref rh,rfl,rfl,SqT.of L.tab,zAv h0 gh,_,rfl,rh,_,_,oV (fnl (M.getD h.toNat []) v),rfl,rfl,SqT.of hh,zAv v0 (zCF Lh v0 v1),rfl,_,rfl,?_⟩
   rw[zFz]
   cases ed:fnl (M.getD h.toNat []) v with
   | none=>
    rw[ed] at lhv
    refine zCt ?_
    exact k false H (zAw.refl _) ⟨(fun z=>by cases z),(fun z=>by obtain⟨d,hd⟩:=z.1;exact absurd hd.1 (lhv d))⟩
   | some d=>
    rw[ed] at lhv
    refine zCw ?_
    refine⟨_,rfl,_,rfl,rl,_,_,.ref rh,rfl,rfl,SqT.of L.tab,zAv h0 gh,_,rfl,_,rfl,rl,_,_,.ref rv,rfl,rfl,SqT.of L.tab,zAv v0 gv,_,rfl,rh,rv,n,ts,h,v,_,_,rfl,G,h0,h1,v0,v1,hh,hv,Lh,Lv,fun l xs H1 s1 hl hrise hmem=>?_⟩
    have hxr:∀p∈xs,0<=p/\p<n:=fun p hp=>by
     obtain⟨a,b,ia,_⟩:=(hmem p).mp hp
     exact ia.1.in_ G h0 h1
    have hxl:xs.length<=24:=by
     have:=nd_len (n:=n.toNat) (l:=xs) (hrise.imp fun z=>by omega) fun x hx=>by have:=hxr x hx;omega
     omega
    refine⟨l,rfl,⟨_,SqT.of hl⟩,[.ref ra,.int h],rfl,fun D hD=>?_⟩
    have hra:=s1 _ _ L.rk
    refine zCE (a:=l) (xs:=xs.map V.int) (fun i ys H4=>ys=((xs.take i).map fun p=>decide (rkf rks h<=rkf rks p)).map V.bl/\H4=upd H1 D (.lst ys)) ⟨rfl,rfl⟩ (fun i ys H4 z=>?_) (fun i ys H4 z=>?_) (fun i x ys H4 hx z=>?_) (fun ys H4 z=>?_)
    . obtain⟨_,rfl⟩:=z
      exact SqT.of (by rw[zk (zq hl hD)];exact hl)
    . obtain⟨rfl,_⟩:=z
      rw[zB,zB,zw]
      exact zl (by omega)
    . obtain⟨rfl,rfl⟩:=z
      obtain⟨p,hp,rfl⟩:∃p,xs[i]? = some p/\V.int p=x:=by
       rw[zP] at hx
       cases e:xs[i]? with
       | none=>rw[e] at hx;cases hx
       | some p=>rw[e] at hx;exact⟨p,rfl,zX hx⟩
      have hpr:=hxr p (zU hp)
      have hra4:=zH (o:=.lst (((xs.take i).map fun p=>decide (rkf rks h<=rkf rks p)).map V.bl)) hD _ _ hra
      refine⟨⟨rfl,rfl⟩,?_⟩
      refine zGa ?_
      refine⟨_,rfl,_,rfl,ra,_,_,.int (rkf rks h),rfl,rfl,SqL.of hra4,zAv h0 (L.rank h0 h1),_,rfl,_,rfl,ra,_,_,.int (rkf rks p),rfl,rfl,SqL.of hra4,zAv hpr.1 (L.rank hpr.1 hpr.2),_,_,rfl,rfl,zJ,?_,zB8⟩
      rw[zAH,hp,zR,zR];rfl
    . obtain⟨rfl,rfl⟩:=z
      rw[zB,zY (zI _)]
      refine⟨D,_,rfl,SqL.of zJ,?_⟩
      refine k _ _ (s1.trans (zH hD)) ⟨fun z=>⟨⟨d,lhv⟩,fun p hp=>?_⟩,fun z=>zBo.mpr fun b hb=>?_⟩
      . have:=zBo.mp z _ (zAM.mpr ⟨p,(hmem p).mpr hp,rfl⟩)
        exact of_decide_eq_true this
      . obtain⟨p,hp,rfl⟩:=zAM.mp hb
        exact zW (z.2 p ((hmem p).mp hp))
theorem zLr:zAO ["web", "rows", "place", "hub", "up", "down"] ["web", "rows", "place", "hub"] (defScope sEbr):=fS0
theorem ok_ebr {fT:Addr}(F:Fun K "entry_by_rows" "entry_by_rows" sEbr f fd') (FN:Fun K "next_by_row" "next_by_row" sNbr fN fdN) (bN:zAU K fdN ["web", "one", "there"] []) (mN:mg "next_by_row" = some (.ref fN))
 (FT:Fun K "ties_at" "ties_at" zGg fT fdT) (bT:zAU K fdT ["web", "place"] []) (mT:mg "ties_at" = some (.ref fT)) (mSorted:mg "sorted" = none) (mTuple:mg "tuple" = none) (mMin:mg "min" = none):zAg P w K mg base CX0 4 f fd' ["web", "rows", "place", "hub"] zLi:=by
 have GN:zAg P w K mg base CX0 3 fN fdN ["web", "one", "there"] spNbr:=ok_nbr FN FT bT mT mSorted mTuple
 refine F.ok zLr (fun vs H Q E h=>?_) (fun cdv A outer s H vs Q E hr h=>?_)
 . obtain⟨wa,rl,ra,rs,M,rks,n,ts,v,h,rfl,_⟩:=h
   rfl
 . obtain⟨wa,rl,ra,rs,M,rks,n,ts,v,h,rfl,W,L,h0,h1,v0,v1,hh,k⟩:=h
   have hu:=zMd hr
   refine⟨_,zS (zAa (i:=4) zLr.nd rfl (Or.inl rfl) (zIX rfl hu (by rfl) mMin (zE (zy GN hr rfl mN FN.kp bN .nil zAt (zE (pv 0) (zE (pv 2) (zE (zAT zAy (pv 1) (pv 3) (fun _ _=>rfl)) zM)))) zM) zCR))
    (zS (zAa (i:=5) zLr.nd rfl (Or.inl rfl) (zIX rfl hu (by rfl) mMin (zE (zy GN hr rfl mN FN.kp bN .nil zAt (zE (pv 0) (zE (pv 3) (zE (zAT zAy (pv 1) (pv 2) (fun _ _=>rfl)) zM)))) zM) zCR))
    (zd (zAJ (zBQ (zE (pv 3) (zE (zAT zAy (zAT zAy (pv 1) (pv 2) (fun _ _=>rfl)) (pv 3) (fun _ _=>rfl)) (zE (pv 4) (zE (pv 5) zM)))))))),?_⟩
   obtain⟨rh,gh,ha,Lh⟩:=L.rows.at L.right h0 h1
   obtain⟨rv,gv,hv,Lv⟩:=L.rows.at L.right v0 v1
   refine⟨_,rfl,_,rfl,_,rfl,_,rfl,rl,_,_,.ref rh,rfl,rfl,SqT.of L.tab,zAv h0 gh,wa,rh,n,ts,v,h,_,rfl,W,v0,v1,h0,h1,ha,Lh,fun l1 xs H1 s1 hl1 _ hm1=>?_⟩
   refine⟨_,rfl,?_⟩
   unfold tC
   refine zIm (SqT.of hl1) fun u hu1=>?_
   have L1:=L.same s1
   refine⟨_,rfl,_,rfl,_,rfl,_,rfl,rl,_,_,.ref rv,rfl,rfl,SqT.of L1.tab,zAv v0 gv,wa,rv,n,ts,h,v,_,rfl,W.keep s1,h0,h1,v0,v1,s1 _ _ hv,Lv,fun l2 ys H2 s2 hl2 _ hm2=>?_⟩
   refine⟨_,rfl,?_⟩
   dsimp only
   refine zIm (SqT.of hl2) fun d hd1=>?_
   have s12:=s1.trans s2
   have L2':=L.same s12
   obtain⟨dd,hdd⟩:=hh.1
   have lv:=Len.uniq (Lv.len h h0 h1) (show Len ts v h (some dd) from WM.IsD.symm hdd)
   refine⟨_,rfl,_,rfl,_,rfl,rl,_,_,.ref rv,rfl,rfl,SqT.of L2'.tab,zAv v0 gv,_,rfl,rv,_,_,.int dd,rfl,rfl,SqT.of (s12 _ _ hv),zAv h0 (by rw[zCF Lv h0 h1,lv];rfl),_,rfl,_,rfl,by show 4<=sizeLine;decide,fun a ha'=>?_⟩
   exact k a ⟨h,dd,u,d⟩ _ (s12.trans (zH ha')) zJ rfl ⟨⟨h0,h1⟩,hh,WM.IsD.symm hdd,hu1.congr hm1,hd1.congr hm2⟩
theorem zLu {M:lLO}(R:Rows ts n M){d:Int}(x0:0<=x)(x1:x<n)(y0:0<=y)(y1:y<n)(h:WM.IsD ts x y d):0<=d/\d<=2376:=by
 have L:=R.2 x x0 x1
 have l:=L.len y y0 y1
 cases e:fnl (M.getD x.toNat []) y with
 | none=>rw[e] at l;exact absurd h.1 (l d)
 | some d'=>
  rw[e] at l
  have ed:d'=d:=WM.IsD.uniq l h
  subst ed
  refine L.bd (some d') ?_ d' rfl
  unfold fnl at e
  rw[if_pos y0,zF] at e
  cases e2:(M.getD x.toNat [])[y.toNat]? with
  | none=>rw[e2] at e;cases e
  | some o=>
   rw[e2] at e
   have eo:o=some d':=e
   rw[<-eo]
   exact zU e2
noncomputable def RkOf (n:Int)(os:List Int)(rk:Int->Int):Prop:=∀p,0<=p->p<n->0<=rk p/\os[(rk p).toNat]? = some p
noncomputable def zJY (ts:List T3)(n:Int)(rk:Int->Int)(ess:List (List En)):Prop:=ess.length=n.toNat/\∀(i:Nat)(es:List En),ess[i]? = some es->zMs ts n rk i es
noncomputable def spByo (PT:Addr):Sp:=fun vs H Q _=>∃(wa p:Addr)(n:Int)(ts:List T3)(os:List Int),vs=[.ref wa,.ref p]/\zBw H wa n ts/\H p=some (.tup (os.map V.int))/\Ordr n os/\Tb H PT /\
 ∀(l:Addr)(ess:List (List En))(rk:Int->Int)(H':Hp),SmT H H'->Tb H' PT->zC6 H' l ess->RkOf n os rk->zJY ts n rk ess->(∀es∈ess,∀e∈es,0<=e.l/\e.l<=2376)->Q (.ref l) H'
theorem Ordr.mem {os:List Int}(O:Ordr n os){p:Int}(h0:0<=p)(h1:p<n):p∈os:=by
 apply zAm
 intro hn
 have:=nd_len (n:=n.toNat) (l:=p::os) (zAk.mpr ⟨hn,O.nd⟩) fun x hx=>by
  rcases zV.mp hx with rfl | hx
  . omega
  . have:=O.rng x hx;omega
 rw[zn,O.ln] at this
 omega
theorem scLbr:zAO ["web", "rows", "ranks", "place", "hubs"] ["web", "rows", "ranks", "place"] (defScope sLbr):=fS0
variable {fI:Addr}{fdI:FuncData}
theorem ok_lbr {fE:Addr}{fdE:FuncData}(F:Fun K "label_by_ranks" "label_by_ranks" sLbr f fd') (FI:Fun K "is_hub" "is_hub" sIsh fI fdI) (bI:zAU K fdI ["rows", "ranks", "hub", "place"] []) (mI:mg "is_hub" = some (.ref fI)) (GI:zAg P w K mg base CX0 4 fI fdI ["rows", "ranks", "hub", "place"] zLh)
 (FE:Fun K "entry_by_rows" "entry_by_rows" sEbr fE fdE) (bE:zAU K fdE ["web", "rows", "place", "hub"] []) (mE:mg "entry_by_rows" = some (.ref fE)) (GE:zAg P w K mg base CX0 4 fE fdE ["web", "rows", "place", "hub"] zLi) (mRange:mg "range" = none) (mTuple:mg "tuple" = none) :
 zAg P w K mg base CX0 5 f fd' ["web", "rows", "ranks", "place"] zLg:=by
 refine F.ok scLbr (fun vs H Q E h=>?_) (fun cdv A outer s H vs Q E hr h=>?_)
 . obtain⟨wa,rl,ra,rs,M,rks,n,ts,v,rfl,_⟩:=h
   rfl
 . obtain⟨wa,rl,ra,rs,M,rks,n,ts,v,rfl,W,L,v0,v1,k⟩:=h
   obtain⟨ta,tys,hwa,_,_,G⟩:=id W
   have hn1:=G.n1
   have hn24:=G.n24
   refine⟨_,zS (zD6 (i:=4) (own:=["hub"]) (cn:=["rows", "ranks", "place"]) (ci:=[1,2,3]) scLbr.nd rfl (Or.inl rfl) rfl (csc rfl rfl) ⟨rfl,rfl,rfl,rfl,rfl,rfl,rfl,rfl,rfl,trivial⟩ rfl
    (zA5 rfl mRange (zE (zAT zAy (pv 0) zz (fun _ _=>rfl)) zM)) (fun _ _ _ _=>zAA (i:=0) (zB4 rfl) rfl (Or.inl rfl))
    (fun _ _ _ _=>zCC (zBx (zy GI hr rfl mI FI.kp bI .nil zAt (zE (pv 1) (zE (pv 2) (zE (pv 0) (zE (pv 3) zM))))))) (fun _ _ _ _=>pv 0))
    (zd (zAJ (zAc zAI mTuple (zE (zBH (own:=["hub"]) (cn:=["web", "rows", "place"]) (ci:=[0,1,3]) rfl (csc rfl rfl) ⟨rfl,rfl,rfl,rfl,rfl,rfl,rfl,rfl,rfl,trivial⟩ rfl
     (zCa (pv 4)) (fun _ _ _ _=>zAA (i:=0) (zB4 rfl) rfl (Or.inl rfl)) (fun _ _ _ _=>zB2)
     (fun _ _ _ _=>zy GE hr rfl mE FE.kp bE .nil zAt (zE (pv 1) (zE (pv 2) (zE (pv 3) (zE (pv 0) zM)))))) zM)))),?_⟩
   refine⟨_,rfl,wa,_,_,_,rfl,rfl,SqT.of hwa,rfl,n,rfl,by omega,by omega,[.ref rl,.ref ra,.int v],rfl,fun D hD=>?_⟩
   refine zBV (lo:=0) (n:=n.toNat) (fun q ys H3=>q<=n.toNat/\(∃hs:List Int,ys=hs.map V.int/\hs.Pairwise (· < ·)/\∀p,p∈hs↔(0<=p/\p<(q:Int))/\zJa ts (rkf rks) p v)/\zAw H H3/\H3 D=some (.lst ys)) ⟨zg _,⟨[],rfl,zBD,fun p=>⟨fun z=>by simp at z,fun z=>absurd z.1 (by omega)⟩⟩,zH hD,zJ⟩ (fun q ys H3 z=>?_) (fun q ys H3 hq z=>?_) (fun ys H3 z=>?_)
   . obtain⟨hq,⟨hs,rfl,hp,hm⟩,_⟩:=z
     rw[zB]
     have:=nd_len (n:=q) (l:=hs) (hp.imp fun z=>by omega) fun x hx=>by have:=((hm x).mp hx).1;omega
     exact zl (by omega)
   . obtain⟨_,⟨hs,rfl,hp,hm⟩,s3,hD3⟩:=z
     rw[zAn]
     refine⟨⟨rfl,rfl⟩,?_⟩
     refine⟨_,rfl,_,rfl,_,rfl,_,rfl,rl,ra,rs,M,rks,n,ts,q,v,rfl,L.same s3,by omega,by omega,v0,v1,fun b H4 s4 hb=>?_⟩
     refine⟨_,rfl,?_⟩
     refine zCz (fun c=>?_) (fun c=>?_)
     . refine⟨_,rfl,s4 _ _ hD3,hq,⟨hs++[(q:Int)],by rw[zR];rfl,List.pairwise_append.mpr ⟨hp,List.pairwise_singleton _ _,fun a ha b hb'=>?_⟩,fun p=>?_⟩,zAu (s3.trans s4) hD,zJ⟩
       . have:b=(q:Int):=by simpa using hb'
         have:=((hm a).mp ha).1
         omega
       . rw[zm,hm]
         constructor
         . rintro (⟨a,b⟩ | a)
           . exact⟨by omega,b⟩
           . have:p=(q:Int):=by simpa using a
             subst this
             exact⟨by omega,hb.mp c⟩
         . rintro ⟨a,b⟩
           by_cases e:p=(q:Int)
           . exact .inr (by simpa using e)
           . exact .inl ⟨by omega,b⟩
     . refine⟨hq,⟨hs,rfl,hp,fun p=>?_⟩,s3.trans s4,s4 _ _ hD3⟩
       rw[hm]
       constructor
       . rintro ⟨a,b⟩;exact⟨by omega,b⟩
       . rintro ⟨a,b⟩
         refine⟨?_,b⟩
         have:p≠(q:Int):=fun z=>by subst z;exact c (hb.mpr b)
         omega
   . obtain⟨_,⟨hs,rfl,hp,hm⟩,s3,hD3⟩:=z
     have hsl:hs.length<=24:=by
      have:=nd_len (n:=n.toNat) (l:=hs) (hp.imp fun z=>by omega) fun x hx=>by have:=((hm x).mp hx).1;omega
      omega
     refine⟨_,rfl,D,rfl,⟨_,SqL.of hD3⟩,[.ref wa,.ref rl,.int v],rfl,fun D2 hD2=>?_⟩
     refine zCe (a:=D) (xs:=hs.map V.int) (fun i ys H5=>i<=hs.length/\(∃(as:List Addr)(es:List En),ys=as.map V.ref/\zDO H5 as es/\es.map (·.h)=hs.take i/\∀e∈es,zMu ts n (rkf rks) v e)/\zAw H3 H5/\H5 D2=some (.lst ys)) ⟨zg _,⟨[],[],rfl,⟨rfl,fun i a z=>by simp at z⟩,rfl,by simp⟩,zH hD2,zJ⟩ (fun i ys H5 z=>?_) (fun i ys H5 z=>?_) (fun i x ys H5 hx z=>?_) (fun ys H5 z=>?_)
     . exact SqL.of (z.2.2.1 _ _ hD3)
     . obtain⟨_,⟨as,es,rfl,EA,em,_⟩,_⟩:=z
       have:=congrArg List.length em
       rw[zB,zw] at this
       rw[zB,EA.1]
       exact zl (by omega)
     . obtain⟨_,⟨as,es,rfl,EA,em,he⟩,s5,hD5⟩:=z
       obtain⟨p,hpi,rfl⟩:∃p,hs[i]? = some p/\V.int p=x:=by
        rw[zP] at hx
        cases e:hs[i]? with
        | none=>rw[e] at hx;cases hx
        | some p=>rw[e] at hx;exact⟨p,rfl,zX hx⟩
       have hpm:=(hm p).mp (zU hpi)
       have s35:=s3.trans s5
       refine⟨⟨rfl,rfl⟩,?_⟩
       refine zGa ?_
       refine⟨_,rfl,_,rfl,_,rfl,_,rfl,wa,rl,ra,rs,M,rks,n,ts,v,p,rfl,W.keep s35,L.same s35,by omega,by omega,v0,v1,hpm.2,fun a e H6 s6 ha ep he'=>?_⟩
       refine⟨s6 _ _ hD5,(zK.mp hpi).1,⟨as++[a],es++[e],by rw[zR];rfl,(EA.keep fun b zs z=>?_).snoc ?_,?_,fun x hx'=>?_⟩,zAu (s5.trans s6) hD2,zJ⟩
       . rw[zk (zBu z hD5 (by intro y;cases y))];exact s6 _ _ z
       . rw[zk (zBu ha (s6 _ _ hD5) (by intro y;cases y))];exact ha
       . rw[zR,em,zAH,hpi,<-ep];rfl
       . rcases zm.mp hx' with z | z
         . exact he x z
         . have:x=e:=by simpa using z
           subst this;exact he'
     . obtain⟨_,⟨as,es,rfl,EA,em,he⟩,s5,hD5⟩:=z
       rw[zB,zY (zI _)] at em
       have hel:es.length<=24:=by have:=congrArg List.length em;rw[zB] at this;omega
       refine⟨D2,_,rfl,.inl ⟨SqL.of hD5,fun l hl=>?_⟩⟩
       refine k l es _ ((s3.trans s5).trans (zH hl)) ⟨as,zJ,EA.keep fun b zs z=>zH hl _ _ z,by omega⟩ ⟨?_,he,fun h h0 h1 z=>?_,hel⟩
       . have:=hp
         rw[<-em,zA2] at this
         exact this
       . have:h∈es.map (·.h):=by rw[em];exact (hm h).mpr ⟨by omega,z⟩
         obtain⟨e,e1,e2⟩:=zAM.mp this
         exact⟨e,e1,e2⟩
theorem zLs:zAO ["web", "order", "rows", "ranks"] ["web", "order"] (defScope sByo):=fS0
variable {fL:Addr}{fdL:FuncData}
theorem ok_byo {fO:Addr}{fdO:FuncData}(F:Fun K "by_order" "by_order" sByo f fd') (FO:Fun K "is_order" "is_order" sOrd fO fdO) (bO:zAU K fdO ["web", "thing"] []) (mO:mg "is_order" = some (.ref fO)) (GO:zAg P w K mg base CX0 5 fO fdO ["web", "thing"] zLf)
 (FL:Fun K "lengths" "lengths" zHT fL fdL) (bL:zAU K fdL ["web"] []) (mL:mg "lengths" = some (.ref fL)) (GL:zAg P w K mg base CX0 5 fL fdL ["web"] (zG5 PT))
 (FB:Fun K "label_by_ranks" "label_by_ranks" sLbr fB fdB) (bB:zAU K fdB ["web", "rows", "ranks", "place"] []) (mB:mg "label_by_ranks" = some (.ref fB)) (GB:zAg P w K mg base CX0 5 fB fdB ["web", "rows", "ranks", "place"] zLg) (mRange:mg "range" = none) (mTuple:mg "tuple" = none) :
 zAg P w K mg base CX0 6 f fd' ["web", "order"] (spByo PT):=by
 refine F.ok zLs (fun vs H Q E h=>?_) (fun cdv A outer s H vs Q E hr h=>?_)
 . obtain⟨wa,p,n,ts,os,rfl,_⟩:=h
   rfl
 . obtain⟨wa,p,n,ts,os,rfl,W,hp,O,T,k⟩:=h
   obtain⟨ta,tys,hwa,_,_,G⟩:=id W
   have hn1:=G.n1
   have hn24:=G.n24
   refine⟨_,zS (zBn (zCB (zBx (zy GO hr rfl mO FO.kp bO .nil zAt (zE (pv 0) (zE (pv 1) zM))))) (zd zGj) zAh)
    (zS (zAa (i:=2) zLs.nd rfl (Or.inr rfl) (zy GL hr rfl mL FL.kp bL .nil zAt (zE (pv 0) zM)))
    (zS (zAa (i:=3) zLs.nd rfl (Or.inr rfl) (zBH (own:=["place"]) (cn:=["order"]) (ci:=[1]) rfl (csc rfl rfl) ⟨rfl,rfl,rfl,trivial⟩ rfl
     (zA5 rfl mRange (zE (zAT zAy (pv 0) zz (fun _ _=>rfl)) zM)) (fun _ _ _ _=>zAA (i:=0) (zB4 rfl) rfl (Or.inl rfl)) (fun _ _ _ _=>zB2)
     (fun _ _ _ _=>zCS PySem.F.slot_tuple_index PySem.F.type_tuple_index zEF (pv 1) (zE (pv 0) zM))))
    (zd (zAJ (zAc zAI mTuple (zE (zBH (own:=["place"]) (cn:=["web", "rows", "ranks"]) (ci:=[0,2,3]) rfl (csc rfl rfl) ⟨rfl,rfl,rfl,rfl,rfl,rfl,rfl,rfl,rfl,trivial⟩ rfl
     (zA5 rfl mRange (zE (zAT zAy (pv 0) zz (fun _ _=>rfl)) zM)) (fun _ _ _ _=>zAA (i:=0) (zB4 rfl) rfl (Or.inl rfl)) (fun _ _ _ _=>zB2)
     (fun _ _ _ _=>zy GB hr rfl mB FB.kp bB .nil zAt (zE (pv 1) (zE (pv 2) (zE (pv 3) (zE (pv 0) zM)))))) zM)))))),?_⟩
   refine⟨_,rfl,_,rfl,wa,p,n,ts,os,rfl,W,hp,O,fun H0 s0=>?_⟩
   refine⟨_,rfl,zCw ?_⟩
   refine⟨_,rfl,wa,n,ts,rfl,W.keep s0,T.same s0,fun rl rs M H1 sm1 T1 hrl RA RR=>?_⟩
   have sm01:SmT H H1:=(SmT.of s0).trans sm1
   have hwa1:H1 wa=some (.tup [.int n,.ref ta]):=sm01.get hwa (by intro ps z;cases z)
   have hp1:H1 p=some (.tup (os.map V.int)):=sm01.get hp (by intro ps z;cases z)
   have W1:zBw H1 wa n ts:=W.smT sm01
   refine⟨_,rfl,wa,_,_,_,rfl,rfl,SqT.of hwa1,rfl,n,rfl,by omega,by omega,[.ref p],rfl,fun D hD=>?_⟩
   refine zBV (lo:=0) (n:=n.toNat) (fun q ys H3=>q<=n.toNat/\(∃rk:List Int,ys=rk.map V.int/\rk.length=q/\∀(j:Nat)(x:Int),rk[j]? = some x->0<=x/\os[x.toNat]? = some (j:Int))/\H3=upd H1 D (.lst ys)) ⟨zg _,⟨[],rfl,rfl,fun j x z=>by simp at z⟩,rfl⟩ (fun q ys H3 z=>?_) (fun q ys H3 hq z=>?_) (fun ys H3 z=>?_)
   . obtain⟨_,⟨rk,rfl,hl,_⟩,_⟩:=z
     rw[zB]
     exact zl (by omega)
   . obtain⟨_,⟨rk,rfl,hl,hrk⟩,rfl⟩:=z
     rw[zAn]
     obtain⟨i,hi,ei⟩:=zAL (O.mem (p:=(q:Int)) (by omega) (by omega))
     have hoi:os[i]? = some (q:Int):=by rw[zD hi,ei]
     have hp3:=zH (o:=.lst (rk.map V.int)) hD _ _ hp1
     refine⟨⟨rfl,rfl⟩,?_⟩
     refine zGa ?_
     refine⟨_,rfl,⟨p,_,rfl,hp3⟩,_,rfl,p,os,i,q,rfl,rfl,SqT.of hp3,hoi,fun j hj e=>?_,zJ,hq,⟨rk++[(i:Int)],by rw[zR];rfl,by rw[zO,hl];rfl,fun j x hx=>?_⟩,zB8⟩
     . obtain⟨hj',ej⟩:=zK.mp e
       exact zAQ.mp (List.nodup_iff_pairwise_ne.mp O.nd) j i hj' hi hj (by rw[ej,ei])
     . by_cases c:j<rk.length
       . rw[zh c] at hx
         exact hrk j x hx
       . have hj:j=q:=by
          have:=(zK.mp hx).1
          rw[zO] at this
          simp at this;omega
         subst hj
         rw[za (by omega),hl,Nat.sub_self] at hx
         have:(i:Int)=x:=by simpa using hx
         subst this
         exact⟨by omega,hoi⟩
   . obtain⟨_,⟨rk,rfl,hl,hrk⟩,rfl⟩:=z
     have sD:zAw H1 (upd H1 D (.lst (rk.map V.int))):=zH hD
     have hDr:(upd H1 D (.lst (rk.map V.int))) D=some (.lst (rk.map V.int)):=zJ
     generalize upd H1 D (.lst (rk.map V.int))=H4 at sD hDr ⊢
     have L:zJX H4 rl D rs M rk n ts:=⟨sD _ _ hrl,RA.same sD,RR,hDr,hl,G⟩
     have W4:=W1.keep sD
     refine⟨_,rfl,wa,_,_,_,rfl,rfl,SqT.of (sD _ _ hwa1),rfl,n,rfl,by omega,by omega,[.ref wa,.ref rl,.ref D],rfl,fun D2 hD2=>?_⟩
     refine zBV (lo:=0) (n:=n.toNat) (fun q ys H5=>q<=n.toNat/\(∃(as:List Addr)(ess:List (List En)),ys=as.map V.ref/\as.length=q/\ess.length=q/\(∀(i:Nat)(a:Addr),as[i]? = some a->∃es,ess[i]? = some es/\zCs H5 a es)/\∀(i:Nat)(es:List En),ess[i]? = some es->zMs ts n (rkf rk) i es)/\zAw H4 H5/\H5 D2=some (.lst ys)) ⟨zg _,⟨[],[],rfl,rfl,rfl,fun i a z=>by simp at z,fun i a z=>by simp at z⟩,zH hD2,zJ⟩ (fun q ys H5 z=>?_) (fun q ys H5 hq z=>?_) (fun ys H5 z=>?_)
     . obtain⟨_,⟨as,ess,rfl,h1,_⟩,_⟩:=z
       rw[zB]
       exact zl (by omega)
     . obtain⟨_,⟨as,ess,rfl,h1,h2,h3,h4⟩,s5,hD5⟩:=z
       rw[zAn]
       refine⟨⟨rfl,rfl⟩,?_⟩
       refine zGa ?_
       refine⟨_,rfl,_,rfl,_,rfl,_,rfl,wa,rl,D,rs,M,rk,n,ts,q,rfl,W4.keep s5,L.same s5,by omega,by omega,fun a es H6 s6 la lo=>?_⟩
       refine⟨s6 _ _ hD5,hq,⟨as++[a],ess++[es],by rw[zR];rfl,by rw[zO,h1];rfl,by rw[zO,h2];rfl,fun i b hb=>?_,fun i es' he=>?_⟩,zAu (s5.trans s6) hD2,zJ⟩
       . have keep:∀c zs,H6 c=some (.tup zs)->(upd H6 D2 (.lst (as.map V.ref++[.ref a]))) c=some (.tup zs):=fun c zs z=>by rw[zk (zBu z (s6 _ _ hD5) (by intro y;cases y))];exact z
         by_cases c:i<as.length
         . rw[zh c] at hb
           obtain⟨es',e1,e2⟩:=h3 i b hb
           exact⟨es',by rw[zh (by omega)];exact e1,(e2.same s6).keep keep⟩
         . have hi:i=q:=by
            have:=(zK.mp hb).1
            rw[zO] at this
            simp at this;omega
           subst hi
           rw[za (by omega),h1,Nat.sub_self] at hb
           have:a=b:=by simpa using hb
           subst this
           exact⟨es,by rw[za (by omega),h2,Nat.sub_self];rfl,la.keep keep⟩
       . by_cases c:i<ess.length
         . rw[zh c] at he
           exact h4 i es' he
         . have hi:i=q:=by
            have:=(zK.mp he).1
            rw[zO] at this
            simp at this;omega
           subst hi
           rw[za (by omega),h2,Nat.sub_self] at he
           have:es=es':=by simpa using he
           subst this
           exact lo
     . obtain⟨_,⟨as,ess,rfl,h1,h2,h3,h4⟩,s5,hD5⟩:=z
       refine⟨D2,_,rfl,.inl ⟨SqL.of hD5,fun l hl'=>?_⟩⟩
       have s6:zAw H1 (upd H5 l (.tup (as.map V.ref))):=(sD.trans s5).trans (zH hl')
       refine k l ess (rkf rk) _ (sm01.trans (SmT.of s6)) (T1.same s6) ⟨as,zJ,by omega,fun i a ha=>?_⟩ (fun p h0 h1'=>?_) ⟨h2,h4⟩ ?bound
       case bound=>
        intro es hes e he
        obtain⟨i,hi,ei⟩:=zAL hes
        have EO:=(h4 i es (by rw[zD hi,ei])).ent e he
        exact zLu RR (by omega) (by omega) EO.rng.1 EO.rng.2 EO.len
       . obtain⟨es,e1,e2⟩:=h3 i a ha
         exact⟨es,e1,e2.same (zH hl')⟩
       . have hlt:p.toNat<rk.length:=by omega
         have e:rk[p.toNat]? = some (rkf rk p):=by
          unfold rkf
          rw[zF,zD hlt];rfl
         obtain⟨a,b⟩:=hrk _ _ e
         exact⟨a,by rw[b,zBg h0]⟩
theorem zLW.some_of {P:Int->Prop}(h:zLW P o){p:Int}(hp:P p):∃m,o=some m/\P m:=by
 cases o with
 | none=>exact absurd hp (h p)
 | some m=>exact⟨m,rfl,h.1⟩
theorem zF9:∀(l:List Int)(k:Nat),(l.map V.int).eraseIdx k=(l.eraseIdx k).map V.int
 | [],_=>rfl
 | _::_,0=>rfl
 | x::r,k+1=>by
  show V.int x::(r.map V.int).eraseIdx k=V.int x::(r.eraseIdx k).map V.int
  rw[zF9 r k]
theorem zE1:∀{l:List Int}{k:Nat}(h:k<l.length),(l[k]::l.eraseIdx k).Perm l
 | [],_,h=>absurd h (zBz _)
 | _::_,0,_=>List.Perm.refl _
 | x::r,k+1,h=>by
  have hk:k<r.length:=by simpa using h
  show (r[k]::x::r.eraseIdx k).Perm (x::r)
  exact (List.Perm.swap x r[k] _).trans ((zE1 hk).cons x)
noncomputable def zKw:Sp:=fun vs H Q _=>∃(t:Addr)(N:Nat)(n:Int),vs=[.ref t,.int n]/\zB1 H t N/\N<900000/\0<=n/\n<=24 /\
 ∀(pa:Addr)(os:List Int)(H':Hp),H pa=none->H' pa=some (.tup (os.map V.int))->os.Perm (lowTo n.toNat)->zB1 H' t (N+24)->Sm t H H'->Q (.ref pa) H'
structure OW (H:Hp)(t p lf D:Addr)(n:Nat)(N:Nat)(row left:List Int)(H2:Hp):Prop where
 pm:(row++left).Perm (lowTo n)
 lf:H2 lf=some (.lst (left.map V.int))
 ls:H2 D=some (.lst (row.map V.int))
 tp:zBt H2 t p (N+row.length)
 sm:Sm t H H2
theorem OW.on {H3:Hp}{lf:Addr}{n:Nat}{row left:List Int}(h:OW H t p lf D n N row left H2)(s:zAw H2 H3):OW H t p lf D n N row left H3:=⟨h.pm,s _ _ h.lf,s _ _ h.ls,h.tp.same s,h.sm.trans (Sm.of s)⟩
theorem zIH:zAO ["_law_feed_here", "_law_many", "_law_left", "_law_found"] ["_law_feed_here", "_law_many"] (defScope zJt):=fS0
theorem zMK {fd:FuncData}(F:Fun K "_law_order" "_law_order" zJt f fd) (FD:Fun K "_law_take" "_law_take" zFs fD fdD) (bD:zAU K fdD ["_law_feed_here", "_law_many"] []) (mD:mg "_law_take" = some (.ref fD)) (mLen:mg "len" = none)
 (mRange:mg "range" = none) (mList:mg "list" = none) (mTuple:mg "tuple" = none):zAg P w K mg base CX0 2 f fd ["_law_feed_here", "_law_many"] zKw:=by
 have GD:zAg P w K mg base CX0 1 fD fdD ["_law_feed_here", "_law_many"] zDP:=zDo FD mLen
 refine F.ok zIH (fun vs H Q E h=>?_) (fun cdv A outer s H vs Q E hr h=>?_)
 . obtain⟨t,N,n,rfl,_⟩:=h
   rfl
 . obtain⟨t,N,many,rfl,TT,hN,hm0,hm24,k⟩:=h
   obtain⟨p,T1⟩:=TT
   have hu0:=hr.units0
   refine⟨_,zS (zAa (i:=2) zIH.nd rfl (Or.inl rfl) (zIY rfl rfl mList rfl mRange (zE (pv 1) zM)))
    (zS (zAa (i:=3) zIH.nd rfl (Or.inl rfl) (zBh zM))
    (zS (zFH PassesOwn.never (zAN (zLE hu0) (pv 2) (zBh zM) (zAd _))
     (zd (zCZ (zED PySem.F.plainAttrs_list PySem.F.slot_list_append PySem.F.type_list_append zBr (pv 3)
      (zE (zED PySem.F.plainAttrs_list PySem.F.slot_list_pop PySem.F.type_list_pop zKM (pv 2)
       (zE (zy GD hr rfl mD FD.kp bD .nil zAt (zE (pv 0) (zE (zj zAS mLen (zE (pv 2) zM)) zM))) zM)) zM)))))
    (zd (zAJ (zAc zAI mTuple (zE (pv 3) zM)))))),?_⟩
   refine⟨_,rfl,many,rfl,by omega,by omega,fun lf hlf=>?_⟩
   have nlt:lf≠t:=(T1.ne hlf).1
   have nlp:lf≠p:=(T1.ne hlf).2
   refine⟨zg _,fun D hD=>?_⟩
   have hD1:H D=none:=zBI (zH hlf) hD
   have nDt:D≠t:=(T1.ne hD1).1
   have nDp:D≠p:=(T1.ne hD1).2
   have nDl:D≠lf:=fun z=>by rw[z,zJ] at hD;cases hD
   have W0:OW H t p lf D many.toNat N [] (lowTo many.toNat) (upd (upd H lf (.lst ((lowTo many.toNat).map V.int))) D (.lst [])):=
    ⟨List.Perm.refl _,zH hD _ _ zJ,zJ,(T1.laid hlf).laid hD,(Sm.laid hlf).trans (Sm.laid hD)⟩
   generalize upd (upd H lf (.lst ((lowTo many.toNat).map V.int))) D (.lst [])=H2 at W0 ⊢
   refine⟨fun m σ H3=>∃(row left:List Int),σ=[some (.ref t),some (.int many),some (.ref lf),some (.ref D)]/\m=left.length/\OW H t p lf D many.toNat N row left H3,⟨_,[],lowTo many.toNat,rfl,rfl,W0⟩,?_⟩
   rintro m σ H3 ⟨row,left,rfl,rfl,W⟩
   have hll:row.length+left.length=many.toNat:=by
    have:=W.pm.length_eq
    rw[zO,zDs] at this
    exact this
   refine⟨_,rfl,by show 0<=sizeLine;decide,fun e0 he0=>?_⟩
   have W1:=W.on (zH (o:=.lst []) he0)
   have h00:(upd H3 e0 (.lst [])) e0=some (.lst []):=zJ
   generalize upd H3 e0 (.lst [])=H4 at W1 h00 ⊢
   refine⟨lf,e0,_,rfl,rfl,SqL.of W1.lf,SqL.of h00,_,rfl,?_⟩
   refine zCz (fun hc=>?_) (fun hc=>?_)
   . have hl0:0<left.length:=by
      cases left with
      | nil=>cases hc
      | cons _ _=>exact Nat.succ_pos _
     refine⟨fun σ' H'=>∃(row' left':List Int),σ'=[some (.ref t),some (.int many),some (.ref lf),some (.ref D)]/\left'.length<left.length/\OW H t p lf D many.toNat N row' left' H',fun σ' H' ⟨row',left',e,hlt,W'⟩=>⟨_,hlt,row',left',e,rfl,W'⟩,?_⟩
     refine⟨_,rfl,.inl ⟨rfl,_,SqL.of W1.ls⟩,_,rfl,.inl ⟨rfl,_,SqL.of W1.lf⟩,?_⟩
     refine⟨_,rfl,_,rfl,lf,_,rfl,.inl (SqL.of W1.lf),t,p,_,_,rfl,W1.tp,by omega,by rw[zB];omega,by rw[zB];omega,fun rr H5 h0 h1 T5 e5=>?_⟩
     rw[zB] at h1
     have hlt:rr.toNat<left.length:=by omega
     refine⟨lf,left.map V.int,rr,rr.toNat,.int left[rr.toNat],rfl,rfl,by rw[e5 lf nlt];exact W1.lf,by omega,by omega,PySem.StrLaws.seqIndex_nonneg h0 (by rw[zB];omega),by rw[zP,zD hlt];rfl,?_⟩
     rw[zF9 left rr.toNat]
     refine⟨D,_,_,rfl,rfl,by rw[zk nDl,e5 D nDt];exact W1.ls,by rw[zB];exact zl (by omega),?_⟩
     refine⟨row++[left[rr.toNat]],left.eraseIdx rr.toNat,rfl,by rw[List.length_eraseIdx,if_pos hlt];omega,?_⟩
     refine⟨?_,by rw[zk nDl.symm,zJ],by rw[zR];exact zJ,?_,((W1.sm.trans (zDQ e5)).chg hlf).chg hD1⟩
     . refine List.Perm.trans ?_ W1.pm
       rw[List.append_assoc]
       exact (zE1 hlt).append_left row
     . rw[zO]
       exact ((T5.upd nlt nlp).upd nDt nDp).mono (by simp;omega)
   have hleft:left=[]:=by
    cases left with
    | nil=>rfl
    | cons a r=>exact absurd (show (!(List.map V.int (a::r)).isEmpty)=true from rfl) hc
   subst hleft
   have hrl:row.length=many.toNat:=by simpa using hll
   have hpm:row.Perm (lowTo many.toNat):=by have:=W1.pm;rwa [zt] at this
   refine⟨_,rfl,D,_,rfl,.inl ⟨SqL.of W1.ls,fun pa hpa=>?_⟩⟩
   have npt:pa≠t:=(W1.tp.ne hpa).1
   have hpa0:H pa=none:=by
    cases q:H pa with
    | none=>rfl
    | some o=>rw[W1.sm _ _ npt q] at hpa;cases hpa
   exact k pa row _ hpa0 zJ hpm ⟨p,(W1.tp.laid hpa).mono (by omega)⟩ (W1.sm.trans (Sm.laid hpa))
noncomputable def spSame:Sp:=fun vs H Q _=>∃a b:Option Int,vs=[oV a,oV b]/\∀H',zAw H H'->Q (.bl (decide (a=b))) H'
theorem tyO (a:Option Int):∃t,zGT K H (oV a) t/\PySem.W.kitOne K t (.type "tuple")=some false/\PySem.W.kitOne K t (.type "list")=some false/\PySem.W.kitOne K t (.type "bool")=some false/\PySem.W.kitAny K t [.type "tuple",.type "list"]=some false:=by
 cases a with
 | none=>exact⟨_,.non,rfl,rfl,rfl,rfl⟩
 | some i=>exact⟨_,.int i,rfl,rfl,rfl,rfl⟩
theorem dec_oV {a b:Option Int}:decide (oV a=oV b)=decide (a=b):=by
 by_cases h:a=b
 . rw[zW h,zW (congrArg oV h)]
 . rw[zu h,zu fun z=>h ?_]
   cases a with
   | none=>cases b with
    | none=>rfl
    | some b=>cases z
   | some a=>cases b with
    | none=>cases z
    | some b=>rw[V.int.inj z]
theorem zLq (a b:Option Int):scal (oV a) (oV b)=true:=by
 cases a <;> cases b <;> rfl
theorem zIF:zAO ["_law_found", "_law_due"] ["_law_found", "_law_due"] (defScope zGh):=fS0
theorem zIe (F:Fun K "_law_same" "_law_same" zGh f fd') (mIsi:mg "isinstance" = none) (mTuple:mg "tuple" = none) (mList:mg "list" = none) (mBool:mg "bool" = none):zAg P w K mg base CX0 1 f fd' ["_law_found", "_law_due"] spSame:=by
 refine F.ok zIF (fun vs H Q E h=>?_) (fun cdv A outer s H vs Q E hr h=>?_)
 . obtain⟨a,b,rfl,_⟩:=h
   rfl
 . obtain⟨a,b,rfl,k⟩:=h
   refine⟨_,zS (zBn (PW.pt (zEc (zAN zFJ (zj zAK mIsi (zE (pv 1) (zE (zBE (T := "tuple") mTuple) zM))) (zj zAK mIsi (zE (pv 0) (zE (zBE (T := "tuple") mTuple) zM))) (zAd _))
    (zDb (zAN zFJ (zj zAK mIsi (zE (pv 1) (zE (zBE (T := "list") mList) zM))) (zj zAK mIsi (zE (pv 0) (zE (zBE (T := "list") mList) zM))) (zAd _))))) (zd (zAJ zCc)) zAh)
    (zS (zBn (zCB (zBx (zj zCn mIsi (zE (pv 1) (zE (zBQ (zE (zBE (T := "tuple") mTuple) (zE (zBE (T := "list") mList) zM))) zM)))))
     (zd (zAJ (zDG (zBq zCr (zj zAK mIsi (zE (pv 0) (zE (zBE (T := "bool") mBool) zM))) (zj zAK mIsi (zE (pv 1) (zE (zBE (T := "bool") mBool) zM))) (zAd _))
      (zDF (zBq zCr (pv 0) (pv 1) (zAd _)))))) zAh)
    (zS zGj (zd zGj))),?_⟩
   obtain⟨ta,ya,a1,a2,a3,_⟩:=tyO (K:=K) (H:=H) a
   obtain⟨tb,yb,b1,b2,b3,_⟩:=tyO (K:=K) (H:=H) b
   refine⟨_,rfl,_,_,tb,false,rfl,yb,b1,_,rfl,_,_,ta,false,rfl,ya,a1,rfl,_,rfl,ifF rfl ?_⟩
   refine⟨_,rfl,_,_,tb,false,rfl,yb,b2,_,rfl,_,_,ta,false,rfl,ya,a2,rfl,_,rfl,ifF rfl ?_⟩
   refine⟨_,rfl,by show 2<=sizeLine;decide,fun p hp=>?_⟩
   obtain⟨ta',ya',_,_,a3',_⟩:=tyO (K:=K) (H:=upd H p (.tup [.ty "tuple",.ty "list"])) a
   obtain⟨tb',yb',_,_,b3',b4'⟩:=tyO (K:=K) (H:=upd H p (.tup [.ty "tuple",.ty "list"])) b
   refine⟨_,p,["tuple", "list"],tb',false,rfl,zJ,yb',b4',_,rfl,zCt ?_⟩
   refine⟨_,rfl,_,_,ta',false,rfl,ya',a3',_,rfl,_,_,tb',false,rfl,yb',b3',rfl,_,rfl,ifT rfl ?_⟩
   refine⟨_,rfl,_,rfl,zLq a b,?_⟩
   rw[dec_oV]
   exact k _ (zH hp)
noncomputable def SM (H:Hp):Nat->V->V->Prop
 | 0,a,b=>∃o:Option Int,a=oV o/\b=oV o
 | h+1,a,b=>(∃o:Option Int,a=oV o/\b=oV o)\/∃(p q:Addr)(xs ys:List V),a = .ref p/\b = .ref q/\H p=some (.tup xs)/\H q=some (.tup ys)/\xs.length=ys.length/\xs.length<=1000/\∀(i:Nat)(x y:V),xs[i]? = some x->ys[i]? = some y->SM H h x y
theorem SM.keep {H H':Hp}(s:zAw H H'):∀{h:Nat}{a b:V},SM H h a b->SM H' h a b
 | 0,_,_,h=>h
 | _+1,_,_,.inl h=>.inl h
 | _+1,_,_,.inr ⟨p,q,xs,ys,e1,e2,e3,e4,e5,e6,e7⟩=>.inr ⟨p,q,xs,ys,e1,e2,s _ _ e3,s _ _ e4,e5,e6,fun i x y hx hy=>(e7 i x y hx hy).keep s⟩
noncomputable def spSm (h:Nat):Sp:=fun vs H Q _=>∃a b:V,vs=[a,b]/\SM H h a b/\∀H',zAw H H'->Q (.bl true) H'
noncomputable def spTm (h:Nat):Sp:=fun vs H Q _=>∃a b:V,vs=[a,b]/\(∃(p q:Addr)(xs ys:List V),a = .ref p/\b = .ref q/\H p=some (.tup xs)/\H q=some (.tup ys)/\xs.length=ys.length/\xs.length<=1000/\∀(i:Nat)(x y:V),xs[i]? = some x->ys[i]? = some y->SM H h x y)/\∀H',zAw H H'->Q (.bl true) H'
theorem zJJ {a b:Addr}{own:Nat}{g:TG}{ti:TT}{te:TE}{cv:List V}{H1:Hp}{Q:VK}(hxy:xs.length=ys.length)(Pv:Nat->List V->Hp->Prop)(h0:Pv 0 [] (upd H1 D (.lst [])))(hl:∀i zs H,Pv i zs H->SqT K H a xs/\SqT K H b ys)(hz:∀i zs H,Pv i zs H->zs.length<sizeLine)
 (hs:∀i x y zs H T,xs[i]? = some x->ys[i]? = some y->Pv i zs H->H T=none->g (.ref T) (List.replicate own none++cv.map some) (upd H T (.tup [x,y])) fun σ2 H2=>(σ2.length=own+cv.length/\σ2.drop own=cv.map some) /\
  ti σ2 H2 fun b H3=>if b=true then te σ2 H3 fun y H4=>H4 D=some (.lst zs)/\Pv (i+1) (zs++[y]) (upd H4 D (.lst (zs++[y]))) else Pv (i+1) zs H3)
 (hd:∀zs H,Pv xs.length zs H->Q (.ref D) H):zGV (ItzT K a b) own cv g ti te D H1 Q:=by
 refine⟨fun i m zs H=>m=xs.length-i/\i<=xs.length/\Pv i zs H,⟨xs.length,rfl,zg _,h0⟩,?_⟩
 rintro i m zs H ⟨rfl,hi,p⟩
 obtain⟨q1,q2⟩:=hl i zs H p
 by_cases c:i<xs.length
 . refine .inr ⟨⟨xs,ys,xs[i],ys[i],q1,q2,zD c,zD (by omega)⟩,hz i zs H p,Pv (i+1),fun zs' H' p'=>⟨xs.length-(i+1),by omega,rfl,c,p'⟩,fun x H' y=>?_⟩
   obtain⟨T,u,v,rfl,hT,rfl,hu,hv⟩:=y
   exact hs i u v zs H T (hu xs q1) (hv ys q2) p hT
 . have e:i=xs.length:=by omega
   subst e
   exact .inl ⟨⟨xs,q1,zI _⟩,hd zs H p⟩
theorem zGx:∀n,(List.replicate n (V.bl true)).all zEh=true/\inV (.bl false) (List.replicate n (V.bl true))=false
 | 0=>⟨rfl,rfl⟩
 | n+1=>by
  obtain⟨a,b⟩:=zGx n
  rw[zBB]
  exact⟨by rw[List.all_cons,a];rfl,by unfold inV at b ⊢;rw[List.any_cons,b];rfl⟩
theorem zAg.either {k:Nat}{fd:FuncData}{ps:List Str}{CX:CXT}{sp sp':Sp}(F:zAg P w K mg base CX k f fd ps sp)(F':zAg P w K mg base CX k f fd ps sp'):zAg P w K mg base CX k f fd ps (fun vs H Q E=>sp vs H Q E\/sp' vs H Q E):=
 ⟨fun vs H Q E h=>h.elim (F.len vs H Q E) (F'.len vs H Q E),fun A outer s H args us vs Q E hr he hb hv hs=>hs.elim (F.run A outer s H args us vs Q E hr he hb hv) (F'.run A outer s H args us vs Q E hr he hb hv)⟩
variable {h:Nat}
theorem zKF (F:Fun K "_law_same" "_law_same" zGh f fd') (bF:zAU K fd' ["_law_found", "_law_due"] []) (mF:mg "_law_same" = some (.ref f)) (mIsi:mg "isinstance" = none) (mTuple:mg "tuple" = none) (mList:mg "list" = none) (mLen:mg "len" = none) (mZip:mg "zip" = none)
 (G:zAg P w K mg base CX0 (h+1) f fd' ["_law_found", "_law_due"] (spSm h)):zAg P w K mg base CX0 (h+2) f fd' ["_law_found", "_law_due"] (spTm h):=by
 refine F.ok zIF (fun vs H Q E h=>?_) (fun cdv A outer s H vs Q E hr h=>?_)
 . obtain⟨a,b,rfl,_⟩:=h
   rfl
 . obtain⟨a,b,rfl,⟨p,q,xs,ys,rfl,rfl,hp,hq,hl,h24,al⟩,k⟩:=h
   refine⟨_,zS (zBn (PW.pt (zEc (zAN zFJ (zj zAK mIsi (zE (pv 1) (zE (zBE (T := "tuple") mTuple) zM))) (zj zAK mIsi (zE (pv 0) (zE (zBE (T := "tuple") mTuple) zM))) (zAd _))
    (zDb (zAN zFJ (zj zAK mIsi (zE (pv 1) (zE (zBE (T := "list") mList) zM))) (zj zAK mIsi (zE (pv 0) (zE (zBE (T := "list") mList) zM))) (zAd _))))) (zd (zAJ zCc)) zAh)
    (zS (zBn (zCB (zBx (zj zCn mIsi (zE (pv 1) (zE (zBQ (zE (zBE (T := "tuple") mTuple) (zE (zBE (T := "list") mList) zM))) zM))))) (zd zGj) zAh)
    (zS (zBn (zAN zFJ (zj zAS mLen (zE (pv 0) zM)) (zj zAS mLen (zE (pv 1) zM)) (zAd _)) (zd (zAJ zCc)) zAh)
    (zd (zAJ (zBq zDc zCc (zBH (own:=["_law_one", "_law_other"]) (cn:=[]) (ci:=[]) rfl (csc rfl rfl) trivial rfl (zLz rfl mZip (zE (pv 0) (zE (pv 1) zM)))
     (fun _ _ _ _=>zIV (n:=2) rfl (zA6 (zAA (i:=0) (zB4 rfl) rfl (Or.inl rfl)) (zA6 (zAA (i:=1) (zB4 rfl) rfl (Or.inl rfl)) zC8))) (fun _ _ _ _=>zB2)
     (fun _ _ _ _=>zy G hr rfl mF F.kp bF .nil zAt (zE (pv 0) (zE (pv 1) zM)))) (by with_unfolding_all rfl)))))),?_⟩
   refine⟨_,rfl,_,_,_,true,rfl,.tup hq,rfl,_,rfl,_,_,_,true,rfl,.tup hp,rfl,rfl,_,rfl,ifF rfl ?_⟩
   refine⟨_,rfl,_,_,_,false,rfl,.tup hq,rfl,_,rfl,_,_,_,false,rfl,.tup hp,rfl,rfl,_,rfl,ifF rfl ?_⟩
   refine⟨_,rfl,by show 2<=sizeLine;decide,fun t ht=>?_⟩
   have s1:=zH (o:=.tup [.ty "tuple",.ty "list"]) ht
   refine⟨_,t,["tuple", "list"],_,true,rfl,zJ,.tup (s1 _ _ hq),rfl,_,rfl,zCw ?_⟩
   have hp1:=s1 _ _ hp
   have hq1:=s1 _ _ hq
   generalize upd H t (.tup [.ty "tuple",.ty "list"])=H1 at s1 hp1 hq1 ⊢
   refine⟨_,rfl,p,xs,rfl,.inr (SqT.of hp1),_,rfl,q,ys,rfl,.inr (SqT.of hq1),rfl,_,rfl,?_⟩
   refine ifF (by rw[hl];simp) ?_
   refine⟨_,rfl,_,rfl,p,q,rfl,⟨xs,SqT.of hp1⟩,⟨ys,SqT.of hq1⟩,[],rfl,fun D hD=>?_⟩
   refine zJJ (xs:=xs) (ys:=ys) hl (fun i zs H5=>i<=xs.length/\zs=List.replicate i (V.bl true)/\zAw H1 H5/\H5 D=some (.lst zs)) ⟨zg _,rfl,zH hD,zJ⟩ (fun i zs H5 z=>⟨SqT.of (z.2.2.1 _ _ hp1),SqT.of (z.2.2.1 _ _ hq1)⟩) (fun i zs H5 z=>?_) (fun i x y zs H5 T hx hy z hT=>?_) (fun zs H5 z=>?_)
   . obtain⟨hi,rfl,_⟩:=z
     rw[zAY]
     exact zl (by omega)
   . obtain⟨hi,rfl,s5,hD5⟩:=z
     have sT:=zH (o:=.tup [x,y]) hT
     refine⟨T,_,rfl,SqT.of zJ,rfl,_,_,rfl,_,_,rfl,rfl,⟨rfl,rfl⟩,?_⟩
     refine zGa ?_
     refine⟨_,rfl,_,rfl,x,y,rfl,((al i x y hx hy).keep s1).keep (s5.trans sT),fun H6 s6=>?_⟩
     refine⟨s6 _ _ (sT _ _ hD5),(zK.mp hx).1,?_,zAu ((s5.trans sT).trans s6) hD,zJ⟩
     rw[List.replicate_succ']
   . obtain⟨_,rfl,s5,hD5⟩:=z
     refine⟨D,_,rfl,.inl (SqL.of hD5),rfl,(zGx _).1,?_⟩
     rw[(zGx _).2]
     exact k _ (s1.trans s5)
theorem zHD {f:Addr}{fd':FuncData}(F:Fun K "_law_same" "_law_same" zGh f fd') (bF:zAU K fd' ["_law_found", "_law_due"] []) (mF:mg "_law_same" = some (.ref f)) (mIsi:mg "isinstance" = none) (mTuple:mg "tuple" = none) (mList:mg "list" = none) (mBool:mg "bool" = none) (mLen:mg "len" = none) (mZip:mg "zip" = none) :
 ∀h,zAg P w K mg base CX0 (h+1) f fd' ["_law_found", "_law_due"] (spSm h)
 | 0=>(zIe F mIsi mTuple mList mBool).imp fun vs H Q E ⟨a,b,e,⟨o,e1,e2⟩,k⟩=>⟨o,o,by rw[e,e1,e2],fun H' s=>by rw[zW rfl];exact k H' s⟩
 | h+1=>(zAg.either ((zIe F mIsi mTuple mList mBool).mono (by omega)) (zKF F bF mF mIsi mTuple mList mLen mZip (zHD F bF mF mIsi mTuple mList mBool mLen mZip h))).imp fun vs H Q E ⟨a,b,e,m,k⟩=>by
  rcases m with ⟨o,e1,e2⟩ | m
  . exact .inl ⟨o,o,by rw[e,e1,e2],fun H' s=>by rw[zW rfl];exact k H' s⟩
  . exact .inr ⟨a,b,e,m,k⟩
variable {X:Cx}
theorem ps_as {st:Stmt}{u u':TS}(h:PS X st u)(m:∀D σ H,u' D σ H->u D σ H):PS X st u':=fun pins s σ H D I q=>h pins s σ H D I (m D σ H q)
noncomputable def enc:Option Int->Int
 | none=>1000000
 | some d=>min d 1000000
noncomputable def eI (o:Option Int):V:=.int (enc o)
noncomputable def zA9 (H:Hp)(rs:List Addr)(M:lLO):Prop:=rs.length=M.length/\rs.Nodup/\∀(i:Nat)(r:Addr)(row:List (Option Int)),rs[i]? = some r->M[i]? = some row->H r=some (.lst (row.map eI))
theorem zA9.keep {M:lLO}(h:zA9 H rs M)(k:∀b ys,H b=some (.lst ys)->b∈rs->H' b=some (.lst ys)):zA9 H' rs M:=⟨h.1,h.2.1,fun i r row a b=>k r _ (h.2.2 i r row a b) (zU a)⟩
theorem zA9.same {M:lLO}(h:zA9 H rs M)(k:zAw H H'):zA9 H' rs M:=h.keep fun b ys e _=>k _ _ e
theorem zA9.get {M:lLO}(h:zA9 H rs M)(S:Sqm n M)(ha:0<=a)(ha':a<n):∃r row,rs[a.toNat]? = some r/\M[a.toNat]? = some row/\M.getD a.toNat []=row/\row.length=n.toNat/\H r=some (.lst (row.map eI))/\∀y,fnl row y=mat M a y:=by
 obtain⟨row,h1,h2,h3⟩:=S.row ha ha'
 have hl:a.toNat<rs.length:=by rw[h.1,S.ln];omega
 exact⟨rs[a.toNat],row,zD hl,h1,h2,h3,h.2.2 _ _ _ (zD hl) h1,fun y=>by unfold mat;rw[if_pos ha,h2]⟩
theorem zA9.set {H:Hp}{rs:List Addr}{M:lLO}{n a b:Int}{v:Option Int}{r:Addr}{row:List (Option Int)}(h:zA9 H rs M)(S:Sqm n M)(ha:0<=a)(ha':a<n)(h1:rs[a.toNat]? = some r)(h2:M[a.toNat]? = some row) :
 zA9 (upd H r (.lst ((row.map eI).set b.toNat (eI v)))) rs (zHp M a b v):=by
 refine⟨by unfold zHp;rw[List.length_set];exact h.1,h.2.1,fun i r' row' a1 a2=>?_⟩
 unfold zHp at a2
 rw[List.getElem?_set] at a2
 have hlt:a.toNat<M.length:=(zK.mp h2).1
 by_cases e:a.toNat=i
 . subst e
   rw[if_pos rfl,if_pos hlt] at a2
   rw[h1] at a1
   cases a1
   cases a2
   rw[zJ,zF,h2,zBR,List.map_set]
 . rw[if_neg e] at a2
   have hne:r'≠r:=fun z=>by
    subst z
    exact e ((List.getElem?_inj ((zK.mp h1).1) h.2.1).mp (h1.trans a1.symm))
   rw[zk hne]
   exact h.2.2 i r' row' a1 a2
theorem zFE {row:List (Option Int)}(hl:row.length=n.toNat)(h0:0<=y)(h1:y<n):atI (row.map eI) y=some (.int (enc (fnl row y))):=by
 have hlt:y.toNat<row.length:=by omega
 refine zAv h0 ?_
 rw[zP,zD hlt]
 unfold fnl
 rw[if_pos h0,zF,zD hlt];rfl
noncomputable def zIP (a:Int)(j:Nat):List (Option Int):=(List.range j).map fun (b:Nat)=>if a=(b:Int) then some 0 else none
theorem zIO (a:Int)(j:Nat):zIP a (j+1)=zIP a j++[if a=(j:Int) then some 0 else none]:=by unfold zIP;rw[List.range_succ,zR];rfl
theorem zG9 (a:Int)(j:Nat):(zIP a j).length=j:=by unfold zIP;rw[zB,zAV]
theorem zJx (h0:0<=y)(h1:y<j):fnl (zIP a j) y=if a=y then some 0 else none:=by
 unfold fnl zIP
 rw[if_pos h0,zF,zP,List.getElem?_range (by omega)]
 show (if a=((y.toNat:Nat):Int) then some 0 else none)=_
 rw[show ((y.toNat:Nat):Int)=y by omega]
theorem zKb {a b c:Option Int}(ha:∀d,a=some d->0<=d)(hb:∀d,b=some d->0<=d)(hc:∀d,c=some d->0<=d):(if enc b+enc c<enc a then enc b+enc c else enc a)=enc (oles a (oadd b c)):=by
 cases a with
 | none=>cases b with
  | none=>cases c with
   | none=>show (if (1000000:Int)+1000000<1000000 then _ else _)=1000000;rw[if_neg (by omega)];rfl
   | some z=>have:=hc z rfl;show (if (1000000:Int)+min z 1000000<1000000 then _ else _)=1000000;rw[if_neg (by omega)];rfl
  | some y=>
   have:=hb y rfl
   cases c with
   | none=>show (if min y 1000000+(1000000:Int)<1000000 then _ else _)=1000000;rw[if_neg (by omega)];rfl
   | some z=>
    have:=hc z rfl
    show (if min y 1000000+min z 1000000<(1000000:Int) then min y 1000000+min z 1000000 else 1000000)=min (y+z) 1000000
    split <;> omega
 | some x=>
  have:=ha x rfl
  cases b with
  | none=>cases c with
   | none=>show (if (1000000:Int)+1000000<min x 1000000 then _ else _)=min x 1000000;rw[if_neg (by omega)];rfl
   | some z=>have:=hc z rfl;show (if (1000000:Int)+min z 1000000<min x 1000000 then _ else _)=min x 1000000;rw[if_neg (by omega)];rfl
  | some y=>
   have:=hb y rfl
   cases c with
   | none=>show (if min y 1000000+(1000000:Int)<min x 1000000 then _ else _)=min x 1000000;rw[if_neg (by omega)];rfl
   | some z=>
    have:=hc z rfl
    show (if min y 1000000+min z 1000000<min x 1000000 then min y 1000000+min z 1000000 else min x 1000000)=min (if y+z<x then y+z else x) 1000000
    split <;> split <;> omega
noncomputable def zKt:Sp:=fun vs H Q _=>∃(wa:Addr)(n:Int)(ts:List T3),vs=[.ref wa]/\zBw H wa n ts /\
 ∀(fl:Addr)(rs:List Addr)(M:lLO)(H':Hp),zAw H H'->H fl=none->H' fl=some (.lst (rs.map V.ref))->zA9 H' rs M->Rows ts n M->Q (.ref fl) H'
theorem zDD:zAO ["_law_web_here", "_law_many", "_law_rows_here", "_law_a", "_law_b", "_law_long", "_law_at", "_law_one", "_law_other"] ["_law_web_here"] (defScope zJq):=fS0
theorem zMF (F:Fun K "_law_rows" "_law_rows" zJq f fd') (mRange:mg "range" = none) (mInt:mg "int" = none) (mMin:mg "min" = none):zAg P w K mg base CX0 1 f fd' ["_law_web_here"] zKt:=by
 refine F.ok zDD (fun vs H Q E h=>?_) (fun cdv A outer s H vs Q E hr h=>?_)
 . obtain⟨wa,n,ts,rfl,_⟩:=h
   rfl
 . obtain⟨wa,n,ts,rfl,W,k⟩:=h
   obtain⟨ta,tys,hwa,hta,TA,G⟩:=id W
   have hn1:=G.n1
   have hn24:=G.n24
   refine⟨_,zS (zAa (i:=1) zDD.nd rfl (Or.inr rfl) (zAT zAy (pv 0) zz (fun _ _=>rfl)))
    (zS (zJ4 (yc := "_law_one") (i:=2) (own:=["_law_one"]) (cn:=["_law_many"]) (ci:=[1]) zDD.nd rfl (Or.inl rfl) rfl (csc1 rfl (fun _ _=>rfl) rfl rfl) ⟨rfl,rfl,rfl,trivial⟩ rfl
     (zA5 rfl mRange (zE (pv 1) zM)) (fun _ _ _ _=>zAA (i:=0) (zB4 rfl) rfl (Or.inr rfl)) (fun _ _ _ _=>zB2)
     (fun _ _ _ _=>zBH (own:=["_law_other"]) (cn:=["_law_one"]) (ci:=[0]) rfl (csc rfl rfl) ⟨rfl,rfl,rfl,trivial⟩ rfl
      (zA5 rfl mRange (zE (pv 1) zM)) (fun _ _ _ _=>zAA (i:=0) (zB4 rfl) rfl (Or.inl rfl)) (fun _ _ _ _=>zB2)
      (fun _ _ _ _=>zA3 zDd (zA3 zFx zz zz) (zAc zER mInt (zE (zBq zFJ (pv 1) (pv 0) (zAd _)) zM)))))
    (zS (zB3 PassesOwn.never rfl (zB9 (zAT zAy (pv 0) zz (fun _ _=>rfl))) (zEr rfl (zA6 (zAA (i:=3) zDD.nd rfl (Or.inl rfl)) (zA6 (zAA (i:=4) zDD.nd rfl (Or.inl rfl)) (zA6 (zAA (i:=5) zDD.nd rfl (Or.inl rfl)) zC8))))
     (zS (zD7 (pv 5) (zEB (zAT zAi (pv 2) (pv 3) (fun _ _=>rfl)) (pv 4) zCi))
     (zd (zD7 (pv 5) (zEB (zAT zAi (pv 2) (pv 4) (fun _ _=>rfl)) (pv 3) zCi)))))
    (zS (zB3 PassesOwn.never rfl (zA5 rfl mRange (zE (pv 1) zM)) (zAA (i:=6) zDD.nd rfl (Or.inl rfl))
     (zd (zB3 PassesOwn.never rfl (zA5 rfl mRange (zE (pv 1) zM)) (zAA (i:=7) zDD.nd rfl (Or.inl rfl))
      (zd (zB3 PassesOwn.never rfl (zA5 rfl mRange (zE (pv 1) zM)) (zAA (i:=8) zDD.nd rfl (Or.inl rfl))
       (zd (zD7 (zj (zGN rfl) mMin (zE (zAT zAi (zAT zAi (pv 2) (pv 7) (fun _ _=>rfl)) (pv 8) (fun _ _=>rfl))
        (zE (zA3 zCL (zAT zAi (zAT zAi (pv 2) (pv 7) (fun _ _=>rfl)) (pv 6) (fun _ _=>rfl)) (zAT zAi (zAT zAi (pv 2) (pv 6) (fun _ _=>rfl)) (pv 8) (fun _ _=>rfl))) zM)))
        (zEB (zAT zAi (pv 2) (pv 7) (fun _ _=>rfl)) (pv 8) zCi))))))))
    (zd (zAJ (pv 2)))))),?_⟩
   refine⟨_,rfl,_,_,_,_,rfl,rfl,SqT.of hwa,rfl,?_⟩
   refine⟨_,rfl,n,rfl,by omega,by omega,[.int n],rfl,fun D hD=>?_⟩
   refine zBV (lo:=0) (n:=n.toNat) (fun q ys H1=>q<=n.toNat/\∃(rs:List Addr)(M:lLO),ys=rs.map V.ref/\rs.length=q/\zA9 H1 rs M/\(∀x:Nat,x<q->M[x]? = some (zIP x n.toNat))/\(∀r∈rs,H r=none/\r≠D)/\zAw H H1/\H1 D=some (.lst ys))
    ⟨zg _,[],[],rfl,rfl,⟨rfl,List.nodup_nil,fun i r row h=>by simp at h⟩,fun x hx=>absurd hx (zBz _),fun r h=>by simp at h,zH hD,zJ⟩ (fun q ys H1 h=>?_) (fun q ys H1 hq h=>?_) (fun ys H1 h=>?_)
   . obtain⟨hq,rs,M,rfl,hl,_⟩:=h
     rw[zB,hl]
     exact zl (by omega)
   . obtain⟨_,rs,M,rfl,hl,R,L,fr,sm,hD1⟩:=h
     rw[zAn]
     refine⟨⟨rfl,rfl⟩,?_⟩
     refine zGa ?_
     refine⟨_,rfl,n,rfl,by omega,by omega,[.int q],rfl,fun D2 hD2=>?_⟩
     have nD2:D2≠D:=fun z=>by rw[z,hD1] at hD2;cases hD2
     refine zBV (lo:=0) (n:=n.toNat) (fun j ys H2=>j<=n.toNat/\ys=(zIP q j).map eI/\zAw H1 H2/\H2 D2=some (.lst ys))
      ⟨zg _,rfl,zH hD2,zJ⟩ (fun j ys H2 h=>?_) (fun j ys H2 hj h=>?_) (fun ys H2 h=>?_)
     . obtain⟨hj,rfl,_⟩:=h
       rw[zB,zG9]
       exact zl (by omega)
     . obtain⟨_,rfl,s2,h2⟩:=h
       rw[zAn]
       refine⟨⟨rfl,rfl⟩,?_⟩
       refine zGa ?_
       refine⟨_,_,rfl,rfl,⟨by decide,by decide,by decide⟩,_,rfl,_,rfl,rfl,.inr ⟨_,rfl,_,_,rfl,rfl,.inl ⟨by decide,by decide⟩,h2,hj,?_,zAu s2 hD2,zJ⟩⟩
       rw[zIO,zR]
       congr 1
       by_cases e:(q:Int)=(j:Int)
       . rw[if_pos e,zW (congrArg V.int e)];rfl
       . rw[if_neg e,zu fun z=>e (V.int.inj z)];rfl
     . obtain⟨_,rfl,s2,h2⟩:=h
       have hD22:H2 D=some (.lst (rs.map V.ref)):=s2 _ _ hD1
       have frD2:H D2=none:=by
        cases z:H D2 with
        | none=>rfl
        | some o=>rw[sm _ _ z] at hD2;cases hD2
       have nin:D2∉rs:=fun z=>by
        obtain⟨i,hi,e⟩:=zAL z
        have hM:i<M.length:=by rw[<-R.1];exact hi
        have:=R.2.2 i D2 M[i] (by rw[zD hi,e]) (zD hM)
        rw[hD2] at this;cases this
       refine⟨hD22,hq,rs++[D2],M++[zIP q n.toNat],by rw[zR];rfl,by rw[zO,hl];rfl,⟨by rw[zO,zO,R.1];rfl,?_,fun i r row h1 h3=>?_⟩,fun x hx=>?_,fun r hr'=>?_,zAu (sm.trans s2) hD,zJ⟩
       . exact List.nodup_append.mpr ⟨R.2.1,by simp,fun a ha b hb=>by
          have e:b=D2:=by simpa using hb
          rw[e];exact fun z=>nin (z ▸ ha)⟩
       . have key:H2 r=some (.lst (row.map eI))/\r≠D:=by
          by_cases hi:i<rs.length
          . rw[zh hi] at h1
            rw[zh (by rw[<-R.1];exact hi)] at h3
            exact⟨s2 _ _ (R.2.2 i r row h1 h3),(fr r (zU h1)).2⟩
          . rw[za (by omega)] at h1
            rw[za (by rw[<-R.1];omega),<-R.1] at h3
            cases hz:i-rs.length with
            | zero=>
             rw[hz] at h1 h3
             have e1:D2=r:=by simpa using h1
             have e2:zIP q n.toNat=row:=by simpa using h3
             subst e1 e2
             exact⟨h2,nD2⟩
            | succ k=>rw[hz] at h1;simp at h1
         rw[zk key.2]
         exact key.1
       . by_cases hx':x<q
         . rw[zh (by rw[<-R.1,hl];exact hx')]
           exact L x hx'
         . have e:x=q:=by omega
           subst e
           rw[za (by rw[<-R.1,hl];exact zI _),<-R.1,hl]
           simp
       . rcases zm.mp hr' with z | z
         . exact fr r z
         . have e:r=D2:=by simpa using z
           rw[e];exact⟨frD2,nD2⟩
   . obtain⟨_,rs,M,rfl,hl,R,L,fr,sm,hD1⟩:=h
     have hML:M.length=n.toNat:=by rw[<-R.1,hl]
     have S0:Sqm n M:=⟨hML,fun r hr'=>by
      obtain⟨i,hi,e⟩:=zAL hr'
      have:=L i (by omega)
      rw[zD hi,e] at this
      rw[zX this,zG9]⟩
     have M0:∀x y,0<=x->x<n->0<=y->y<n->mat M x y=if x=y then some 0 else none:=fun x y hx hx' hy hy'=>by
      unfold mat
      rw[if_pos hx,zF,L x.toNat (by omega),zBR,zJx hy (by omega),show ((x.toNat:Nat):Int)=x by omega]
     have wr:∀{H2:Hp}{r:Addr}{o:HO},r∈rs->zAw H H2->zAw H (upd H2 r o):=fun {H2 r o} hr' s2=>zAu s2 (fr r hr').1
     have wD:∀{H2:Hp}{r:Addr}{o:HO},r∈rs->H2 D=some (.lst (rs.map V.ref))->(upd H2 r o) D=some (.lst (rs.map V.ref)):=fun {H2 r o} hr' e=>by rw[zk (fr r hr').2.symm];exact e
     refine⟨_,rfl,_,_,_,_,rfl,rfl,SqT.of (sm _ _ hwa),rfl,ta,rfl,⟨_,SqT.of (sm _ _ hta)⟩,zCk (K:=K) (a:=ta) (xs:=tys)
      (fun i σ H2=>∃(v3 v4 v5 v6 v7 v8:Option V)(M:lLO),σ=[some (.ref wa),some (.int n),some (.ref D),v3,v4,v5,v6,v7,v8]/\zAw H H2/\H2 D=some (.lst (rs.map V.ref))/\zA9 H2 rs M/\Sqm n M/\Ft (ts.take i) n (mat M))
      ⟨_,_,_,_,_,_,M,rfl,sm,hD1,R,S0,by rw[List.take_zero];exact Ft.nil n M0⟩ (fun i σ H2 _ ⟨_,_,_,_,_,_,_,_,s,_⟩=>SqT.of (s _ _ hta)) ?turn1 ?after1⟩
     case turn1=>
      rintro i y σ H2 hi ⟨v3,v4,v5,v6,v7,v8,M2,rfl,s2,hD2,R2,S2,T2⟩
      obtain⟨ya,ky,rfl,hky,hya,_⟩:=TA.get hi
      rw[zP] at hky
      obtain⟨⟨a,b,c⟩,hti,rfl⟩:∃t:T3,ts[i]? = some t/\tl t=ky:=by
       cases e:ts[i]? with
       | none=>rw[e] at hky;cases hky
       | some t=>rw[e] at hky;exact⟨t,rfl,zX hky⟩
      have hm:=zU hti
      have hr3:=G.rng _ hm
      simp only at hr3
      have ec:V.int c=eI (some c):=by show V.int c=V.int (min c 1000000);rw[Int.min_eq_left (by omega)]
      obtain⟨ra,rowa,a1,a2,a3,a4,a5,_⟩:=R2.get S2 (a:=a) (by omega) (by omega)
      have ma:=zU a1
      refine⟨ya,_,rfl,SqT.of (s2 _ _ hya),rfl,_,_,rfl,_,_,rfl,_,_,rfl,rfl,?_⟩
      refine⟨_,rfl,_,rfl,_,rfl,D,_,_,.ref ra,rfl,rfl,SqL.of hD2,zAv (by omega) (by rw[zP,a1];rfl),_,rfl,ra,_,b,b.toNat,rfl,rfl,a5,zHH (by omega) (by rw[zB,a4];omega),?_⟩
      have R3:zA9 (upd H2 ra (.lst ((rowa.map eI).set b.toNat (.int c)))) rs (zHp M2 a b (some c)):=by rw[ec];exact R2.set S2 (v:=some c) (by omega) (by omega) a1 a2
      have S3:Sqm n (zHp M2 a b (some c)):=S2.set (by omega) (by omega)
      have s3:=wr (o:=.lst ((rowa.map eI).set b.toNat (.int c))) ma s2
      have hD3:=wD (o:=.lst ((rowa.map eI).set b.toNat (.int c))) ma hD2
      generalize upd H2 ra (.lst ((rowa.map eI).set b.toNat (.int c)))=H3 at R3 s3 hD3 ⊢
      obtain⟨rb,rowb,b1,b2,b3,b4,b5,_⟩:=R3.get S3 (a:=b) (by omega) (by omega)
      have mb:=zU b1
      refine⟨_,rfl,_,rfl,_,rfl,D,_,_,.ref rb,rfl,rfl,SqL.of hD3,zAv (show 0<=b by omega) (by rw[zP,b1];rfl),_,rfl,rb,_,a,a.toNat,rfl,rfl,b5,zHH (by omega) (by rw[zB,b4];omega),?_⟩
      have R4:zA9 (upd H3 rb (.lst ((rowb.map eI).set a.toNat (.int c)))) rs (zHp (zHp M2 a b (some c)) b a (some c)):=by rw[ec];exact R3.set S3 (v:=some c) (by omega) (by omega) b1 b2
      refine⟨_,_,_,_,_,_,_,rfl,wr mb s3,wD mb hD3,R4,S3.set (by omega) (by omega),?_⟩
      have hsp:ts=ts.take i++(a,b,c)::ts.drop (i+1):=by
       have hil:=(zK.mp hti)
       conv=>lhs;rw[<-List.take_append_drop i ts,List.drop_eq_getElem_cons hil.1,hil.2]
      have htk:ts.take (i+1)=ts.take i++[(a,b,c)]:=by rw[zAH,hti];rfl
      rw[htk]
      refine (Ft.put (post:=ts.drop (i+1)) (by rw[<-hsp];exact G) T2).congr fun x y hx hx' hy hy'=>?_
      rw[zGo S3 (by omega) (by omega) (by omega) (by omega) hx hx',zGo S2 (by omega) (by omega) (by omega) (by omega) hx hx']
     case after1=>
      rintro σ H2 ⟨v3,v4,v5,v6,v7,v8,M2,rfl,s2,hD2,R2,S2,T2⟩
      have hlt:tys.length=ts.length:=by rw[TA.length,zB]
      rw[hlt,List.take_length] at T2
      have FC:=T2.fw G
      refine⟨_,rfl,n,rfl,by omega,by omega,zCU (lo:=0) (n:=n.toNat)
       (fun kk σ H3=>∃(v3 v4 v5 v6 v7 v8:Option V)(M:lLO),σ=[some (.ref wa),some (.int n),some (.ref D),v3,v4,v5,v6,v7,v8]/\zAw H H3/\H3 D=some (.lst (rs.map V.ref))/\zA9 H3 rs M/\Sqm n M/\Fw ts n (mat M)/\Cov ts n (kk:Int) (mat M))
       ⟨_,_,_,_,_,_,M2,rfl,s2,hD2,R2,S2,FC.1,FC.2⟩ ?turn2 ?after2⟩
      case after2=>
       rintro σ H3 ⟨v3,v4,v5,v6,v7,v8,M3,rfl,s3,hD3,R3,S3,f3,c3⟩
       rw[show ((n.toNat:Nat):Int)=n by omega] at c3
       exact⟨_,rfl,k D rs M3 H3 s3 hD hD3 R3 (zLt G S3 f3 c3)⟩
      case turn2=>
       rintro kk σ H3 hkk ⟨v3,v4,v5,v6,v7,v8,M3,rfl,s3,hD3,R3,S3,f3,c3⟩
       rw[zAn]
       refine⟨_,rfl,n,rfl,by omega,by omega,zCU (lo:=0) (n:=n.toNat)
        (fun aa σ H4=>∃(v3 v4 v5 v7 v8:Option V)(M:lLO),σ=[some (.ref wa),some (.int n),some (.ref D),v3,v4,v5,some (.int (kk:Int)),v7,v8]/\zAw H H4/\H4 D=some (.lst (rs.map V.ref))/\zA9 H4 rs M/\Sqm n M/\Fm ts n (kk:Int) (mat M) (fun x _=>x<(aa:Int)))
        ⟨_,_,_,_,_,M3,rfl,s3,hD3,R3,S3,(Fm.enter f3 c3).congr (fun _ _ _ _ _ _=>rfl) fun x y hx _ _ _ z=>by omega⟩ ?turn3 ?after3⟩
       case after3=>
        rintro σ H4 ⟨v3,v4,v5,v7,v8,M4,rfl,s4,hD4,R4,S4,F4⟩
        have fc:=F4.leave fun x y _ hx' _ _=>by omega
        exact⟨_,_,_,_,_,_,M4,rfl,s4,hD4,R4,S4,fc.1,fc.2⟩
       case turn3=>
        rintro aa σ H4 haa ⟨v3,v4,v5,v7,v8,M4,rfl,s4,hD4,R4,S4,F4⟩
        rw[zAn]
        refine⟨_,rfl,n,rfl,by omega,by omega,zCU (lo:=0) (n:=n.toNat)
         (fun bb σ H5=>∃(v3 v4 v5 v8:Option V)(M:lLO),σ=[some (.ref wa),some (.int n),some (.ref D),v3,v4,v5,some (.int (kk:Int)),some (.int (aa:Int)),v8]/\zAw H H5/\H5 D=some (.lst (rs.map V.ref))/\zA9 H5 rs M/\Sqm n M/\Fm ts n (kk:Int) (mat M) (fun x y=>x<(aa:Int)\/(x=(aa:Int)/\y<(bb:Int))))
         ⟨_,_,_,_,M4,rfl,s4,hD4,R4,S4,F4.congr (fun _ _ _ _ _ _=>rfl) fun x y _ _ hy _ z=>by omega⟩ ?turn4 ?after4⟩
        case after4=>
         rintro σ H5 ⟨v3,v4,v5,v8,M5,rfl,s5,hD5,R5,S5,F5⟩
         exact⟨_,_,_,_,_,M5,rfl,s5,hD5,R5,S5,F5.congr (fun _ _ _ _ _ _=>rfl) fun x y _ _ _ hy' z=>by omega⟩
        case turn4=>
         rintro bb σ H5 hbb ⟨v3,v4,v5,v8,M5,rfl,s5,hD5,R5,S5,F5⟩
         rw[zAn]
         obtain⟨ra,rowa,a1,a2,a3,a4,a5,a6⟩:=R5.get S5 (a:=(aa:Int)) (by omega) (by omega)
         obtain⟨rk,rowk,k1,k2,k3,k4,k5,k6⟩:=R5.get S5 (a:=(kk:Int)) (by omega) (by omega)
         have ma:=zU a1
         have nn:∀x y d,0<=x->x<n->0<=y->y<n->mat M5 x y=some d->0<=d:=fun x y d h1 h2 h3 h4 e=>(F5.fw.snd x y d h1 h2 h3 h4 e).nn G
         refine⟨_,rfl,_,rfl,D,_,_,.ref ra,rfl,rfl,SqL.of hD5,zAv (by omega) (by rw[zP,a1];rfl),_,rfl,ra,_,_,_,rfl,rfl,SqL.of a5,zFE a4 (by omega) (by omega),?_⟩
         refine⟨_,rfl,_,rfl,D,_,_,.ref ra,rfl,rfl,SqL.of hD5,zAv (by omega) (by rw[zP,a1];rfl),_,rfl,ra,_,_,_,rfl,rfl,SqL.of a5,zFE a4 (by omega) (by omega),?_⟩
         refine⟨_,rfl,_,rfl,D,_,_,.ref rk,rfl,rfl,SqL.of hD5,zAv (by omega) (by rw[zP,k1];rfl),_,rfl,rk,_,_,_,rfl,rfl,SqL.of k5,zFE k4 (by omega) (by omega),?_⟩
         refine⟨_,_,rfl,rfl,_,_,rfl,?_⟩
         dsimp only
         have es:=zKb (a:=fnl rowa (bb:Int)) (b:=fnl rowa (kk:Int)) (c:=fnl rowk (bb:Int)) (fun d e=>nn aa bb d (by omega) (by omega) (by omega) (by omega) (by rw[<-a6];exact e)) (fun d e=>nn aa kk d (by omega) (by omega) (by omega) (by omega) (by rw[<-a6];exact e)) (fun d e=>nn kk bb d (by omega) (by omega) (by omega) (by omega) (by rw[<-k6];exact e))
         rw[es]
         refine⟨_,rfl,_,rfl,D,_,_,.ref ra,rfl,rfl,SqL.of hD5,zAv (by omega) (by rw[zP,a1];rfl),_,rfl,ra,_,_,(bb:Int).toNat,rfl,rfl,a5,zHH (by omega) (by rw[zB,a4];omega),?_⟩
         refine⟨_,_,_,_,_,rfl,wr ma s5,wD ma hD5,R5.set S5 (by omega) (by omega) a1 a2,S5.set (by omega) (by omega),?_⟩
         refine (Fm.step G F5 (a:=(aa:Int)) (b:=(bb:Int)) (by omega) (by omega) (by omega) (by omega) (by omega) (by omega)).congr (fun x y hx hx' hy hy'=>?_) fun x y _ _ _ _ z=>by omega
         rw[zGo S5 (by omega) (by omega) (by omega) (by omega) hx hx',a6,a6,k6]
structure Prt (n:Int)(ps:List Int):Prop where
 ri:ps.Pairwise (· < ·)
 rng:∀p∈ps,0<=p/\p<n
 ne:ps≠[]
structure Cvx (ts:List T3)(n:Int)(ps:List Int):Prop where
 pr:Prt n ps
 cv:∀x∈ps,∀y∈ps,∀p,Btw ts x y p->p∈ps
noncomputable def ixP (ps:List Int)(p:Int):Int:=(ps.idxOf p:Nat)
variable {ps:List Int}
theorem Prt.nd (h:Prt n ps):ps.Nodup:=h.ri.imp fun h e=>by omega
theorem Prt.len (h:Prt n ps):1<=ps.length/\ps.length<=n.toNat:=by
 refine⟨List.length_pos_iff.mpr h.ne,nd_len h.nd fun x hx=>?_⟩
 have:=h.rng x hx
 omega
theorem zF4 {p:Int}(h:p∈ps):0<=ixP ps p/\ixP ps p<ps.length/\ps[(ixP ps p).toNat]? = some p:=by
 have hl:ps.idxOf p<ps.length:=List.idxOf_lt_length_iff.mpr h
 unfold ixP
 refine⟨by omega,by omega,?_⟩
 rw[zAB,zD hl,List.getElem_idxOf hl]
theorem ix_at (nd:ps.Nodup){p:Int}(h:ps[i]? = some p):ixP ps p=i:=by
 obtain⟨hi,e⟩:=zK.mp h
 obtain⟨_,h2,h3⟩:=zF4 (zU h)
 obtain⟨hj,e'⟩:=zK.mp h3
 have:=(List.getElem_inj nd).mp (e.trans e'.symm)
 have h0:0<=ixP ps p:=Int.natCast_nonneg _
 omega
theorem zIw {p q:Int}(hp:p∈ps)(hq:q∈ps)(e:ixP ps p=ixP ps q):p=q:=by
 have a:=(zF4 hp).2.2
 rw[e,(zF4 hq).2.2] at a
 exact (zX a).symm
theorem ix_lt (P:Prt n ps){p q:Int}(hp:p∈ps)(hq:q∈ps):ixP ps p<ixP ps q↔p<q:=by
 obtain⟨a0,a1,a2⟩:=zF4 hp
 obtain⟨b0,b1,b2⟩:=zF4 hq
 obtain⟨_,e1⟩:=zK.mp a2
 obtain⟨_,e2⟩:=zK.mp b2
 have key:=zAQ.mp P.ri
 constructor
 . intro h
   have:=key (ixP ps p).toNat (ixP ps q).toNat (by omega) (by omega) (by omega)
   rw[e1,e2] at this
   exact this
 . intro h
   apply zAm
   intro hn
   by_cases e:ixP ps p=ixP ps q
   . have:=zIw hp hq e;omega
   . have:=key (ixP ps q).toNat (ixP ps p).toNat (by omega) (by omega) (by omega)
     rw[e1,e2] at this
     omega
noncomputable def inT (ps:List Int)(t:T3):Bool:=decide (t.1∈ps) && decide (t.2.1∈ps)
noncomputable def newT (ps:List Int)(t:T3):T3:=(ixP ps t.1,ixP ps t.2.1,t.2.2)
noncomputable def zGW (ps:List Int)(ts:List T3):List T3:=(ts.filter (inT ps)).map (newT ps)
theorem zCT {t:T3}:inT ps t=true↔t.1∈ps/\t.2.1∈ps:=by unfold inT;simp
theorem zKO {u:T3}:u∈zGW ps ts↔∃t∈ts,t.1∈ps/\t.2.1∈ps/\newT ps t=u:=by
 unfold zGW
 rw[zAM]
 constructor
 . rintro ⟨t,ht,e⟩
   obtain⟨a,b⟩:=zAs.mp ht
   exact⟨t,a,(zCT.mp b).1,(zCT.mp b).2,e⟩
 . rintro ⟨t,a,b,c,e⟩
   exact⟨t,zAs.mpr ⟨a,zCT.mpr ⟨b,c⟩⟩,e⟩
theorem zLN (G:GW n ts)(P:Prt n ps):GW (ps.length:Int) (zGW ps ts):=by
 have hl:=P.len
 have hn:=G.n24
 refine⟨by omega,by omega,?_,fun u hu=>?_,?_⟩
 . have:=zo (inT ps) ts
   unfold zGW
   rw[zB]
   have:=G.len
   omega
 . obtain⟨t,ht,h1,h2,rfl⟩:=zKO.mp hu
   obtain⟨g0,g1,g2,g3⟩:=G.rng t ht
   exact⟨(zF4 h1).1,(ix_lt P h1 h2).mpr g1,(zF4 h2).2.1,g3⟩
 . unfold zGW
   rw[zA2]
   refine (G.dis.filter _).imp_of_mem fun {s t} hs ht hne e=>?_
   have a:=zCT.mp (zAs.mp hs).2
   have b:=zCT.mp (zAs.mp ht).2
   exact hne ⟨zIw a.1 b.1 e.1,zIw a.2 b.2 e.2⟩
theorem zMX (G:GW n ts){p:Int}(h:Nxt ts x y p):Btw ts x y p:=by
 obtain⟨l,b,_,_,i⟩:=id h
 exact Nxt.btw G (Btw.self G i) h
theorem zLG (G:GW n ts)(C:Cvx ts n ps){p:Int}(hx:x∈ps)(hy:y∈ps)(h:Nxt ts x y p):p∈ps:=C.cv x hx y hy p (zMX G h)
noncomputable def zE2 (ps os:List Int):List Int:=(os.filter fun p=>decide (p∈ps)).map (ixP ps)
noncomputable def zMn (ps:List Int)(e:En):En:=⟨ixP ps e.h,e.l,e.u.map (ixP ps),e.d.map (ixP ps)⟩
noncomputable def zGX (ps:List Int)(es:List En):List En:=(es.filter fun e=>decide (e.h∈ps)).map (zMn ps)
noncomputable def zFS (ps:List Int)(ess:List (List En)):List (List En):=ps.map fun p=>zGX ps (ess.getD p.toNat [])
noncomputable def zMv (ps:List Int)(ess:List (List En)):Prop:=∀p∈ps,0<=p/\p.toNat<ess.length/\∀e∈ess.getD p.toNat [],e.h∈ps->(e.l=0/\e.u=none/\e.d=none)\/(e.l≠0/\∃a b,e.u=some a/\e.d=some b/\a∈ps/\b∈ps)
variable {ess:List (List En)}
theorem cut_ok {rk:Int->Int}(G:GW n ts)(C:Cvx ts n ps)(L:zJY ts n rk ess):zMv ps ess:=by
 intro p hp
 have hr:=C.pr.rng p hp
 have hl:p.toNat<ess.length:=by rw[L.1];omega
 refine⟨hr.1,hl,fun e he hin=>?_⟩
 have LL:=L.2 p.toNat _ (zD hl)
 rw[zBg hr.1] at LL
 rw[zF,zD hl,zBR] at he
 have E:=LL.ent e he
 by_cases z:e.l=0
 . have ev:=(zDq G E.len).mp z
   refine .inl ⟨z,?_,?_⟩
   . cases u:e.u with
     | none=>rfl
     | some m=>have:=E.up;rw[u] at this;exact absurd ev (Nxt.ne G this.1)
   . cases u:e.d with
     | none=>rfl
     | some m=>have:=E.dn;rw[u] at this;exact absurd ev.symm (Nxt.ne G this.1)
 . have ne:p≠e.h:=fun q=>z ((zDq G E.len).mpr q)
   obtain⟨a,ha⟩:=Nxt.exists G E.len ne
   obtain⟨b,hb⟩:=Nxt.exists G E.len.symm (Ne.symm ne)
   obtain⟨a',ea,ha'⟩:=E.up.some_of ha
   obtain⟨b',eb,hb'⟩:=E.dn.some_of hb
   exact .inr ⟨z,a',b',ea,eb,zLG G C hp hin ha',zLG G C hin hp hb'⟩
section
variable {X:Cx}{pl:lPO}{N':List Str}{sc:Scope}{fp:List Addr}{s3:Shared}{H3:Hp}
theorem zEt:OpR (zBs X pl N' sc fp s3 H3) (compareOp .In) (rIn X.K false):=zCv
end
theorem zCq (nd:ps.Nodup){v:Int}(h:v∈ps):∃i:Nat,ps[i]? = some v/\(∀j,j<i->ps[j]?≠some v)/\(i:Int)=ixP ps v:=by
 have a:=zF4 h
 refine⟨(ixP ps v).toNat,a.2.2,fun j hj e=>?_,by omega⟩
 have:=ix_at nd e
 omega
theorem int_at (h:(ps.map V.int)[i]? = some v):∃p,ps[i]? = some p/\V.int p=v:=by
 rw[zP] at h
 cases e:ps[i]? with
 | none=>rw[e] at h;cases h
 | some p=>rw[e] at h;exact⟨p,rfl,zX h⟩
noncomputable def zKx:Sp:=fun vs H Q _=>∃(pa ya:Addr)(ps:List Int)(t:T3),vs=[.ref pa,.ref ya]/\H pa=some (.tup (ps.map V.int))/\H ya=some (.tup ((tl t).map V.int))/\ps.Nodup/\t.1∈ps/\t.2.1∈ps/\∀(q:Addr)(H':Hp),zAw H H'->H' q=some (.tup ((tl (newT ps t)).map V.int))->Q (.ref q) H'
noncomputable def spIsP (PT:Addr):Sp:=fun vs H Q _=>∃(wa pa:Addr)(n:Int)(ts:List T3)(ps:List Int),vs=[.ref wa,.ref pa]/\zBw H wa n ts/\H pa=some (.tup (ps.map V.int))/\Cvx ts n ps/\Tb H PT/\∀H',SmT H H'->Tb H' PT->Q (.bl true) H'
noncomputable def zFk (PT:Addr):Sp:=fun vs H Q _=>∃(wa pa:Addr)(n:Int)(ts:List T3)(ps:List Int),vs=[.ref wa,.ref pa]/\zBw H wa n ts/\H pa=some (.tup (ps.map V.int))/\Cvx ts n ps/\Tb H PT/\∀(wb:Addr)(H':Hp),SmT H H'->Tb H' PT->zBw H' wb (ps.length:Int) (zGW ps ts)->Q (.ref wb) H'
noncomputable def zKu:Sp:=fun vs H Q _=>∃(oa pa:Addr)(n:Int)(os ps:List Int),vs=[.ref oa,.ref pa]/\H oa=some (.tup (os.map V.int))/\H pa=some (.tup (ps.map V.int))/\os.length<=24/\Prt n ps/\∀(ob:Addr)(H':Hp),zAw H H'->H' ob=some (.tup ((zE2 ps os).map V.int))->Q (.ref ob) H'
theorem scNtie:zAO ["places", "tie"] ["places", "tie"] (defScope zII):=fS0
theorem zML (F:Fun K "new_tie" "new_tie" zII f fd'):zAg P w K mg base CX0 1 f fd' ["places", "tie"] zKx:=by
 refine F.ok scNtie (fun vs H Q E h=>?_) (fun cdv A outer s H vs Q E hr h=>?_)
 . obtain⟨pa,ya,ps,t,rfl,_⟩:=h
   rfl
 . obtain⟨pa,ya,ps,t,rfl,hpa,hya,nd,h1,h2,k⟩:=h
   refine⟨_,zd (zAJ (zBQ (zE (zCS PySem.F.slot_tuple_index PySem.F.type_tuple_index zBv (pv 0) (zE (zAT zAy (pv 1) zz (fun _ _=>rfl)) zM))
    (zE (zCS PySem.F.slot_tuple_index PySem.F.type_tuple_index zBv (pv 0) (zE (zAT zAy (pv 1) zz (fun _ _=>rfl)) zM)) (zE (zAT zAy (pv 1) zz (fun _ _=>rfl)) zM))))),?_⟩
   obtain⟨i,hi,ni,ei⟩:=zCq nd h1
   obtain⟨j,hj,nj,ej⟩:=zCq nd h2
   refine⟨_,rfl,⟨pa,_,rfl,hpa⟩,_,rfl,ya,_,_,.int t.1,rfl,rfl,SqT.of hya,rfl,pa,ps,i,t.1,rfl,rfl,SqT.of hpa,hi,ni,?_⟩
   refine⟨_,rfl,⟨pa,_,rfl,hpa⟩,_,rfl,ya,_,_,.int t.2.1,rfl,rfl,SqT.of hya,rfl,pa,ps,j,t.2.1,rfl,rfl,SqT.of hpa,hj,nj,?_⟩
   refine⟨_,rfl,ya,_,_,.int t.2.2,rfl,rfl,SqT.of hya,rfl,by show 3<=sizeLine;decide,fun q hq=>?_⟩
   rw[ei,ej]
   exact k q _ (zH hq) zJ
theorem zK6:zAO ["rows", "places", "one", "other"] ["rows", "places", "one"] (defScope zIL):=fS0
theorem scIsP:zAO ["web", "thing", "rows"] ["web", "thing"] (defScope sIsP):=fS0
theorem Prt.posts (h:Prt n ps):zGz n ps:=⟨h.ne,by have:=h.len;omega,h.rng,h.ri⟩
theorem zIG:zAO ["web", "thing", "ties"] ["web", "thing"] (defScope zGi):=fS0
theorem zGF {t:T3}(h:ts[i]? = some t):zGW ps (ts.take (i+1))=zGW ps (ts.take i)++(if inT ps t=true then [newT ps t] else []):=by
 unfold zGW
 rw[zCd (inT ps) h,zR]
 congr 1
 by_cases c:inT ps t=true
 . rw[if_pos c,if_pos c];rfl
 . rw[if_neg c,if_neg c];rfl
theorem zMG (F:Fun K "part_web" "part_web" zGi f fd') (FI:Fun K "is_part" "is_part" sIsP fI fdI) (bI:zAU K fdI ["web", "thing"] []) (mI:mg "is_part" = some (.ref fI)) (GI:zAg P w K mg base CX0 6 fI fdI ["web", "thing"] (spIsP PT))
 (FN:Fun K "new_tie" "new_tie" zII fN fdN) (bN:zAU K fdN ["places", "tie"] []) (mN:mg "new_tie" = some (.ref fN)) (mLen:mg "len" = none) (mTuple:mg "tuple" = none) :
 zAg P w K mg base CX0 7 f fd' ["web", "thing"] (zFk PT):=by
 have GN:zAg P w K mg base CX0 6 fN fdN ["places", "tie"] zKx:=(zML FN).mono (by decide)
 refine F.ok zIG (fun vs H Q E h=>?_) (fun cdv A outer s H vs Q E hr h=>?_)
 . obtain⟨wa,pa,n,ts,ps,rfl,_⟩:=h
   rfl
 . obtain⟨wa,pa,n,ts,ps,rfl,W,hpa,C,TT,k⟩:=h
   obtain⟨ta,tys,hwa,hta,TA,G⟩:=id W
   have hlT:=TA.length
   rw[zB] at hlT
   have h64:=G.len
   refine⟨_,zS (zBn (zCB (zBx (zy GI hr rfl mI FI.kp bI .nil zAt (zE (pv 0) (zE (pv 1) zM))))) (zd zGj) zAh)
    (zS (zD6 (i:=2) (own:=["tie"]) (cn:=["thing"]) (ci:=[1]) zIG.nd rfl (Or.inl rfl) rfl (csc rfl rfl) ⟨rfl,rfl,rfl,trivial⟩ rfl (zB9 (zAT zAy (pv 0) zz (fun _ _=>rfl))) (fun _ _ _ _=>zAA (i:=0) (zB4 rfl) rfl (Or.inl rfl))
     (fun _ _ _ _=>zCC (PW.pt (zD5 (zAN zEt (zAT zCJ (pv 0) zz (fun _ _=>rfl)) (pv 1) (by with_unfolding_all rfl)) (zC7 (zAN zEt (zAT zCJ (pv 0) zz (fun _ _=>rfl)) (pv 1) (by with_unfolding_all rfl))))))
     (fun _ _ _ _=>zy GN hr rfl mN FN.kp bN .nil zAt (zE (pv 1) (zE (pv 0) zM))))
    (zd (zAJ (zBQ (zE (zj zAS mLen (zE (pv 1) zM)) (zE (zAc zAI mTuple (zE (pv 2) zM)) zM)))))),?_⟩
   refine⟨_,rfl,_,rfl,wa,pa,n,ts,ps,rfl,W,hpa,C,TT,fun H1 s1 T1=>?_⟩
   refine⟨_,rfl,zCw ?_⟩
   have tk1:∀b ys,H b=some (.tup ys)->H1 b=some (.tup ys):=fun b ys e=>s1.get e (by intro ps z;cases z)
   have hta1:=tk1 _ _ hta
   have hpa1:=tk1 _ _ hpa
   refine⟨_,rfl,wa,_,_,.ref ta,rfl,rfl,SqT.of (tk1 _ _ hwa),rfl,ta,rfl,⟨_,SqT.of hta1⟩,[.ref pa],rfl,fun D hD=>?_⟩
   refine zCE (a:=ta) (xs:=tys) (fun i ys H4=>zAW H4 ys ((zGW ps (ts.take i)).map tl)/\zAw H1 H4/\H4 D=some (.lst ys)) ⟨by rw[List.take_zero];exact trivial,zH hD,zJ⟩ (fun i ys H4 h=>?_) (fun i ys H4 h=>?_) (fun i v ys H4 hv h=>?_) (fun ys H4 h=>?_)
   . exact SqT.of (h.2.1 _ _ hta1)
   . have h1:=h.1.length
     rw[zB] at h1
     have h2:=zo (inT ps) (ts.take i)
     rw[zw] at h2
     exact zl (by unfold zGW at h1;rw[zB] at h1;omega)
   . obtain⟨T4,s4,hD4⟩:=h
     obtain⟨ya,kk,rfl,hkk,hya,_⟩:=TA.get hv
     rw[zP] at hkk
     obtain⟨t,ht,rfl⟩:∃t,ts[i]? = some t/\tl t=kk:=by
      cases e:ts[i]? with
      | none=>rw[e] at hkk;cases hkk
      | some t=>rw[e] at hkk;exact⟨t,rfl,zX hkk⟩
     have hya4:=s4 _ _ (tk1 _ _ hya)
     have hpa4:=s4 _ _ hpa1
     have sn:=zGF (ps:=ps) ht
     have no:¬ (inT ps t=true)->zAW H4 ys ((zGW ps (ts.take (i+1))).map tl):=fun c=>by
      rw[sn,if_neg c,zt];exact T4
     refine⟨⟨rfl,rfl⟩,?_⟩
     refine⟨_,rfl,ya,_,_,.int t.1,rfl,rfl,SqT.of hya4,rfl,_,rfl,pa,_,rfl,.inr (SqT.of hpa4),rfl,zBJ _,_,rfl,?_⟩
     show if inV (.int t.1) (ps.map V.int)=true then _ else _
     rw[zBl]
     refine zCz (fun c1=>?_) (fun c1=>?_)
     . refine⟨_,rfl,ya,_,_,.int t.2.1,rfl,rfl,SqT.of hya4,rfl,_,rfl,pa,_,rfl,.inr (SqT.of hpa4),rfl,zBJ _,_,rfl,?_⟩
       show if inV (.int t.2.1) (ps.map V.int)=true then _ else _
       rw[zBl]
       refine zCz (fun c2=>?_) (fun c2=>?_)
       . have i1:=of_decide_eq_true c1
         have i2:=of_decide_eq_true c2
         refine⟨_,rfl,_,rfl,pa,ya,ps,t,rfl,hpa4,hya4,C.pr.nd,i1,i2,fun q H5 s5 hq=>?_⟩
         have hD5:=s5 _ _ hD4
         refine⟨hD5,?_,zAu (s4.trans s5) hD,zJ⟩
         rw[sn,if_pos (zCT.mpr ⟨i1,i2⟩),zR]
         refine (T4.keep fun b zs e=>?_).snoc ⟨q,rfl,?_,by simp[tl]⟩
         . have e5:=s5 _ _ e
           rw[zk (zBu e5 hD5 (by intro z;cases z))];exact e5
         . rw[zk (zBu hq hD5 (by intro z;cases z))];exact hq
       . exact⟨no fun z=>c2 (zW (zCT.mp z).2),s4,hD4⟩
     . exact⟨no fun z=>c1 (zW (zCT.mp z).1),s4,hD4⟩
   obtain⟨T4,s4,hD4⟩:=h
   rw[hlT,zY (zI _)] at T4
   refine⟨_,rfl,pa,_,rfl,.inr (SqT.of (s4 _ _ hpa1)),?_⟩
   refine⟨_,rfl,D,_,rfl,.inl ⟨SqL.of hD4,fun tb htb=>?_⟩⟩
   refine⟨by show 2<=sizeLine;decide,fun wb hwb=>?_⟩
   have s5:=zH (o:=.tup ys) htb
   rw[zB]
   have s6:=zH (o:=.tup [.int (ps.length:Int),.ref tb]) hwb
   refine k wb _ (s1.trans (SmT.of (s4.trans (s5.trans s6)))) (T1.same (s4.trans (s5.trans s6))) ⟨tb,ys,zJ,s6 _ _ zJ,T4.keep fun b zs e=>s6 _ _ (s5 _ _ e),zLN G C.pr⟩
theorem scPord:zAO ["order", "places"] ["order", "places"] (defScope zJr):=fS0
theorem zMH (F:Fun K "part_order" "part_order" zJr f fd') (mTuple:mg "tuple" = none):zAg P w K mg base CX0 1 f fd' ["order", "places"] zKu:=by
 refine F.ok scPord (fun vs H Q E h=>?_) (fun cdv A outer s H vs Q E hr h=>?_)
 . obtain⟨oa,pa,n,os,ps,rfl,_⟩:=h
   rfl
 . obtain⟨oa,pa,n,os,ps,rfl,hoa,hpa,hol,PR,k⟩:=h
   refine⟨_,zd (zAJ (zAc zAI mTuple (zE (zBH (own:=["place"]) (cn:=["places"]) (ci:=[1]) rfl (csc rfl rfl) ⟨rfl,rfl,rfl,trivial⟩ rfl (zB9 (pv 0)) (fun _ _ _ _=>zAA (i:=0) (zB4 rfl) rfl (Or.inl rfl))
    (fun _ _ _ _=>zCC (zAN zEt (pv 0) (pv 1) (by with_unfolding_all rfl))) (fun _ _ _ _=>zCS PySem.F.slot_tuple_index PySem.F.type_tuple_index zEF (pv 1) (zE (pv 0) zM))) zM))),?_⟩
   refine⟨_,rfl,oa,rfl,⟨_,SqT.of hoa⟩,[.ref pa],rfl,fun D hD=>?_⟩
   refine zCE (a:=oa) (xs:=os.map V.int) (fun i ys H4=>ys=(zE2 ps (os.take i)).map V.int/\H4=upd H D (.lst ys)) ⟨rfl,rfl⟩ (fun i ys H4 z=>?_) (fun i ys H4 z=>?_) (fun i v ys H4 hv z=>?_) (fun ys H4 z=>?_)
   . obtain⟨_,rfl⟩:=z
     exact SqT.of (zH hD _ _ hoa)
   . obtain⟨rfl,_⟩:=z
     have h2:=zo (fun p=>decide (p∈ps)) (os.take i)
     rw[zw] at h2
     unfold zE2
     rw[zB,zB]
     exact zl (by omega)
   . obtain⟨rfl,rfl⟩:=z
     obtain⟨p,hp,rfl⟩:=int_at hv
     have hpa4:=zH (o:=.lst ((zE2 ps (os.take i)).map V.int)) hD _ _ hpa
     have st:=zCd (fun p:Int=>decide (p∈ps)) hp
     refine⟨⟨rfl,rfl⟩,?_⟩
     refine⟨_,rfl,_,rfl,pa,_,rfl,.inr (SqT.of hpa4),rfl,zBJ _,_,rfl,?_⟩
     show if inV (.int p) (ps.map V.int)=true then _ else _
     rw[zBl]
     refine zCz (fun c=>?_) (fun c=>?_)
     . obtain⟨j,hj,nj,ej⟩:=zCq PR.nd (of_decide_eq_true c)
       refine⟨_,rfl,⟨pa,_,rfl,hpa4⟩,_,rfl,pa,ps,j,p,rfl,rfl,SqT.of hpa4,hj,nj,zJ,?_,zB8⟩
       unfold zE2
       rw[st,if_pos c,zR,zR,ej];rfl
     . refine⟨?_,rfl⟩
       unfold zE2
       rw[st,if_neg c,zt]
   . obtain⟨rfl,rfl⟩:=z
     rw[zB,zY (zI _)]
     refine⟨D,_,rfl,.inl ⟨SqL.of zJ,fun ob hob=>?_⟩⟩
     exact k ob _ ((zH hD).trans (zH hob)) zJ
noncomputable def EOk (ps:List Int)(e:En):Prop:=(e.l=0/\e.u=none/\e.d=none)\/(e.l≠0/\∃a b,e.u=some a/\e.d=some b/\a∈ps/\b∈ps)
noncomputable def zKy:Sp:=fun vs H Q _=>∃(pa ea:Addr)(ps:List Int)(e:En),vs=[.ref pa,.ref ea]/\H pa=some (.tup (ps.map V.int))/\H ea=some (.tup (eV e))/\ps.Nodup/\e.h∈ps/\EOk ps e/\∀(q:Addr)(H':Hp),zAw H H'->H' q=some (.tup (eV (zMn ps e)))->Q (.ref q) H'
noncomputable def zH4:Sp:=fun vs H Q _=>∃(la pa:Addr)(ps:List Int)(es:List En),vs=[.ref la,.ref pa]/\H pa=some (.tup (ps.map V.int))/\zCs H la es/\ps.Nodup/\(∀e∈es,e.h∈ps->EOk ps e)/\∀(q:Addr)(H':Hp),zAw H H'->zCs H' q (zGX ps es)->Q (.ref q) H'
noncomputable def zK1:Sp:=fun vs H Q _=>∃(ll pa:Addr)(ps:List Int)(ess:List (List En)),vs=[.ref ll,.ref pa]/\H pa=some (.tup (ps.map V.int))/\zC6 H ll ess/\ps.Nodup/\ps.length<=24/\zMv ps ess/\∀(q:Addr)(H':Hp),zAw H H'->zC6 H' q (zFS ps ess)->Q (.ref q) H'
theorem zGG {e:En}(h:es[i]? = some e):zGX ps (es.take (i+1))=zGX ps (es.take i)++(if decide (e.h∈ps)=true then [zMn ps e] else []):=by
 unfold zGX
 rw[zCd (fun e:En=>decide (e.h∈ps)) h,zR]
 congr 1
 by_cases c:decide (e.h∈ps)=true
 . rw[if_pos c,if_pos c];rfl
 . rw[if_neg c,if_neg c];rfl
theorem scNent:zAO ["places", "entry"] ["places", "entry"] (defScope zIJ):=fS0
theorem zMM (F:Fun K "new_entry" "new_entry" zIJ f fd'):zAg P w K mg base CX0 1 f fd' ["places", "entry"] zKy:=by
 refine F.ok scNent (fun vs H Q E h=>?_) (fun cdv A outer s H vs Q E hr h=>?_)
 . obtain⟨pa,ea,ps,e,rfl,_⟩:=h
   rfl
 . obtain⟨pa,ea,ps,e,rfl,hpa,hea,nd,hin,ok,k⟩:=h
   refine⟨_,zS (zBn (zAN zCr (zAT zAy (pv 1) zz (fun _ _=>rfl)) zz (zAd _))
    (zd (zAJ (zBQ (zE (zCS PySem.F.slot_tuple_index PySem.F.type_tuple_index zBv (pv 0) (zE (zAT zAy (pv 1) zz (fun _ _=>rfl)) zM)) (zCK (zE zCR (zE zCR zM))))))) zAh)
    (zd (zAJ (zBQ (zE (zCS PySem.F.slot_tuple_index PySem.F.type_tuple_index zBv (pv 0) (zE (zAT zAy (pv 1) zz (fun _ _=>rfl)) zM)) (zE (zAT zAy (pv 1) zz (fun _ _=>rfl))
     (zE (zCS PySem.F.slot_tuple_index PySem.F.type_tuple_index zBv (pv 0) (zE (zAT zAy (pv 1) zz (fun _ _=>rfl)) zM)) (zE (zCS PySem.F.slot_tuple_index PySem.F.type_tuple_index zBv (pv 0) (zE (zAT zAy (pv 1) zz (fun _ _=>rfl)) zM)) zM))))))),?_⟩
   obtain⟨i,hi,ni,ei⟩:=zCq nd hin
   obtain⟨eh,el,eu,ed⟩:=e
   dsimp only at hin hi ni ei
   refine⟨_,rfl,ea,_,_,.int el,rfl,rfl,SqT.of hea,rfl,rfl,_,rfl,?_⟩
   rw[zKe]
   rcases ok with ⟨z1,z2,z3⟩ | ⟨z1,a,b,z2,z3,ha,hb⟩
   . dsimp only at z1 z2 z3
     subst z1 z2 z3
     refine zCt ?_
     refine⟨_,rfl,⟨pa,_,rfl,hpa⟩,_,rfl,ea,_,_,.int eh,rfl,rfl,SqT.of hea,rfl,pa,ps,i,eh,rfl,rfl,SqT.of hpa,hi,ni,?_⟩
     refine⟨by show 4<=sizeLine;decide,fun q hq=>?_⟩
     rw[ei]
     exact k q _ (zH hq) zJ
   . dsimp only at z1 z2 z3
     subst z2 z3
     refine ifF (zu z1) ?_
     obtain⟨ia,hia,nia,eia⟩:=zCq nd ha
     obtain⟨ib,hib,nib,eib⟩:=zCq nd hb
     refine⟨_,rfl,⟨pa,_,rfl,hpa⟩,_,rfl,ea,_,_,.int eh,rfl,rfl,SqT.of hea,rfl,pa,ps,i,eh,rfl,rfl,SqT.of hpa,hi,ni,?_⟩
     refine⟨_,rfl,ea,_,_,.int el,rfl,rfl,SqT.of hea,rfl,?_⟩
     refine⟨_,rfl,⟨pa,_,rfl,hpa⟩,_,rfl,ea,_,_,.int a,rfl,rfl,SqT.of hea,rfl,pa,ps,ia,a,rfl,rfl,SqT.of hpa,hia,nia,?_⟩
     refine⟨_,rfl,⟨pa,_,rfl,hpa⟩,_,rfl,ea,_,_,.int b,rfl,rfl,SqT.of hea,rfl,pa,ps,ib,b,rfl,rfl,SqT.of hpa,hib,nib,?_⟩
     refine⟨by show 4<=sizeLine;decide,fun q hq=>?_⟩
     rw[ei,eia,eib]
     exact k q _ (zH hq) zJ
theorem scCutl:zAO ["label", "places"] ["label", "places"] (defScope zIN):=fS0
theorem zMS (F:Fun K "cut_label" "cut_label" zIN f fd') (FN:Fun K "new_entry" "new_entry" zIJ fN fdN) (bN:zAU K fdN ["places", "entry"] []) (mN:mg "new_entry" = some (.ref fN)) (mTuple:mg "tuple" = none):zAg P w K mg base CX0 2 f fd' ["label", "places"] zH4:=by
 have GN:zAg P w K mg base CX0 1 fN fdN ["places", "entry"] zKy:=zMM FN
 refine F.ok scCutl (fun vs H Q E h=>?_) (fun cdv A outer s H vs Q E hr h=>?_)
 . obtain⟨la,pa,ps,es,rfl,_⟩:=h
   rfl
 . obtain⟨la,pa,ps,es,rfl,hpa,L,nd,ok,k⟩:=h
   obtain⟨as,hla,EA,hl⟩:=id L
   refine⟨_,zd (zAJ (zAc zAI mTuple (zE (zBH (own:=["entry"]) (cn:=["places"]) (ci:=[1]) rfl (csc rfl rfl) ⟨rfl,rfl,rfl,trivial⟩ rfl (zB9 (pv 0)) (fun _ _ _ _=>zAA (i:=0) (zB4 rfl) rfl (Or.inl rfl))
    (fun _ _ _ _=>zCC (zAN zEt (zAT zCJ (pv 0) zz (fun _ _=>rfl)) (pv 1) (by with_unfolding_all rfl))) (fun _ _ _ _=>zy GN hr rfl mN FN.kp bN .nil zAt (zE (pv 1) (zE (pv 0) zM)))) zM))),?_⟩
   refine⟨_,rfl,la,rfl,⟨_,SqT.of hla⟩,[.ref pa],rfl,fun D hD=>?_⟩
   refine zCE (a:=la) (xs:=as.map V.ref) (fun i ys H4=>(∃bs:List Addr,ys=bs.map V.ref/\zDO H4 bs (zGX ps (es.take i)))/\zAw H H4/\H4 D=some (.lst ys)) ⟨⟨[],rfl,rfl,fun i a z=>by simp at z⟩,zH hD,zJ⟩ (fun i ys H4 h=>?_) (fun i ys H4 h=>?_) (fun i v ys H4 hv h=>?_) (fun ys H4 h=>?_)
   . exact SqT.of (h.2.1 _ _ hla)
   . obtain⟨⟨bs,rfl,EB⟩,_⟩:=h
     have h1:=EB.1
     have h2:=zo (fun e:En=>decide (e.h∈ps)) (es.take i)
     rw[zw] at h2
     unfold zGX at h1
     rw[zB] at h1 ⊢
     exact zKQ (by omega)
   . obtain⟨⟨bs,rfl,EB⟩,s4,hD4⟩:=h
     obtain⟨ea,e,rfl,he,hea⟩:=EA.at hv
     have hea4:=s4 _ _ hea
     have hpa4:=s4 _ _ hpa
     have sn:=zGG (ps:=ps) he
     refine⟨⟨rfl,rfl⟩,?_⟩
     refine⟨_,rfl,ea,_,_,.int e.h,rfl,rfl,SqT.of hea4,rfl,_,rfl,pa,_,rfl,.inr (SqT.of hpa4),rfl,zBJ _,_,rfl,?_⟩
     show if inV (.int e.h) (ps.map V.int)=true then _ else _
     rw[zBl]
     refine zCz (fun c=>?_) (fun c=>?_)
     . have hin:=of_decide_eq_true c
       refine⟨_,rfl,_,rfl,pa,ea,ps,e,rfl,hpa4,hea4,nd,hin,ok e (zU he) hin,fun q H5 s5 hq=>?_⟩
       have hD5:=s5 _ _ hD4
       refine⟨hD5,⟨bs++[q],by rw[zR];rfl,?_⟩,zAu (s4.trans s5) hD,zJ⟩
       rw[sn,if_pos c]
       refine (EB.keep fun b zs e=>?_).snoc ?_
       . have e5:=s5 _ _ e
         rw[zk (zBu e5 hD5 (by intro z;cases z))];exact e5
       . rw[zk (zBu hq hD5 (by intro z;cases z))];exact hq
     . refine⟨⟨bs,rfl,?_⟩,s4,hD4⟩
       rw[sn,if_neg c,zt]
       exact EB
   obtain⟨⟨bs,rfl,EB⟩,s4,hD4⟩:=h
   rw[zB,EA.1,zY (zI _)] at EB
   refine⟨D,_,rfl,.inl ⟨SqL.of hD4,fun q hq=>?_⟩⟩
   have s5:=zH (o:=.tup (bs.map V.ref)) hq
   refine k q _ (s4.trans s5) ⟨bs,zJ,EB.keep fun b zs e=>s5 _ _ e,?_⟩
   unfold zGX
   rw[zB]
   exact zAP (zo _ _) hl
theorem scCutd:zAO ["labels", "places"] ["labels", "places"] (defScope zJv):=fS0
theorem zMT {fC:Addr}{fdC:FuncData}(F:Fun K "cut_down" "cut_down" zJv f fd') (FC:Fun K "cut_label" "cut_label" zIN fC fdC) (bC:zAU K fdC ["label", "places"] []) (mC:mg "cut_label" = some (.ref fC)) (GC:zAg P w K mg base CX0 2 fC fdC ["label", "places"] zH4) (mTuple:mg "tuple" = none):zAg P w K mg base CX0 3 f fd' ["labels", "places"] zK1:=by
 refine F.ok scCutd (fun vs H Q E h=>?_) (fun cdv A outer s H vs Q E hr h=>?_)
 . obtain⟨ll,pa,ps,ess,rfl,_⟩:=h
   rfl
 . obtain⟨ll,pa,ps,ess,rfl,hpa,L,nd,h24,ok,k⟩:=h
   refine⟨_,zd (zAJ (zAc zAI mTuple (zE (zBH (own:=["place"]) (cn:=["labels", "places"]) (ci:=[0,1]) rfl (csc rfl rfl) ⟨rfl,rfl,rfl,rfl,rfl,rfl,trivial⟩ rfl (zB9 (pv 1)) (fun _ _ _ _=>zAA (i:=0) (zB4 rfl) rfl (Or.inl rfl))
    (fun _ _ _ _=>zB2) (fun _ _ _ _=>zy GC hr rfl mC FC.kp bC .nil zAt (zE (zAT zCJ (pv 1) (pv 0) (fun _ _=>rfl)) (zE (pv 2) zM)))) zM))),?_⟩
   refine⟨_,rfl,pa,rfl,⟨_,SqT.of hpa⟩,[.ref ll,.ref pa],rfl,fun D hD=>?_⟩
   refine zCE (a:=pa) (xs:=ps.map V.int) (fun i ys H4=>i<=ps.length/\(∃bs:List Addr,ys=bs.map V.ref/\bs.length=i/\∀(j:Nat)(b:Addr),bs[j]? = some b->∃es,(zFS ps ess)[j]? = some es/\zCs H4 b es)/\zAw H H4/\H4 D=some (.lst ys)) ⟨zg _,⟨[],rfl,rfl,fun i a z=>by simp at z⟩,zH hD,zJ⟩ (fun i ys H4 h=>?_) (fun i ys H4 h=>?_) (fun i v ys H4 hv h=>?_) (fun ys H4 h=>?_)
   . exact SqT.of (h.2.2.1 _ _ hpa)
   . obtain⟨hi,⟨bs,rfl,hbl,_⟩,_⟩:=h
     rw[zB]
     exact zl (by omega)
   . obtain⟨_,⟨bs,rfl,hbl,EB⟩,s4,hD4⟩:=h
     obtain⟨p,hp,rfl⟩:=int_at hv
     have hql:=(zK.mp hp).1
     obtain⟨p0,pl,eok⟩:=ok p (zU hp)
     obtain⟨as,h1,h2,h3⟩:=id L
     have hpl:p.toNat<as.length:=by omega
     obtain⟨es,g1,g2⟩:=h3 p.toNat as[p.toNat] (zD hpl)
     have ge:ess.getD p.toNat []=es:=by rw[zF,g1];rfl
     rw[ge] at eok
     refine⟨⟨rfl,rfl⟩,?_⟩
     refine zGa ?_
     refine⟨_,rfl,_,rfl,ll,_,_,.ref as[p.toNat],rfl,rfl,SqT.of (s4 _ _ h1),zAv p0 (by rw[zP,zD hpl];rfl),_,rfl,_,pa,ps,es,rfl,s4 _ _ hpa,g2.same s4,nd,eok,fun q H5 s5 hq=>?_⟩
     have hD5:=s5 _ _ hD4
     refine⟨hD5,by omega,⟨bs++[q],by rw[zR];rfl,by rw[zO,hbl];rfl,fun j b hb=>?_⟩,zAu (s4.trans s5) hD,zJ⟩
     have kp:∀ {x zs},zCs H5 x zs->zCs (upd H5 D (.lst (bs.map V.ref++[.ref q]))) x zs:=fun h=>h.keep fun b ys e=>by rw[zk (zBu e hD5 (by intro z;cases z))];exact e
     by_cases c:j<bs.length
     . rw[zh c] at hb
       obtain⟨zs,z1,z2⟩:=EB j b hb
       exact⟨zs,z1,kp (z2.same s5)⟩
     . rw[za (by omega)] at hb
       have hj:j-bs.length=0:=by
        cases z:j-bs.length with
        | zero=>rfl
        | succ m=>rw[z] at hb;simp at hb
       rw[hj] at hb
       have:q=b:=by simpa using hb
       subst this
       have ej:j=i:=by omega
       subst ej
       refine⟨zGX ps es,?_,kp hq⟩
       unfold zFS
       rw[zP,hp,<-ge];rfl
   obtain⟨_,⟨bs,rfl,hbl,EB⟩,s4,hD4⟩:=h
   rw[zB] at hbl
   refine⟨D,_,rfl,.inl ⟨SqL.of hD4,fun q hq=>?_⟩⟩
   have s5:=zH (o:=.tup (bs.map V.ref)) hq
   refine k q _ (s4.trans s5) ⟨bs,zJ,by unfold zFS;rw[zB];exact hbl,fun j b hb=>?_⟩
   obtain⟨zs,z1,z2⟩:=EB j b hb
   exact⟨zs,z1,z2.same s5⟩
theorem zDT {M:lLO}(L:zA9 H rs M)(R:Rows ts n M)(x0:0<=x)(x1:x<n)(y0:0<=y)(y1:y<n) :
 ∃(ra:Addr)(row:List V)(o:Option Int),rs[x.toNat]? = some ra/\H ra=some (.lst row)/\atI row y=some (.int (enc o))/\Len ts x y o:=by
 have hl:x.toNat<M.length:=by rw[R.1];omega
 have hr:x.toNat<rs.length:=by rw[L.1];exact hl
 have LL:=R.2 x x0 x1
 rw[zF,zD hl,zBR] at LL
 exact⟨rs[x.toNat],_,_,zD hr,L.2.2 _ _ _ (zD hr) (zD hl),zFE LL.ln y0 y1,LL.len y y0 y1⟩
theorem zDw:enc none=1000000:=rfl
theorem zCl (G:GW n ts){d:Int}(x0:0<=x)(x1:x<n)(h:WM.IsD ts x y d):enc (some d)=d/\0<=d/\d<=2376:=by
 have:=zFZ G x y x0 x1 d h
 exact⟨by show min d 1000000=d;exact Int.min_eq_left (by omega),this⟩
theorem zJQ (G:GW n ts){z:Int}{o1 o2:Option Int}(x0:0<=x)(x1:x<n)(z0:0<=z)(z1:z<n)(h:Len ts x y o)(h1:Len ts x z o1)(h2:Len ts z y o2):(enc o<1000000/\enc o1+enc o2=enc o)↔Btw ts x y z:=by
 constructor
 . rintro ⟨c1,c2⟩
   cases o with
   | none=>rw[zDw] at c1;omega
   | some d=>
    obtain⟨e,e0,e1⟩:=zCl G x0 x1 h
    rw[e] at c1 c2
    cases o1 with
    | none=>
     rw[zDw] at c2
     cases o2 with
     | none=>rw[zDw] at c2;omega
     | some b=>
      obtain⟨eb,b0,_⟩:=zCl G z0 z1 h2
      rw[eb] at c2
      omega
    | some a=>
     obtain⟨ea,a0,_⟩:=zCl G x0 x1 h1
     rw[ea] at c2
     cases o2 with
     | none=>rw[zDw] at c2;omega
     | some b=>
      obtain⟨eb,b0,_⟩:=zCl G z0 z1 h2
      rw[eb] at c2
      have h':WM.IsD ts x y d:=h
      rw[<-c2] at h'
      exact⟨a,b,h1,h2,h'⟩
 . rintro ⟨a,b,i1,i2,i3⟩
   have e:o=some (a+b):=Len.uniq h i3
   have e1:o1=some a:=Len.uniq h1 i1
   have e2:o2=some b:=Len.uniq h2 i2
   subst e e1 e2
   obtain⟨q,_,q1⟩:=zCl G x0 x1 i3
   rw[q,(zCl G x0 x1 i1).1,(zCl G z0 z1 i2).1]
   exact⟨by omega,rfl⟩
noncomputable def zH2:Sp:=fun vs H Q _=>∃(fl pl:Addr)(rs:List Addr)(M:lLO)(n:Int)(ts:List T3)(ps:List Int),vs=[.ref fl,.ref pl]/\H fl=some (.lst (rs.map V.ref))/\zA9 H rs M/\Rows ts n M/\GW n ts/\n<=11/\H pl=some (.lst (ps.map V.int))/\Prt n ps /\
 ∀(l:Addr)(ms:List Int)(H':Hp),zAw H H'->H l=none->H' l=some (.lst (ms.map V.int))->ms.Pairwise (· < ·)->(∀z,z∈ms↔z∉ps/\∃x∈ps,∃y∈ps,Btw ts x y z)->Q (.ref l) H'
structure LkI (ts:List T3)(n:Int)(ps fs:List Int)(q i j:Nat):Prop where
 rng:∀z∈fs,0<=z/\z<n
 snd:∀z∈fs,∃x∈ps,∃y∈ps,Btw ts x y z
 cpl:∀(z x y:Int),x∈ps->y∈ps->Btw ts x y z->0<=z->(z<q\/(z=q/\(x∈ps.take i\/(ps[i]? = some x/\y∈ps.take j))))->z∈fs
 len:fs.length<=q*121+i*11+j
theorem LkI.zero (ts:List T3)(n:Int)(ps:List Int):LkI ts n ps [] 0 0 0:=by
 refine⟨by simp,by simp,fun z x y hx hy hb z0 c=>?_,zg _⟩
 rcases c with c | ⟨_,c | ⟨_,c⟩⟩
 . omega
 . rw[List.take_zero] at c;cases c
 . rw[List.take_zero] at c;cases c
theorem zEl (h:ps[j]? = some y){z:Int}:z∈ps.take (j+1)↔z∈ps.take j\/z=y:=by
 rw[zAH,h,zm]
 simp
theorem LkI.put {fs:List Int}{q:Nat}(L:LkI ts n ps fs q i j)(hx:ps[i]? = some x)(hy:ps[j]? = some y)(hq:(q:Int)<n)(b:Btw ts x y q):LkI ts n ps (fs++[(q:Int)]) q i (j+1):=by
 refine⟨fun z hz=>?_,fun z hz=>?_,fun z x' y' hx' hy' hb z0 c=>?_,by have:=L.len;rw[zO,List.length_singleton];omega⟩
 . rcases zm.mp hz with h | h
   . exact L.rng z h
   . rw[zf.mp h];omega
 . rcases zm.mp hz with h | h
   . exact L.snd z h
   . rw[zf.mp h];exact⟨x,zU hx,y,zU hy,b⟩
 . by_cases e:z=q
   . exact ze _ (zf.mpr e)
   . refine zAe _ (L.cpl z x' y' hx' hy' hb z0 (.inl ?_))
     rcases c with c | c
     . exact c
     . exact absurd c.1 e
theorem LkI.skip {fs:List Int}{q:Nat}(L:LkI ts n ps fs q i j)(hx:ps[i]? = some x)(hy:ps[j]? = some y)(b:¬ Btw ts x y q):LkI ts n ps fs q i (j+1):=by
 refine⟨L.rng,L.snd,fun z x' y' hx' hy' hb z0 c=>?_,by have:=L.len;omega⟩
 rcases c with c | ⟨c1,c | ⟨c2,c3⟩⟩
 . exact L.cpl z x' y' hx' hy' hb z0 (.inl c)
 . exact L.cpl z x' y' hx' hy' hb z0 (.inr ⟨c1,.inl c⟩)
 . rcases (zEl hy).mp c3 with d | d
   . exact L.cpl z x' y' hx' hy' hb z0 (.inr ⟨c1,.inr ⟨c2,d⟩⟩)
   . rw[hx] at c2
     cases c2
     subst d
     rw[c1] at hb
     exact absurd hb b
theorem LkI.row {fs:List Int}{q:Nat}(L:LkI ts n ps fs q i ps.length)(hx:ps[i]? = some x)(h11:ps.length<=11):LkI ts n ps fs q (i+1) 0:=by
 refine⟨L.rng,L.snd,fun z x' y' hx' hy' hb z0 c=>?_,by have:=L.len;omega⟩
 rcases c with c | ⟨c1,c | ⟨_,c3⟩⟩
 . exact L.cpl z x' y' hx' hy' hb z0 (.inl c)
 . rcases (zEl hx).mp c with d | d
   . exact L.cpl z x' y' hx' hy' hb z0 (.inr ⟨c1,.inl d⟩)
   . subst d
     exact L.cpl z x' y' hx' hy' hb z0 (.inr ⟨c1,.inr ⟨hx,by rw[zY (zI _)];exact hy'⟩⟩)
 . rw[List.take_zero] at c3;cases c3
theorem LkI.place {fs:List Int}{q:Nat}(L:LkI ts n ps fs q ps.length 0)(h11:ps.length<=11):LkI ts n ps fs (q+1) 0 0:=by
 refine⟨L.rng,L.snd,fun z x' y' hx' hy' hb z0 c=>?_,by have:=L.len;omega⟩
 rcases c with c | ⟨_,c | ⟨_,c3⟩⟩
 . by_cases e:z<q
   . exact L.cpl z x' y' hx' hy' hb z0 (.inl e)
   . exact L.cpl z x' y' hx' hy' hb z0 (.inr ⟨by omega,.inl (by rw[zY (zI _)];exact hx')⟩)
 . rw[List.take_zero] at c;cases c
 . rw[List.take_zero] at c3;cases c3
theorem zCH:zAO ["_law_rows_here", "_law_places", "_law_found", "_law_place", "_law_one", "_law_other", "_law_due"] ["_law_rows_here", "_law_places"] (defScope zD4):=fS0
theorem zKI (F:Fun K "_law_lacks" "_law_lacks" zD4 f fd') (mRange:mg "range" = none) (mLen:mg "len" = none) (mSorted:mg "sorted" = none) (mSet:mg "set" = none):zAg P w K mg base CX0 1 f fd' ["_law_rows_here", "_law_places"] zH2:=by
 refine F.ok zCH (fun vs H Q E h=>?_) (fun cdv A outer s H vs Q E hr h=>?_)
 . obtain⟨fl,pl,rs,M,n,ts,ps,rfl,_⟩:=h
   rfl
 . obtain⟨fl,pl,rs,M,n,ts,ps,rfl,hfl,LR,RR,G,h11,hpl,PR,k⟩:=h
   have hn1:=G.n1
   have hln:=PR.len
   refine⟨_,zS (zAa (i:=2) zCH.nd rfl (Or.inl rfl) (zBh zM))
    (zS (zB3 PassesOwn.never rfl (zA5 rfl mRange (zE (zj zAS mLen (zE (pv 0) zM)) zM)) (zAA (i:=3) zCH.nd rfl (Or.inl rfl))
     (zd (zB3 PassesOwn.never rfl (zCa (pv 1)) (zAA (i:=4) zCH.nd rfl (Or.inl rfl))
      (zd (zB3 PassesOwn.never rfl (zCa (pv 1)) (zAA (i:=5) zCH.nd rfl (Or.inl rfl))
       (zS (zAa (i:=6) zCH.nd rfl (Or.inl rfl) (zAT zAi (zAT zAi (pv 0) (pv 4) (fun _ _=>rfl)) (pv 5) (fun _ _=>rfl)))
       (zd (zBn (PW.pt (zD5 (zAN zIZ (pv 6) (zA3 zFx zz zz) (zAd _)) (zC7 (zAN zCr (zA3 zCL (zAT zAi (zAT zAi (pv 0) (pv 4) (fun _ _=>rfl)) (pv 3) (fun _ _=>rfl)) (zAT zAi (zAT zAi (pv 0) (pv 3) (fun _ _=>rfl)) (pv 5) (fun _ _=>rfl))) (pv 6) (zAd _)))))
        (zd (zCZ (zED PySem.F.plainAttrs_list PySem.F.slot_list_append PySem.F.type_list_append zBr (pv 2) (zE (pv 3) zM)))) zAh))))))))
    (zd (zAJ (zBH (own:=["_law_place"]) (cn:=["_law_places"]) (ci:=[1]) rfl (csc rfl rfl) ⟨rfl,rfl,rfl,trivial⟩ rfl (zCa (zCN rfl rfl mSorted rfl mSet (zE (pv 2) zM))) (fun _ _ _ _=>zAA (i:=0) (zB4 rfl) rfl (Or.inl rfl))
     (fun _ _ _ _=>zCC (zAN zFy (pv 0) (pv 1) (by with_unfolding_all rfl))) (fun _ _ _ _=>pv 0))))),?_⟩
   refine⟨zg _,fun fo hfo=>?_⟩
   have hrl:rs.length=n.toNat:=by rw[LR.1,RR.1]
   have sF:=zH (o:=.lst []) hfo
   refine⟨_,rfl,fl,_,rfl,.inl (SqL.of (sF _ _ hfl)),?_⟩
   rw[zB,hrl]
   refine⟨((n.toNat:Nat):Int),rfl,by omega,by omega,zCU (lo:=0) (n:=n.toNat) (fun q σ H2=>∃(v3 v4 v5 v6:Option V)(fs:List Int),σ=[some (.ref fl),some (.ref pl),some (.ref fo),v3,v4,v5,v6]/\LkI ts n ps fs q 0 0/\zAw H H2/\H2 fo=some (.lst (fs.map V.int)))
    ⟨_,_,_,_,[],rfl,LkI.zero ts n ps,sF,zJ⟩ ?turn1 ?after1⟩
   case turn1=>
    rintro q σ H2 hq ⟨v3,v4,v5,v6,fs,rfl,L2,s2,hfo2⟩
    rw[zAn]
    have hqn:(q:Int)<n:=by omega
    refine⟨_,rfl,pl,rfl,⟨_,SqL.of (s2 _ _ hpl)⟩,zDu (K:=K) (a:=pl) (xs:=ps.map V.int) (fun i σ H3=>∃(v4 v5 v6:Option V)(fs:List Int),σ=[some (.ref fl),some (.ref pl),some (.ref fo),some (.int q),v4,v5,v6]/\LkI ts n ps fs q i 0/\zAw H H3/\H3 fo=some (.lst (fs.map V.int)))
     ⟨_,_,_,fs,rfl,L2,s2,hfo2⟩ (fun i σ H3 _ ⟨_,_,_,_,_,_,s3,_⟩=>SqL.of (s3 _ _ hpl)) ?turn2 ?after2⟩
    case after2=>
     rintro σ H3 ⟨v4,v5,v6,fs3,rfl,L3,s3,hfo3⟩
     rw[zB] at L3
     exact⟨_,_,_,_,fs3,rfl,L3.place (by omega),s3,hfo3⟩
    case turn2=>
     rintro i xv σ H3 hi ⟨v4,v5,v6,fs3,rfl,L3,s3,hfo3⟩
     obtain⟨x,hx,rfl⟩:=int_at hi
     have xm:=zU hx
     have xr:=PR.rng x xm
     have hil:=(zK.mp hx).1
     refine⟨_,rfl,pl,rfl,⟨_,SqL.of (s3 _ _ hpl)⟩,zDu (K:=K) (a:=pl) (xs:=ps.map V.int) (fun j σ H4=>j<=ps.length/\∃(v5 v6:Option V)(fs:List Int),σ=[some (.ref fl),some (.ref pl),some (.ref fo),some (.int q),some (.int x),v5,v6]/\LkI ts n ps fs q i j/\zAw H H4/\H4 fo=some (.lst (fs.map V.int)))
      ⟨zg _,_,_,fs3,rfl,L3,s3,hfo3⟩ (fun i σ H4 _ ⟨_,_,_,_,_,_,s4,_⟩=>SqL.of (s4 _ _ hpl)) ?turn3 ?after3⟩
     case after3=>
      rintro σ H4 ⟨_,v5,v6,fs4,rfl,L4,s4,hfo4⟩
      rw[zB] at L4
      exact⟨_,_,_,fs4,rfl,L4.row hx (by omega),s4,hfo4⟩
     case turn3=>
      rintro j yv σ H4 hj ⟨_,v5,v6,fs4,rfl,L4,s4,hfo4⟩
      obtain⟨y,hy,rfl⟩:=int_at hj
      have ym:=zU hy
      have yr:=PR.rng y ym
      have hjl:=(zK.mp hy).1
      have LR4:=LR.same s4
      have hfl4:=s4 _ _ hfl
      obtain⟨ra,row,o,hra,hrow,hat,hlen⟩:=zDT LR4 RR xr.1 xr.2 yr.1 yr.2
      obtain⟨ra',row',o1,hra',hrow',hat',hlen1⟩:=zDT (y:=(q:Int)) LR4 RR xr.1 xr.2 (by omega) hqn
      obtain⟨rb,rowb,o2,hrb,hrowb,hatb,hlen2⟩:=zDT (x:=(q:Int)) LR4 RR (by omega) hqn yr.1 yr.2
      have be:=zJQ G xr.1 xr.2 (show (0:Int)<=q by omega) hqn hlen hlen1 hlen2
      refine⟨_,rfl,_,rfl,fl,_,_,.ref ra,rfl,rfl,SqL.of hfl4,zAv xr.1 (by rw[zP,hra];rfl),_,rfl,ra,_,_,_,rfl,rfl,SqL.of hrow,hat,?_⟩
      refine⟨_,rfl,_,_,rfl,rfl,⟨by decide,by decide,by decide⟩,_,_,rfl,rfl,_,rfl,?_⟩
      show if decide (enc o<(10:Int) ^ (6:Int).toNat)=true then _ else _
      rw[show (10:Int) ^ (6:Int).toNat=1000000 from rfl]
      have no:¬ (enc o<1000000/\enc o1+enc o2=enc o)->(j+1<=ps.length/\∃(v5 v6:Option V)(fs:List Int),[some (.ref fl),some (.ref pl),some (.ref fo),some (.int q),some (.int x),some (.int y),some (.int (enc o))]=[some (V.ref fl),some (.ref pl),some (.ref fo),some (.int q),some (.int x),v5,v6]/\LkI ts n ps fs q i (j+1)/\zAw H H4/\H4 fo=some (.lst (fs.map V.int))):=fun c=>
       ⟨hjl,_,_,fs4,rfl,L4.skip hx hy (fun z=>c (be.mpr z)),s4,hfo4⟩
      refine zCz (fun c1=>?_) (fun c1=>?_)
      . have c1':=of_decide_eq_true c1
        refine⟨_,rfl,_,rfl,fl,_,_,.ref ra',rfl,rfl,SqL.of hfl4,zAv xr.1 (by rw[zP,hra'];rfl),_,rfl,ra',_,_,_,rfl,rfl,SqL.of hrow',hat',?_⟩
        refine⟨_,rfl,_,rfl,fl,_,_,.ref rb,rfl,rfl,SqL.of hfl4,zAv (by omega) (by rw[zP,hrb];rfl),_,rfl,rb,_,_,_,rfl,rfl,SqL.of hrowb,hatb,?_⟩
        refine⟨_,_,rfl,rfl,_,rfl,rfl,_,rfl,?_⟩
        show if decide (V.int (enc o1+enc o2)=V.int (enc o))=true then _ else _
        rw[zKe]
        refine zCz (fun c2=>?_) (fun c2=>?_)
        . have hb:=be.mp ⟨c1',of_decide_eq_true c2⟩
          refine⟨_,rfl,.inl ⟨rfl,_,SqL.of hfo4⟩,_,rfl,fo,_,_,rfl,rfl,hfo4,?_,hjl,_,_,fs4++[(q:Int)],rfl,L4.put hx hy hqn hb,zAu s4 hfo,?_⟩
          . have:=L4.len
            rw[zB]
            exact zAo (zAP this (show _<=4000 by omega)) (by decide)
          . rw[zR];exact zJ
        . exact no fun z=>c2 (zW z.2)
      . exact no fun z=>c1 (zW z.1)
   case after1=>
    rintro σ H2 ⟨v3,v4,v5,v6,fs,rfl,L2,s2,hfo2⟩
    refine⟨_,rfl,fo,fs,rfl,.inl (SqL.of hfo2),by have:=L2.len;omega,fun z hz=>by have:=L2.rng z hz;omega,fun l ms hl hms hmm=>?_⟩
    have sL:=zH (o:=.lst (ms.map V.int)) hl
    have hl3:(upd H2 l (.lst (ms.map V.int))) l=some (.lst (ms.map V.int)):=zJ
    generalize upd H2 l (.lst (ms.map V.int))=H3 at sL hl3 ⊢
    have hml:ms.length<=60:=zDp (hms.imp fun h e=>by omega) fun z hz=>by have:=L2.rng z ((hmm z).mp hz);omega
    refine⟨l,rfl,⟨_,SqL.of hl3⟩,[.ref pl],rfl,fun D hD=>?_⟩
    have hpl3:=sL _ _ (s2 _ _ hpl)
    refine zCe (a:=l) (xs:=ms.map V.int) (fun i ys H4=>ys=((ms.take i).filter fun z=>!decide (z∈ps)).map V.int/\H4=upd H3 D (.lst ys)) ⟨rfl,rfl⟩ (fun i ys H4 z=>?_) (fun i ys H4 z=>?_) (fun i v ys H4 hv z=>?_) (fun ys H4 z=>?_)
    . obtain⟨_,rfl⟩:=z
      exact SqL.of (zH hD _ _ hl3)
    . obtain⟨rfl,_⟩:=z
      have h2:=zo (fun z:Int=>!decide (z∈ps)) (ms.take i)
      rw[zw] at h2
      rw[zB]
      exact zl (by omega)
    . obtain⟨rfl,rfl⟩:=z
      obtain⟨p,hp,rfl⟩:=int_at hv
      have st:=zCd (fun z:Int=>!decide (z∈ps)) hp
      refine⟨⟨rfl,rfl⟩,?_⟩
      refine⟨_,rfl,_,rfl,pl,_,rfl,.inl (SqL.of (zH hD _ _ hpl3)),rfl,zBJ _,_,rfl,?_⟩
      show if (!inV (.int p) (ps.map V.int))=true then _ else _
      rw[zBl]
      refine zCz (fun c=>?_) (fun c=>?_)
      . refine⟨_,rfl,zJ,?_,zB8⟩
        rw[st,if_pos c,zR];rfl
      . refine⟨?_,rfl⟩
        rw[st,if_neg c,zt]
    . obtain⟨rfl,rfl⟩:=z
      rw[zB,zY (zI _)]
      refine k D _ _ (s2.trans (sL.trans (zH hD))) (zBI (s2.trans sL) hD) zJ (hms.filter _) fun z=>?_
      rw[zAs,hmm z]
      constructor
      . rintro ⟨a,b⟩
        exact⟨by simpa using b,L2.snd z a⟩
      . rintro ⟨a,x,hx,y,hy,hb⟩
        obtain⟨aa,bb,ia,_⟩:=id hb
        have xr:=PR.rng x hx
        have zr:=ia.1.in_ G xr.1 xr.2
        exact⟨L2.cpl z x y hx hy hb zr.1 (.inl (by omega)),by simpa using a⟩
noncomputable def zKv:Sp:=fun vs H Q _=>∃(t fl:Addr)(N:Nat)(rs:List Addr)(M:lLO)(n:Int)(ts:List T3),vs=[.ref t,.ref fl]/\zB1 H t N/\N<800000/\H fl=some (.lst (rs.map V.ref))/\zA9 H rs M/\Rows ts n M/\GW n ts/\n<=11 /\
 ∀(pa:Addr)(ps:List Int)(H':Hp),H' pa=some (.tup (ps.map V.int))->Cvx ts n ps->zB1 H' t (N+40)->Sm t H H'->Q (.ref pa) H'
theorem zFt {fl:Addr}{M:lLO}(T:zBt H t p N)(hfl:H fl=some (.lst (rs.map V.ref)))(LR:zA9 H rs M)(RR:Rows ts n M)(h1:1<=n):fl≠t/\∀r∈rs,r≠t:=by
 obtain⟨ns,spot,rest,ht,_⟩:=T
 refine⟨fun z=>?_,fun r hr z=>?_⟩
 . rw[z,ht] at hfl
   injection hfl with e
   injection e with e
   match rs,e with
   | [],e=>cases e
   | [_],e=>cases e
   | _::_::_,e=>cases e
 . obtain⟨i,hi,e⟩:=zAL hr
   have hM:i<M.length:=by rw[<-LR.1];exact hi
   have hi':(i:Int)<n:=by have:=RR.1;omega
   have LL:=RR.2 i (by omega) hi'
   rw[zAB,zF,zD hM,zBR] at LL
   have h2:=LR.2.2 i r M[i] (by rw[zD hi,e]) (zD hM)
   rw[z,ht] at h2
   injection h2 with e2
   injection e2 with e2
   have hl:=LL.ln
   generalize M[i]=row at e2 hl
   cases row with
   | nil=>cases e2
   | cons o _=>injection e2 with e3;cases e3
theorem zFD {fl:Addr}{M:lLO}(d:fl≠t/\∀r∈rs,r≠t)(hfl:H fl=some (.lst (rs.map V.ref)))(LR:zA9 H rs M)(s:Sm t H H'):H' fl=some (.lst (rs.map V.ref))/\zA9 H' rs M:=
 ⟨s _ _ d.1 hfl,LR.keep fun b ys e m=>s _ _ (d.2 b m) e⟩
theorem zJ6 {ms ks:List Int}(G:GW n ts)(P:Prt n ps)(hri:ms.Pairwise (· < ·))(hmm:∀z,z∈ms↔z∉ps/\∃x∈ps,∃y∈ps,Btw ts x y z)(pm:ks.Perm (ps++ms))(hle:ks.Pairwise (· <= ·)):Prt n ks:=by
 have nd:(ps++ms).Nodup:=List.nodup_append.mpr ⟨P.nd,hri.imp fun h e=>by omega,fun a ha b hb e=>((hmm b).mp hb).1 (e ▸ ha)⟩
 refine⟨zFi hle (pm.nodup_iff.mpr nd),fun p hp=>?_,fun e=>?_⟩
 . rcases zm.mp (pm.mem_iff.mp hp) with h | h
   . exact P.rng p h
   . obtain⟨_,x,hx,y,hy,a,b,ia,_⟩:=(hmm p).mp h
     have xr:=P.rng x hx
     exact ia.1.in_ G xr.1 xr.2
 . rw[e] at pm
   have:=(List.append_eq_nil_iff.mp (List.nil_perm.mp pm)).1
   exact P.ne this
structure PI (t p fl so la:Addr)(N:Nat)(rs:List Addr)(M:lLO)(n:Int)(ts:List T3)(ps ms:List Int)(H0 H:Hp):Prop where
 hso:H so=some (.lst (ps.map V.int))
 hla:H la=some (.lst (ms.map V.int))
 pr:Prt n ps
 ri:ms.Pairwise (· < ·)
 mm:∀z,z∈ms↔z∉ps/\∃x∈ps,∃y∈ps,Btw ts x y z
 hfl:H fl=some (.lst (rs.map V.ref))
 lr:zA9 H rs M
 fd:zBt H t p N
 sm:Sm t H0 H
theorem PI.same {t p fl so la:Addr}{N:Nat}{rs:List Addr}{M:lLO}{n:Int}{ts:List T3}{ps ms:List Int}{H0 H H':Hp}(I:PI t p fl so la N rs M n ts ps ms H0 H)(s:zAw H H'):PI t p fl so la N rs M n ts ps ms H0 H':=by
 obtain⟨ns,spot,rest,a,b,c⟩:=id I.fd
 exact⟨s _ _ I.hso,s _ _ I.hla,I.pr,I.ri,I.mm,s _ _ I.hfl,I.lr.same s,⟨ns,spot,rest,s _ _ a,s _ _ b,c⟩,I.sm.trans (Sm.of s)⟩
theorem zEp:zAO ["_law_feed_here", "_law_rows_here", "_law_some", "_law_lacks_here"] ["_law_feed_here", "_law_rows_here"] (defScope zJs):=fS0
theorem zMI (F:Fun K "_law_part" "_law_part" zJs f fd') (FD:Fun K "_law_take" "_law_take" zFs fD fdD) (bD:zAU K fdD ["_law_feed_here", "_law_many"] []) (mD:mg "_law_take" = some (.ref fD))
 (FL:Fun K "_law_lacks" "_law_lacks" zD4 fL fdL) (bL:zAU K fdL ["_law_rows_here", "_law_places"] []) (mL:mg "_law_lacks" = some (.ref fL)) (mLen:mg "len" = none) (mRange:mg "range" = none) (mTuple:mg "tuple" = none) (mSorted:mg "sorted" = none) (mSet:mg "set" = none):zAg P w K mg base CX0 2 f fd' ["_law_feed_here", "_law_rows_here"] zKv:=by
 have GD:zAg P w K mg base CX0 1 fD fdD ["_law_feed_here", "_law_many"] zDP:=zDo FD mLen
 have GL:zAg P w K mg base CX0 1 fL fdL ["_law_rows_here", "_law_places"] zH2:=zKI FL mRange mLen mSorted mSet
 refine F.ok zEp (fun vs H Q E h=>?_) (fun cdv A outer s H vs Q E hr h=>?_)
 . obtain⟨t,fl,N,rs,M,n,ts,rfl,_⟩:=h
   rfl
 . obtain⟨t,fl,N,rs,M,n,ts,rfl,TT,hN,hfl,LR,RR,G,h11,k⟩:=h
   obtain⟨p,T⟩:=TT
   have hn1:=G.n1
   have hu0:=hr.units0
   have dd:=zFt T hfl LR RR hn1
   have hrl:rs.length=n.toNat:=by rw[LR.1,RR.1]
   refine⟨_,zS (zD6 (i:=2) (own:=["_law_place"]) (cn:=["_law_feed_here"]) (ci:=[0]) zEp.nd rfl (Or.inl rfl) rfl (csc rfl rfl) ⟨rfl,rfl,rfl,trivial⟩ rfl
    (zA5 rfl mRange (zE (zj zAS mLen (zE (pv 1) zM)) zM)) (fun _ _ _ _=>zAA (i:=0) (zB4 rfl) rfl (Or.inl rfl))
    (fun _ _ _ _=>zCC (zAN zCr (zy GD hr rfl mD FD.kp bD .nil zAt (zE (pv 1) (zCK zM))) zz (zAd _)))
    (fun _ _ _ _=>pv 0))
    (zS (ps_as (u':=fun (D:zJb) σ H3=>∃(so:Addr)(as:List Int),σ=[some (.ref t),some (.ref fl),some (.ref so),none]/\H3 so=some (.lst (as.map V.int))/\(∀a∈as,0<=a/\a<n)/\as.Pairwise (· < ·)/\zBt H3 t p (N+24)/\Sm t H H3 /\
     ∀(so':Addr)(ps:List Int)(H':Hp),H' so'=some (.lst (ps.map V.int))->Prt n ps->zBt H' t p (N+25)->Sm t H H'->D.nx [some (.ref t),some (.ref fl),some (.ref so'),none] H')
     (zAa (i:=2) zEp.nd rfl (Or.inl rfl) (pe_orT (pv 2) (zDF (zBh (zE (zy GD hr rfl mD FD.kp bD .nil zAt (zE (pv 0) (zE (zj zAS mLen (zE (pv 1) zM)) zM))) zM))))) (fun D σ H3 z=>by
      obtain⟨so,as,rfl,hso,ha,ri,T3,s3,z⟩:=z
      refine⟨_,rfl,!(as.map V.int).isEmpty,.inl ⟨_,SqL.of hso,rfl⟩,?_⟩
      cases as with
      | cons a r=>
       refine zCt ?_
       exact z so (a::r) H3 hso ⟨ri,ha,by simp⟩ (by obtain⟨ns,spot,rest,a,b,c,d,e,f⟩:=T3;exact⟨ns,spot,rest,a,b,c,d,by omega,f⟩) s3
      | nil=>
       refine zCw ?_
       have rw3:=zFD dd hfl LR s3
       refine⟨_,rfl,_,rfl,fl,_,rfl,.inl (SqL.of rw3.1),t,p,_,n,by rw[zB,hrl,zBg (show 0<=n by omega)];rfl,T3,by omega,by omega,by omega,fun r8 H8 h80 h81 T8 he8=>?_⟩
       refine⟨by show 1<=sizeLine;decide,fun l hl=>?_⟩
       exact z l [r8] _ zJ ⟨by simp,fun q hq=>by rw[zf.mp hq];exact⟨h80,h81⟩,by simp⟩ (T8.laid hl) (s3.trans ((zDQ he8).trans (Sm.laid hl)))))
    (zS (zAa (i:=3) zEp.nd rfl (Or.inl rfl) (zy GL hr rfl mL FL.kp bL .nil zAt (zE (pv 1) (zE (pv 2) zM))))
    (zS (zFH PassesOwn.never (zAN (zLE hu0) (pv 3) (zBh zM) (zAd _))
     (zS (zAa (i:=2) zEp.nd rfl (Or.inl rfl) (zj zGK mSorted (zE (zA3 zIc (pv 2) (pv 3)) zM)))
     (zd (zAa (i:=3) zEp.nd rfl (Or.inl rfl) (zy GL hr rfl mL FL.kp bL .nil zAt (zE (pv 1) (zE (pv 2) zM)))))))
    (zd (zAJ (zAc zAI mTuple (zE (pv 2) zM))))))),?_⟩
   refine⟨_,rfl,fl,_,rfl,.inl (SqL.of hfl),?_⟩
   rw[zB,hrl]
   refine⟨((n.toNat:Nat):Int),rfl,by omega,by omega,[.ref t],rfl,fun D hD=>?_⟩
   have nDt:=(T.ne hD).1
   have nDp:=(T.ne hD).2
   refine zBV (lo:=0) (n:=n.toNat) (fun j ys H6=>j<=n.toNat/\(∃as:List Int,ys=as.map V.int/\(∀a∈as,0<=a/\a<j)/\as.Pairwise (· < ·)/\as.length<=j)/\zBt H6 t p (N+j)/\Sm t H H6/\H6 D=some (.lst ys))
    ⟨zg _,⟨[],rfl,by simp,zBD,zI _⟩,T.laid hD,Sm.laid hD,zJ⟩ (fun j ys H6 z=>?_) (fun j ys H6 hj z=>?_) (fun ys H6 z=>?_)
   . obtain⟨_,⟨as,rfl,_,_,hk⟩,_⟩:=z
     rw[zB]
     exact zl (by omega)
   . obtain⟨_,⟨as,rfl,ha,nd,hk⟩,T6,s6,hD6⟩:=z
     rw[zAn]
     refine⟨⟨rfl,rfl⟩,?_⟩
     refine⟨_,rfl,t,p,_,3,rfl,T6,by omega,by decide,by decide,fun r7 H7 _ _ T7 he7=>?_⟩
     have s7:Sm t H6 H7:=zDQ he7
     have hD7:=s7 _ _ nDt hD6
     refine⟨rfl,_,rfl,?_⟩
     refine zCz (fun _=>?_) (fun _=>?_)
     . refine⟨_,rfl,hD7,by omega,⟨as++[(j:Int)],by rw[zR];rfl,fun a q=>?_,?_,by rw[zO];simp;omega⟩,T7.upd nDt nDp,(s6.trans s7).chg hD,zJ⟩
       . rcases zm.mp q with z | z
         . have:=ha a z;omega
         . rw[zf.mp z];omega
       . exact List.pairwise_append.mpr ⟨nd,by simp,fun a q b z=>by rw[zf.mp z];exact (ha a q).2⟩
     . exact⟨by omega,⟨as,rfl,fun a q=>by have:=ha a q;omega,nd,by omega⟩,T7,s6.trans s7,hD7⟩
   obtain⟨_,⟨as,rfl,ha,nd,hk⟩,T6,s6,hD6⟩:=z
   refine⟨D,as,rfl,hD6,fun a q=>by have:=ha a q;omega,nd,(by obtain⟨ns,spot,rest,a,b,c,d,e,f⟩:=T6;exact⟨ns,spot,rest,a,b,c,d,by omega,f⟩),s6,fun so ps H7 hso PR T7 s7=>?_⟩
   have rw7:=zFD dd hfl LR s7
   refine⟨_,rfl,_,rfl,fl,so,rs,M,n,ts,ps,rfl,rw7.1,rw7.2,RR,G,h11,hso,PR,fun la ms H8 s8 _ hla hri hmm=>?_⟩
   have I0:PI t p fl so la (N+25) rs M n ts ps ms H H8:=by
    obtain⟨ns,spot,rest,a,b,c⟩:=id T7
    exact⟨s8 _ _ hso,hla,PR,hri,hmm,s8 _ _ rw7.1,rw7.2.same s8,⟨ns,spot,rest,s8 _ _ a,s8 _ _ b,c⟩,s7.trans (Sm.of s8)⟩
   refine⟨fun m σ H3=>∃(so la:Addr)(ps ms:List Int),σ=[some (.ref t),some (.ref fl),some (.ref so),some (.ref la)]/\m=n.toNat-ps.length/\PI t p fl so la (N+25) rs M n ts ps ms H H3,⟨_,so,la,ps,ms,rfl,rfl,I0⟩,?_⟩
   clear I0 hmm hri hla s8 rw7 s7 T7 PR hso nd ha hk hD6 s6 T6
   rintro m σ H3 ⟨so,la,ps,ms,rfl,rfl,I3⟩
   refine⟨_,rfl,by show 0<=sizeLine;decide,fun e0 he0=>?_⟩
   have I4:=I3.same (zH (o:=.lst []) he0)
   have h00:(upd H3 e0 (.lst [])) e0=some (.lst []):=zJ
   generalize upd H3 e0 (.lst [])=H4 at I4 h00 ⊢
   have hpl:=I4.pr.len
   refine⟨la,e0,_,rfl,rfl,SqL.of I4.hla,SqL.of h00,_,rfl,?_⟩
   refine zCz (fun hc=>?_) (fun hc=>?_)
   . have hm0:0<ms.length:=by
      cases ms with
      | nil=>cases hc
      | cons _ _=>exact Nat.succ_pos _
     have hml:ms.length<=60:=zDp (I4.ri.imp fun h e=>by omega) fun z hz=>by
      obtain⟨_,x,hx,y,hy,a,b,ia,_⟩:=(I4.mm z).mp hz
      have xr:=I4.pr.rng x hx
      have:=ia.1.in_ G xr.1 xr.2
      omega
     refine⟨fun σ' H'=>∃(so la:Addr)(ps' ms':List Int),σ'=[some (.ref t),some (.ref fl),some (.ref so),some (.ref la)]/\ps.length<ps'.length/\PI t p fl so la (N+25) rs M n ts ps' ms' H H',fun σ' H' ⟨so',la',ps',ms',e,hlt,I'⟩=>⟨_,by have:=I'.pr.len;omega,so',la',ps',ms',e,rfl,I'⟩,?_⟩
     have hml':ms.length<=11:=by
      have:=nd_len (n:=n.toNat) (l:=ms) (I4.ri.imp fun h e=>by omega) fun z hz=>by
       obtain⟨_,x,hx,y,hy,a,b,ia,_⟩:=(I4.mm z).mp hz
       have xr:=I4.pr.rng x hx
       have:=ia.1.in_ G xr.1 xr.2
       omega
      omega
     refine⟨_,rfl,_,rfl,so,la,_,_,rfl,rfl,I4.hso,I4.hla,by rw[zB,zB];exact zAr (zl (by omega)),fun c hcn=>?_⟩
     have I5:=I4.same (zH (o:=.lst (ps.map V.int++ms.map V.int)) hcn)
     have hc5:(upd H4 c (.lst (ps.map V.int++ms.map V.int))) c=some (.lst ((ps++ms).map V.int)):=by rw[zJ,zR]
     generalize upd H4 c (.lst (ps.map V.int++ms.map V.int))=H5 at I5 hc5 ⊢
     refine⟨c,ps++ms,rfl,SqL.of hc5,by rw[zO];omega,fun l ks hl hpm hle=>?_⟩
     have I6:=I5.same (zH (o:=.lst (ks.map V.int)) hl)
     have hl6:(upd H5 l (.lst (ks.map V.int))) l=some (.lst (ks.map V.int)):=zJ
     generalize upd H5 l (.lst (ks.map V.int))=H6 at I6 hl6 ⊢
     have PR':=zJ6 G I6.pr I6.ri I6.mm hpm hle
     refine⟨_,rfl,_,rfl,fl,l,rs,M,n,ts,ks,rfl,I6.hfl,I6.lr,RR,G,h11,hl6,PR',fun la' ms' H7 s7 _ hla' hri' hmm'=>?_⟩
     have I7:=I6.same s7
     exact⟨l,la',ks,ms',rfl,by rw[hpm.length_eq,zO];omega,s7 _ _ hl6,hla',PR',hri',hmm',I7.hfl,I7.lr,I7.fd,I7.sm⟩
   . have hm:ms=[]:=by
      cases ms with
      | nil=>rfl
      | cons _ _=>exact absurd rfl hc
     subst hm
     refine⟨_,rfl,so,_,rfl,.inl ⟨SqL.of I4.hso,fun pa hpa=>?_⟩⟩
     have I5:=I4.same (zH (o:=.tup (ps.map V.int)) hpa)
     refine k pa ps _ zJ ⟨I5.pr,fun x hx y hy q hq=>?_⟩ ⟨p,(by obtain⟨ns,spot,rest,a,b,c,d,e,f⟩:=I5.fd;exact⟨ns,spot,rest,a,b,c,d,by omega,f⟩)⟩ I5.sm
     apply zAm
     intro hn
     have:=(I5.mm q).mpr ⟨hn,x,hx,y,hy,hq⟩
     cases this
noncomputable def enL (e:En):List (Option Int):=[some e.h,some e.l,e.u,e.d]
theorem sm_o (o:Option Int):∀h,SM H h (oV o) (oV o)
 | 0=>⟨o,rfl,rfl⟩
 | _+1=>.inl ⟨o,rfl,rfl⟩
variable {q:Addr}
theorem zK3 {xs:List (Option Int)}(hp:H p=some (.tup (xs.map oV)))(hq:H q=some (.tup (xs.map oV)))(hl:xs.length<=1000):SM H (h+1) (.ref p) (.ref q):=by
 refine .inr ⟨p,q,_,_,rfl,rfl,hp,hq,rfl,by rw[zB];exact hl,fun i x y hx hy=>?_⟩
 rw[hx] at hy
 cases hy
 rw[zP] at hx
 cases e:xs[i]? with
 | none=>rw[e] at hx;cases hx
 | some o=>rw[e] at hx;cases hx;exact sm_o o h
theorem zLl (a:zC6 H p ess)(b:zC6 H q ess)(hl:ess.length<=1000):SM H 4 (.ref p) (.ref q):=by
 obtain⟨as,a1,a2,a3⟩:=a
 obtain⟨bs,b1,b2,b3⟩:=b
 refine .inr ⟨p,q,_,_,rfl,rfl,a1,b1,by rw[zB,zB];omega,by rw[zB];omega,fun i x y hx hy=>?_⟩
 rw[zP] at hx hy
 cases e:as[i]? with
 | none=>rw[e] at hx;cases hx
 | some u=>
  rw[e] at hx
  cases hx
  cases e':bs[i]? with
  | none=>rw[e'] at hy;cases hy
  | some v=>
   rw[e'] at hy
   cases hy
   obtain⟨es,e1,cs,c1,c2,c3⟩:=a3 i u e
   obtain⟨es',e2,ds,d1,d2,d3⟩:=b3 i v e'
   rw[e1] at e2
   cases e2
   refine .inr ⟨u,v,_,_,rfl,rfl,c1,d1,by rw[zB,zB,c2.1,d2.1],by rw[zB,c2.1];exact c3,fun j x y hx hy=>?_⟩
   obtain⟨f,en,rfl,g1,g2⟩:=c2.at hx
   obtain⟨f',en',rfl,g1',g2'⟩:=d2.at hy
   rw[g1] at g1'
   cases g1'
   exact zK3 (xs:=enL en) g2 g2' (by show 4<=1000;decide)
theorem zG4 {PT:Addr}{pos:Pos}{q:Str}(T:zC4 H PT pos q)(F:zB1 H t N)(s:Sm t H H'):zC4 H' PT pos q:=by
 obtain⟨p,ns,spot,rest,ht,_⟩:=F
 refine T.keep (fun o e=>?_) fun c φ e=>?_
 . refine s _ _ (fun z=>?_) e
   obtain⟨ps,hps,_⟩:=T
   rw[z,ht] at hps;cases hps
 . exact s _ _ (fun z=>by rw[z,ht] at e;cases e) e
theorem zB1.smT (F:zB1 H t N)(s:SmT H H'):zB1 H' t N:=by
 obtain⟨p,ns,spot,rest,ht,hp,r⟩:=F
 exact⟨p,ns,spot,rest,s.get ht (by intro ps z;cases z),s.get hp (by intro ps z;cases z),r⟩
theorem zH7 {xs:List Int}(hp:H p=some (.tup (xs.map V.int)))(hq:H q=some (.tup (xs.map V.int)))(hl:xs.length<=1000):SM H (h+1) (.ref p) (.ref q):=by
 have e:xs.map V.int=(xs.map some).map oV:=by rw[List.map_map];rfl
 rw[e] at hp hq
 exact zK3 hp hq (by rw[zB];exact hl)
theorem sm_web (a:zBw H p n ts)(b:zBw H q n ts):SM H 4 (.ref p) (.ref q):=by
 obtain⟨ta,tys,a1,a2,a3,G⟩:=a
 obtain⟨tb,tzs,b1,b2,b3,_⟩:=b
 refine .inr ⟨p,q,_,_,rfl,rfl,a1,b1,rfl,by show 2<=1000;decide,fun i x y hx hy=>?_⟩
 have l1:=a3.length
 have l2:=b3.length
 have h64:=G.len
 rw[zB] at l1 l2
 match i,hx,hy with
 | 0,hx,hy=>cases hx;cases hy;exact sm_o (some n) 3
 | 1,hx,hy=>
  cases hx;cases hy
  refine .inr ⟨ta,tb,_,_,rfl,rfl,a2,b2,by omega,by omega,fun j x y hx hy=>?_⟩
  obtain⟨u,k,rfl,hk,hu,_⟩:=a3.get hx
  obtain⟨v,k',rfl,hk',hv,_⟩:=b3.get hy
  rw[hk] at hk'
  cases hk'
  rw[zP] at hk
  cases e:ts[j]? with
  | none=>rw[e] at hk;cases hk
  | some t3=>rw[e] at hk;cases hk;exact zH7 hu hv (by show 3<=1000;decide)
 | i+2,hx,hy=>simp at hx
theorem ord_of {os:List Int}(h:os.Perm (lowTo n.toNat))(h0:0<=n):Ordr n os:=by
 have nd:(lowTo n.toNat).Nodup:=by
  unfold lowTo
  rw[List.Nodup,zA2]
  exact List.nodup_range.imp fun h e=>h (by omega)
 refine⟨by rw[h.length_eq,zDs],h.nodup_iff.mpr nd,fun p hp=>?_⟩
 have:=h.mem_iff.mp hp
 unfold lowTo at this
 obtain⟨j,hj,e⟩:=zAM.mp this
 have:=zBG.mp hj
 omega
theorem zFe (T:zB1 H t N)(s:Sm t H H'):∀b ys,H b=some (.tup ys)->H' b=some (.tup ys):=fun b ys e=>by
 obtain⟨p,ns,spot,rest,ht,_⟩:=T
 exact s _ _ (zBu e ht (by intro z;cases z)) e
theorem zD0 (s:SmT H H'):∀b ys,H b=some (.tup ys)->H' b=some (.tup ys):=fun b ys e=>s.get e (by intro ps z;cases z)
theorem zA9.smT {M:lLO}(h:zA9 H rs M)(s:SmT H H'):zA9 H' rs M:=h.keep fun b ys e _=>s.get e (by intro ps z;cases z)
noncomputable def zJm (K:PySem.W.Frag)(PT:Addr):Sp:=fun vs H Q _=>∃(a:Addr)(ns:List Int),vs=[.ref a]/\SqL K H a (ns.map V.int)/\ns.length<=63/\H PT=some (.tbl #[])/\∀H',Q (.bl true) H'
theorem zMm {lo hi:Option Int}{x:V}(h:x∈zFR xs lo hi):x∈xs:=List.mem_of_mem_drop (List.mem_of_mem_take h)
noncomputable def rCatV:R2:=fun x y H Q=>∃(a b:Addr)(xs ys:List V),x = .ref a/\y = .ref b/\H a=some (.tup xs)/\H b=some (.tup ys)/\xs.length+ys.length<=sizeLine/\∀(p:Addr)(H':Hp),zAw H H'->H' p=some (.tup (xs++ys))->Q (.ref p) H'
theorem zDU:OpR X (binaryOp .Add) rCatV:=fun pins s σ H x y v u Q I rx ry h=>by
 obtain⟨a,b,xs,ys,rfl,rfl,ha,hb,hz,q⟩:=h
 refine zL8 pins s σ H _ _ v u Q I rx ry ⟨a,b,xs,ys,rfl,rfl,SqT.of ha,SqT.of hb,hz,fun e=>?_,fun _ e=>?_,fun _ _ p hp=>q p _ (zH hp) zJ⟩
 . subst e;exact q b H (zAw.refl _) hb
 . subst e;exact q a H (zAw.refl _) (by rw[zt];exact ha)
noncomputable def rSlV:V->Option Int->Option Int->Hp->VK->Prop:=fun x lo hi H Q=>∃(a:Addr)(xs:List V),x = .ref a/\H a=some (.tup xs)/\∀(p:Addr)(H':Hp),zAw H H'->H' p=some (.tup (zFR xs lo hi))->Q (.ref p) H'
theorem zE9:SlR X rSlV:=fun pins s σ H x v vl vu lo hi sl Q I rx hs pl pu h=>by
 obtain⟨a,xs,rfl,ha,q⟩:=h
 refine zLm pins s σ H _ v vl vu lo hi sl Q I rx hs pl pu ⟨a,xs,rfl,SqT.of ha,fun e=>?_,fun _ p hp=>q p _ (zH hp) zJ⟩
 refine q a H (zAw.refl _) ?_
 have:zFR xs lo hi=xs:=by
  unfold zFR
  rw[e.1,e.2,List.drop_zero,Nat.sub_zero,zY (zI _)]
 rw[this]
 exact ha
noncomputable def rEqL (K:PySem.W.Frag):R2:=fun x y H Q=>∃(a b:Addr)(xs ys:List Int),x = .ref a/\y = .ref b/\SqL K H a (xs.map V.int)/\SqL K H b (ys.map V.int)/\Q (.bl (decide (xs=ys))) H
theorem op_eqL (hu:X.A.units<cLine):OpR X (compareOp .Eq) (rEqL X.K):=by
 intro pins s σ H x y v u Q I rx ry h
 obtain⟨a,b,xs,ys,rfl,rfl,ha,hb,q⟩:=h
 cases rx
 cases ry
 obtain⟨its,r,pl,hz⟩:=I.list ha
 obtain⟨its2,r2,pl2,hz2⟩:=I.list hb
 have h1:=zBU r
 have h2:=zBU r2
 have l1:=h1.length
 have l2:=h2.length
 by_cases hl:its.length=its2.length
 . refine SeqAt.eq_listAt (e:=fun j=>xs.getD j 0==ys.getD j 0) pl.isList pl2.isList (by rw[zN,zN];exact hl) hu (fun j a b=>eqAts h1 h2 j a b) ⟨.bl _,H,I,rfl,?_⟩
   rw[zN]
   have e:=zKR (xs:=xs) (ys:=ys)
   rw[show min xs.length ys.length=its.length by omega,show (xs.length==ys.length)=true by simpa using (by omega),Bool.and_true] at e
   rw[e]
   exact q
 . refine SeqAt.eq_list_lengthsAt pl.isList pl2.isList (by rw[zN,zN];simpa using hl) hu ⟨.bl _,H,I,rfl,?_⟩
   have hne:xs≠ys:=fun e=>hl (by rw[l1,l2,e])
   rw[zu hne] at q
   exact q
theorem zAg.toX {k:Nat}{fd:FuncData}{ps:List Str}{sp:Sp}(F:zAg P w K mg base CX0 k f fd ps sp):zAg P w K mg base (CXO P w) k f fd ps sp:=
 ⟨F.len,fun A outer s H args us vs Q E hr he hb hv hs=>PySem.codeAny_mono (F.run A outer s H args us vs Q E hr he hb hv hs) fun r s' hq=>by
  cases r with
  | error e=>exact hq.elim
  | ok fl=>cases fl <;> exact hq⟩
theorem zK9 {st:List Stmt}:PSs X st (fun _ _ _=>False):=fun _ _ _ _ _ _ h=>h.elim
inductive zKl (X:Cx):List Expr->List Addr->Prop
 | nil:zKl X [] []
 | cons {x:Str}{p:Pos}{c:Addr}{es:List Expr}{cs:List Addr}:PE X (.Name x p) (tC (.ref c))->zKl X es cs->zKl X (.Name x p::es) (c::cs)
theorem zL3 {es:List Expr}{cs:List Addr}(h:zKl X es cs):PA X es (fun _ H Q=>Q (cs.map V.ref) H):=by
 induction h with
 | nil=>exact zM
 | cons he _ ih=>exact zE he ih
structure ErrG (K:PySem.W.Frag)(mg:sOV)(nm:Str)(ns:List Str)(cW cR:Addr)(cs:List Addr):Prop where
 mW:mg "WayError" = some (.ref cW)
 mR:mg nm=some (.ref cR)
 qW:PySem.W.excIn K cW bmV "ValueError.__new__" = true
 qR:PySem.W.excIn K cR bmV "ValueError.__new__" = true
 sb:L2.subIn K cR cW=true
 ex:zEk K cR
 ms:ns.map mg=cs.map fun c=>some (.ref c)
 k1:PySem.W.kitAny K (.ref cR) (cs.map Value.ref)=some false
 kR:PySem.W.kitOne K (.ref cR) (.ref cR)=some true
 kV:PySem.W.kitOne K (.ref cR) (.type "ValueError")=some true
theorem zCj {e:Expr}{te te':TE}(h:PE X e te)(m:∀ σ H Q,te' σ H Q->te σ H Q):PE X e te':=fun pins s σ H Q I q=>h pins s σ H Q I (m σ H Q q)
inductive LitL (X:Cx)(Pre:St->Hp->Prop)(R:Hp->V->Prop):List Expr->Prop
 | nil:LitL X Pre R []
 | cons {e:Expr}{es:List Expr}(he:PE X e (fun σ H Q=>Pre σ H/\∀v H',zAw H H'->R H' v->Q v H'))(h:LitL X Pre R es)(hs:starEach (e::es) X.env=(false,eval e X.env)::starEach es X.env:=by rfl):LitL X Pre R (e::es)
theorem zLB {Pre:St->Hp->Prop}{R:Hp->V->Prop}(kp:∀ σ H H',Pre σ H->zAw H H'->Pre σ H')(kr:∀H H' v,R H v->zAw H H'->R H' v){es:List Expr}(h:LitL X Pre R es) :
 PA X es (fun σ H Q=>Pre σ H/\∀(vs:List V) H',zAw H H'->vs.length=es.length->(∀v∈vs,R H' v)->Q vs H'):=by
 induction h with
 | nil=>exact fun pos pins s σ H Q I q=>zM pos pins s σ H Q I (q.2 [] H (zAw.refl _) rfl (fun v hv=>by cases hv))
 | @cons e es he _ hs ih=>
  intro pos pins s σ H Q I q
  obtain⟨a,q⟩:=q
  refine (zE he ih hs) pos pins s σ H Q I ?_
  refine⟨a,fun v H1 s1 o1=>⟨kp _ _ _ a s1,fun vs H2 s2 hl al=>?_⟩⟩
  refine q (v::vs) H2 (s1.trans s2) (by rw[zn,hl];rfl) fun x hx=>?_
  rcases zV.mp hx with rfl | hx
  . exact kr _ _ _ o1 s2
  . exact al x hx
noncomputable def zJZ (ts:List T3)(n:Int)(d:PyData):Prop:=∃ps:List Int,d = .tuple (ps.map PyData.int)/\Cvx ts n ps
theorem prt_of (h:zGz n ps):Prt n ps:=⟨h.rise,h.rng,h.ne⟩
theorem zJo {H:Hp}:∀os:List Int,zA1 H (os.map V.int) (os.map PyData.int)
 | []=>.nil
 | a::r=>.cons (.int a) (zJo r)
noncomputable def zGc:Sp:=fun vs H Q _=>∃(rl pa:Addr)(rs:List Addr)(M:lLO)(n x:Int)(ts:List T3)(ps:List Int),vs=[.ref rl,.ref pa,.int x]/\H rl=some (.tup (rs.map V.ref))/\zCf H rs M/\Rows ts n M/\GW n ts/\H pa=some (.tup (ps.map V.int))/\Prt n ps/\x∈ps/\∀(b:Bool) H',(b=true↔∀y∈ps,∀p,Btw ts x y p->p∈ps)->zAw H H'->Q (.bl b) H'
noncomputable def zFl (PT:Addr):Sp:=fun vs H Q _=>∃(wa:Addr)(v:V)(d:PyData)(n:Int)(ts:List T3),vs=[.ref wa,v]/\zBw H wa n ts/\zBj H v d/\Tb H PT/\∀(b:Bool) H',(b=true↔zJZ ts n d)->SmT H H'->Tb H' PT->Q (.bl b) H'
theorem zKi (bs:List Bool)(b:Bool):(bs++[b]).all id=true↔bs.all id=true/\b=true:=by simp
theorem zKJ (F:Fun K "holds_ways_from" "holds_ways_from" zIL f fd') (FB:Fun K "between_rows" "between_rows" sBwr fB fdB) (bB:zAU K fdB ["here", "there", "other"] []) (mB:mg "between_rows" = some (.ref fB)) (mRange:mg "range" = none) (mTuple:mg "tuple" = none) (mLen:mg "len" = none) (mAll:mg "all" = none) :
 zAg P w K mg base CX0 2 f fd' ["rows", "places", "one"] zGc:=by
 have GB:zAg P w K mg base CX0 1 fB fdB ["here", "there", "other"] zLj:=zLF FB mRange mTuple mLen
 refine F.ok zK6 (fun vs H Q E h=>?_) (fun cdv A outer s H vs Q E hr h=>?_)
 . obtain⟨rl,pa,rs,M,n,x,ts,ps,rfl,_⟩:=h
   rfl
 . obtain⟨rl,pa,rs,M,n,x,ts,ps,rfl,hrl,RA,RR,G,hpa,C,hx,k⟩:=h
   refine⟨_,zS (zB3 PassesOwn.never rfl (zB9 (pv 1)) (zAA (i:=3) zK6.nd rfl (Or.inl rfl))
    (zd (zBn (zCB (zBx (zj (zC2 rfl) mAll (zE (zBH (own:=["place"]) (cn:=["places"]) (ci:=[1]) rfl (csc rfl rfl) ⟨rfl,rfl,rfl,trivial⟩ rfl
     (zB9 (zy GB hr rfl mB FB.kp bB .nil zAt (zE (zAT zAy (pv 0) (pv 2) (fun _ _=>rfl)) (zE (zAT zAy (pv 0) (pv 3) (fun _ _=>rfl)) (zE (pv 3) zM))))) (fun _ _ _ _=>zAA (i:=0) (zB4 rfl) rfl (Or.inl rfl))
     (fun _ _ _ _=>zB2) (fun _ _ _ _=>zBq zEt (pv 0) (pv 1) (by with_unfolding_all rfl))) zM)))) (zd (zAJ zCc)) zAh)))
    (zd (zAJ zCc)),?_⟩
   have xr:=C.rng x hx
   have hn24:=G.n24
   refine⟨_,rfl,pa,rfl,⟨_,SqT.of hpa⟩,zCk (K:=K) (a:=pa) (xs:=ps.map V.int) (fun i σ H2=>∃va:Option V,σ=[some (.ref rl),some (.ref pa),some (.int x),va]/\zAw H H2/\∀y∈ps.take i,∀p,Btw ts x y p->p∈ps)
    ⟨none,rfl,zAw.refl _,by simp⟩ (fun i σ H2 _ ⟨_,_,s2,_⟩=>SqT.of (s2 _ _ hpa)) ?turn ?after⟩
   case turn=>
    rintro i v σ H2 hi ⟨va,rfl,s2,al2⟩
    obtain⟨y,hy,rfl⟩:=int_at hi
    have hy':=zU hy
    have yr:=C.rng y hy'
    have RA2:zCf H2 rs M:=⟨RA.1,fun i r row a b=>s2 _ _ (RA.2 i r row a b)⟩
    obtain⟨rh,gh,hh,Lh⟩:=RA2.at RR xr.1 xr.2
    obtain⟨rv,gv,hv,Lv⟩:=RA2.at RR yr.1 yr.2
    have hrl2:=s2 _ _ hrl
    refine⟨_,rfl,_,rfl,rl,_,_,.ref rh,rfl,rfl,SqT.of hrl2,zAv xr.1 gh,_,rfl,_,rfl,rl,_,_,.ref rv,rfl,rfl,SqT.of hrl2,zAv yr.1 gv,_,rfl,rh,rv,n,ts,x,y,_,_,rfl,G,xr.1,xr.2,yr.1,yr.2,hh,hv,Lh,Lv,fun l xs H3 s3 hl hrise hmem=>?_⟩
    have hxl:xs.length<=24:=by
     have:=nd_len (n:=n.toNat) (l:=xs) (hrise.imp fun z=>by omega) fun p hp=>by
      obtain⟨a,b,ia,_⟩:=(hmem p).mp hp
      have:=ia.1.in_ G xr.1 xr.2
      omega
     omega
    refine⟨l,rfl,⟨_,SqT.of hl⟩,[.ref pa],rfl,fun D hD=>?_⟩
    have hpa3:=s3 _ _ (s2 _ _ hpa)
    refine zCE (a:=l) (xs:=xs.map V.int) (fun q ys H4=>ys=((xs.take q).map fun p=>decide (p∈ps)).map V.bl/\H4=upd H3 D (.lst ys)) ⟨rfl,rfl⟩ (fun q ys H4 z=>?_) (fun q ys H4 z=>?_) (fun q v ys H4 hv z=>?_) (fun ys H4 z=>?_)
    . obtain⟨_,rfl⟩:=z
      exact SqT.of (zH hD _ _ hl)
    . obtain⟨rfl,_⟩:=z
      rw[zB,zB,zw]
      exact zl (by omega)
    . obtain⟨rfl,rfl⟩:=z
      obtain⟨p,hp,rfl⟩:=int_at hv
      refine⟨⟨rfl,rfl⟩,?_⟩
      refine zGa ?_
      refine⟨_,rfl,_,rfl,pa,_,rfl,.inr (SqT.of (zH hD _ _ hpa3)),rfl,zBJ _,zJ,?_,zB8⟩
      rw[zAH,hp,zR,zR]
      show _++[V.bl (inV (.int p) (ps.map V.int))]=_
      rw[zBl];rfl
    . obtain⟨rfl,rfl⟩:=z
      rw[zB,zY (zI _)]
      refine⟨D,_,rfl,SqL.of zJ,(xs.map fun p=>decide (p∈ps)).all id,rfl,?_⟩
      have sD:=s2.trans (s3.trans (zH (o:=.lst ((xs.map fun p=>decide (p∈ps)).map V.bl)) hD))
      have key:(xs.map fun p=>decide (p∈ps)).all id=true↔∀p,Btw ts x y p->p∈ps:=by
       rw[zBo]
       constructor
       . intro h p hp
         have:=h _ (zAM.mpr ⟨p,(hmem p).mpr hp,rfl⟩)
         exact of_decide_eq_true this
       . intro h b hb
         obtain⟨p,hp,rfl⟩:=zAM.mp hb
         exact zW (h p ((hmem p).mp hp))
      cases hb:(xs.map fun p=>decide (p∈ps)).all id with
      | false=>
       refine zCt (k false _ ⟨(fun z=>by cases z),fun al=>?_⟩ sD)
       rw[key.mpr (al y hy')] at hb
       cases hb
      | true=>
       refine zCw ⟨_,rfl,sD,fun z hz=>?_⟩
       rw[zAH,hy] at hz
       rcases zm.mp hz with c | c
       . exact al2 z c
       . have:z=y:=by simpa using c
         rw[this];exact key.mp hb
   case after=>
    rintro σ H2 ⟨va,rfl,s2,al2⟩
    rw[zB,zY (zI _)] at al2
    exact k true H2 ⟨fun _=>al2,fun _=>rfl⟩ s2
theorem zMP {fA fH:Addr}{fdA fdH:FuncData}(F:Fun K "is_part" "is_part" sIsP f fd') (FA:Fun K "are_places" "are_places" sArp fA fdA) (bA:zAU K fdA ["n", "thing"] []) (mA:mg "are_places" = some (.ref fA)) (GA:zAg P w K mg base CX0 5 fA fdA ["n", "thing"] zH5)
 (FL:Fun K "lengths" "lengths" zHT fL fdL) (bL:zAU K fdL ["web"] []) (mL:mg "lengths" = some (.ref fL)) (GL:zAg P w K mg base CX0 5 fL fdL ["web"] (zG5 PT))
 (FH:Fun K "holds_ways_from" "holds_ways_from" zIL fH fdH) (bH:zAU K fdH ["rows", "places", "one"] []) (mH:mg "holds_ways_from" = some (.ref fH)) (GH:zAg P w K mg base CX0 5 fH fdH ["rows", "places", "one"] zGc) (mAll:mg "all" = none) :
 zAg P w K mg base CX0 6 f fd' ["web", "thing"] (zFl PT):=by
 refine F.ok scIsP (fun vs H Q E h=>?_) (fun cdv A outer s H vs Q E hr h=>?_)
 . obtain⟨wa,v,d,n,ts,rfl,_⟩:=h
   rfl
 . obtain⟨wa,v,d,n,ts,rfl,W,S,TT,k⟩:=h
   obtain⟨ta,tys,hwa,hta,TA,G⟩:=id W
   have hn24:=G.n24
   have hn1:=G.n1
   refine⟨_,zS (zBn (zCB (zBx (zy GA hr rfl mA FA.kp bA .nil zAt (zE (zAT zAy (pv 0) zz (fun _ _=>rfl)) (zE (pv 1) zM))))) (zd (zAJ zCc)) zAh)
    (zS (zAa (i:=2) scIsP.nd rfl (Or.inr rfl) (zy GL hr rfl mL FL.kp bL .nil zAt (zE (pv 0) zM)))
    (zd (zAJ (zj (zC2 rfl) mAll (zE (zBH (own:=["place"]) (cn:=["rows", "thing"]) (ci:=[2,1]) rfl (csc rfl rfl) ⟨rfl,rfl,rfl,rfl,rfl,rfl,trivial⟩ rfl
     (zB9 (pv 1)) (fun _ _ _ _=>zAA (i:=0) (zB4 rfl) rfl (Or.inl rfl)) (fun _ _ _ _=>zB2)
     (fun _ _ _ _=>zy GH hr rfl mH FH.kp bH .nil zAt (zE (pv 1) (zE (pv 2) (zE (pv 0) zM))))) zM))))),?_⟩
   refine⟨_,rfl,wa,_,_,.int n,rfl,rfl,SqT.of hwa,rfl,_,rfl,n,v,d,rfl,S,by omega,hn24,fun b H1 hb s1=>?_⟩
   refine⟨_,rfl,?_⟩
   cases b with
   | false=>
    refine zCt (k false H1 ⟨(fun z=>by cases z),?_⟩ (SmT.of s1) (TT.same s1))
    rintro ⟨ps,rfl,C⟩
    have:=hb.mpr ⟨ps,rfl,C.pr.posts⟩
    cases this
   | true=>
    refine zCw ?_
    obtain⟨ps,rfl,O⟩:=hb.mp rfl
    obtain⟨pa,rfl,hpa⟩:∃pa,v = .ref pa/\H pa=some (.tup (ps.map V.int)):=by
     cases S with
     | tup e al=>
      have:=zEn al
      subst this
      exact⟨_,rfl,e⟩
    have PR:=prt_of O
    have hpl:=PR.len
    refine⟨_,rfl,wa,n,ts,rfl,W.keep s1,TT.same s1,fun rl rs M H2 s2 T2 hrl RA RR=>?_⟩
    have hpa2:H2 pa=some (.tup (ps.map V.int)):=s2.get (s1 _ _ hpa) (by intro ps z;cases z)
    refine⟨_,rfl,pa,rfl,⟨_,SqT.of hpa2⟩,[.ref rl,.ref pa],rfl,fun D hD=>?_⟩
    refine zCE (a:=pa) (xs:=ps.map V.int) (fun q ys H4=>q<=ps.length/\(∃bs:List Bool,bs.length=q/\ys=bs.map V.bl/\(bs.all id=true↔∀x∈ps.take q,∀y∈ps,∀p,Btw ts x y p->p∈ps))/\zAw H2 H4/\H4 D=some (.lst ys)) ⟨zg _,⟨[],rfl,rfl,⟨fun _ x hx=>by simp at hx,fun _=>rfl⟩⟩,zH hD,zJ⟩ (fun q ys H4 z=>?_) (fun q ys H4 z=>?_) (fun q v ys H4 hv z=>?_) (fun ys H4 z=>?_)
    . exact SqT.of (z.2.2.1 _ _ hpa2)
    . obtain⟨hq,⟨bs,hbl,rfl,_⟩,_⟩:=z
      rw[zB]
      exact zl (by omega)
    . obtain⟨_,⟨bs,hbl,rfl,hbs⟩,s4,hD4⟩:=z
      obtain⟨p,hp,rfl⟩:=int_at hv
      have hql:=(zK.mp hp).1
      refine⟨⟨rfl,rfl⟩,?_⟩
      refine zGa ?_
      refine⟨_,rfl,_,rfl,_,rfl,rl,pa,rs,M,n,p,ts,ps,rfl,s4 _ _ hrl,⟨RA.1,fun i r row a b=>s4 _ _ (RA.2 i r row a b)⟩,RR,G,s4 _ _ hpa2,PR,zU hp,fun b H5 hb5 s5=>?_⟩
      refine⟨s5 _ _ hD4,by omega,⟨bs++[b],by rw[zO,hbl];rfl,by rw[zR];rfl,?_⟩,zAu (s4.trans s5) hD,zJ⟩
      rw[zKi,hbs,hb5,zAH,hp]
      constructor
      . rintro ⟨h1,h2⟩ x hx
        rcases zm.mp hx with c | c
        . exact h1 x c
        . have:x=p:=by simpa using c
          rw[this];exact h2
      . intro h
        exact⟨fun x hx=>h x (zAe _ hx),h p (ze _ (by simp))⟩
    . obtain⟨_,⟨bs,hbl,rfl,hbs⟩,s4,hD4⟩:=z
      rw[zB,zY (zI _)] at hbs
      refine⟨D,_,rfl,SqL.of hD4,?_⟩
      refine k (bs.all id) H4 ⟨fun h=>⟨ps,rfl,PR,hbs.mp h⟩,?_⟩ (((SmT.of s1).trans s2).trans (SmT.of s4)) (T2.same s4)
      rintro ⟨ps',e,C⟩
      have e':=zDV (PyData.tuple.inj e)
      subst e'
      exact hbs.mpr C.cv
theorem zIh {k:Nat}(F:zAg P w K mg base CX0 k f fd' ["web", "thing"] (zFl PT)):zAg P w K mg base CX0 k f fd' ["web", "thing"] (spIsP PT):=F.imp fun vs H Q E h=>by
 obtain⟨wa,pa,n,ts,ps,rfl,W,hpa,C,TT,k⟩:=h
 refine⟨wa,.ref pa,.tuple (ps.map PyData.int),n,ts,rfl,W,.tup hpa (zJo ps),TT,fun b H' hb s T=>?_⟩
 rw[hb.mpr ⟨ps,rfl,C⟩]
 exact k H' s T
noncomputable abbrev nsP:List Str:=["NoLabels", "NoLeast", "NoOrder", "NoPlan", "NoPosts", "NoRing", "NoRow", "NoText", "NoTie", "NoTree", "TooMany"]
noncomputable def zGb (PT c:Addr):Sp:=fun vs H _ E=>∃(wa:Addr)(v:V)(d:PyData)(n:Int)(ts:List T3),vs=[.ref wa,v]/\zBw H wa n ts/\zBj H v d/\¬ zJZ ts n d/\Tb H PT/\∀H',SmT H H'->Tb H' PT->E (.ref c) none H'
noncomputable def zKs (PT:Addr):Sp:=fun vs H Q _=>∃(wa:Addr)(v:V)(d:PyData)(n:Int)(ts:List T3),vs=[.ref wa,v]/\zBw H wa n ts/\zBj H v d/\¬ zJZ ts n d/\Tb H PT/\∀H',SmT H H'->Tb H' PT->Q (.str "refused") H'
theorem zKH (F:Fun K "part_web" "part_web" zGi f fd') (FI:Fun K "is_part" "is_part" sIsP fI fdI) (bI:zAU K fdI ["web", "thing"] []) (mI:mg "is_part" = some (.ref fI)) (GI:zAg P w K mg base CX0 6 fI fdI ["web", "thing"] (zFl PT))
 (mC:mg "NoPart" = some (.ref c)) (qC:PySem.W.excIn K c bmV "ValueError.__new__" = true):zAg P w K mg base (CXO P w) 7 f fd' ["web", "thing"] (zGb PT c):=by
 refine F.okX zIG (fun vs H Q E h=>?_) (fun cdv A outer s H vs Q E hr h=>?_)
 . obtain⟨wa,v,d,n,ts,rfl,_⟩:=h
   rfl
 . obtain⟨wa,v,d,n,ts,rfl,W,S,no,TT,k⟩:=h
   refine⟨_,zS (zBn (zCB (zBx (zy GI hr rfl mI FI.kp bI .nil zAt (zE (pv 0) (zE (pv 1) zM))))) (zd (zJ5 (E:=E) rfl mC qC rfl (zE zEC zM) (fun pins σ H s h' ea vs I mx hE=>zIS I mx hE) (hl:=fun σ H Q h=>⟨zI 1,h⟩))) zAh) zK9,?_⟩
   refine⟨_,rfl,_,rfl,wa,v,d,n,ts,rfl,W,S,TT,fun b H' hb s' T'=>?_⟩
   have:b=false:=by
    cases b with
    | false=>rfl
    | true=>exact absurd (hb.mp rfl) no
   subst this
   refine⟨_,rfl,zCt ?_⟩
   exact k H' s' T'
theorem zEb:zAO ["_law_web_here", "_law_thing", "_law_found", "e"] ["_law_web_here", "_law_thing"] (defScope sTol):=fS0
variable {cW:Addr}
theorem zMD (F:Fun K "_law_told" "_law_told" sTol f fd') (FB:Fun K "part_web" "part_web" zGi fB fdB) (bB:zAU K fdB ["web", "thing"] []) (mB:mg "part_web" = some (.ref fB)) (G:zAg P w K mg base CX0 7 fB fdB ["web", "thing"] (zFk PT)) (mW:mg "WayError" = some (.ref cW)) (qW:PySem.W.excIn K cW bmV "ValueError.__new__" = true) :
 zAg P w K mg base CX0 8 f fd' ["_law_web_here", "_law_thing"] (zFk PT):=by
 refine F.ok zEb (fun vs H Q E h=>?_) (fun cdv A outer s H vs Q E hr h=>?_)
 . obtain⟨wa,pa,n,ts,ps,rfl,_⟩:=h
   rfl
 . obtain⟨wa,pa,n,ts,ps,rfl,W,hpa,C,TT,k⟩:=h
   refine⟨_,zS (zAa (i:=2) zEb.nd rfl (Or.inl rfl) zCR)
    (zS (zLA (i:=3) zEb.nd rfl rfl rfl rfl rfl rfl mW qW (zK7 (i:=2) zEb.nd rfl (Or.inl rfl) (zAg.toX G) hr rfl mB FB.kp bB (zE (pv 0) (zE (pv 1) zM))) (fun ea oe c hc=>zK9))
    (zd (zAJ (pv 2)))),?_⟩
   refine⟨_,rfl,_,rfl,wa,pa,n,ts,ps,rfl,W,hpa,C,TT,fun wb H' s' T' W'=>?_⟩
   exact⟨_,rfl,k wb H' s' T' W'⟩
theorem zME {cR c1 c2 c3 c4 c5 c6 c7 c8 c9 c10 c11:Addr}(F:Fun K "_law_told" "_law_told" sTol f fd') (FB:Fun K "part_web" "part_web" zGi fB fdB) (bB:zAU K fdB ["web", "thing"] []) (mB:mg "part_web" = some (.ref fB)) (G:zAg P w K mg base (CXO P w) 7 fB fdB ["web", "thing"] (zGb PT cR))
 (Er:ErrG K mg "NoPart" nsP cW cR [c1,c2,c3,c4,c5,c6,c7,c8,c9,c10,c11]) (mIsi:mg "isinstance" = none) (mVal:mg "ValueError" = none) (mInt:mg "int" = none) :
 zAg P w K mg base CX0 8 f fd' ["_law_web_here", "_law_thing"] (zKs PT):=by
 obtain⟨h1,h2,h3,h4,h5,h6,h7,h8,h9,h10,h11⟩:mg "NoLabels" = some (.ref c1)/\mg "NoLeast" = some (.ref c2)/\mg "NoOrder" = some (.ref c3)/\mg "NoPlan" = some (.ref c4)/\mg "NoPosts" = some (.ref c5)/\mg "NoRing" = some (.ref c6)/\mg "NoRow" = some (.ref c7)/\mg "NoText" = some (.ref c8)/\mg "NoTie" = some (.ref c9)/\mg "NoTree" = some (.ref c10)/\mg "TooMany" = some (.ref c11):=by
  have:=Er.ms
  simpa using this
 refine F.ok zEb (fun vs H Q E h=>?_) (fun cdv A outer s H vs Q E hr h=>?_)
 . obtain⟨wa,v,d,n,ts,rfl,_⟩:=h
   rfl
 . obtain⟨wa,v,d,n,ts,rfl,W,S,no,TT,k⟩:=h
   refine⟨_,zS (zAa (i:=2) zEb.nd rfl (Or.inl rfl) zCR)
    (zS (zLA (i:=3) zEb.nd rfl rfl rfl rfl rfl rfl Er.mW Er.qW (zK7 (i:=2) zEb.nd rfl (Or.inl rfl) G hr rfl mB FB.kp bB (zE (pv 0) (zE (pv 1) zM)))
     (fun ea oe c hc=>zS (zAa (i:=2) zEb.nd rfl (Or.inl rfl) (zAT zAi (zBh (zE zEC (zE zEC zM))) (zAc zER mInt (zE (zDG (zj (zGO (zGq hc)) mIsi (zE (pv 3) (zE (zCI (v:=.ref cR) rfl Er.mR rfl) zM))) (zDF (zj (zFW (zGq hc)) mIsi (zE (pv 3) (zE (zBE (T := "ValueError") mVal) zM))))) zM)) (fun _ _=>rfl)))
      (zd (zBn (zBx (zj (zFV (zGq hc)) mIsi (zE (pv 3) (zE (zBQ (zL3 (.cons (zCI (v:=.ref c1) rfl h1 rfl) (.cons (zCI (v:=.ref c2) rfl h2 rfl) (.cons (zCI (v:=.ref c3) rfl h3 rfl) (.cons (zCI (v:=.ref c4) rfl h4 rfl) (.cons (zCI (v:=.ref c5) rfl h5 rfl) (.cons (zCI (v:=.ref c6) rfl h6 rfl)
       (.cons (zCI (v:=.ref c7) rfl h7 rfl) (.cons (zCI (v:=.ref c8) rfl h8 rfl) (.cons (zCI (v:=.ref c9) rfl h9 rfl) (.cons (zCI (v:=.ref c10) rfl h10 rfl) (.cons (zCI (v:=.ref c11) rfl h11 rfl) .nil)))))))))))) ) zM)))) (zd (zAa (i:=2) zEb.nd rfl (Or.inl rfl) zEC)) zAh))))
    (zd (zAJ (pv 2)))),?_⟩
   refine⟨_,rfl,_,rfl,wa,v,d,n,ts,rfl,W,S,no,TT,fun H' s' T'=>?_⟩
   refine⟨cR,rfl,Er.qR,Er.sb,fun ea oe hc hea=>?_⟩
   refine⟨by show 2<=sizeLine;decide,fun l hl=>?_⟩
   have s1:=zH (o:=.lst [.str "other",.str "refused"]) hl
   refine⟨_,rfl,cR,true,Er.ex,rfl,Er.kR,?_⟩
   refine⟨true,rfl,zCt ?_⟩
   refine⟨_,rfl, "ValueError",true,Er.ex,rfl,Er.kV,?_⟩
   refine .inr ⟨true,rfl,l,_,_,.str "refused",rfl,rfl,SqL.of zJ,rfl,?_⟩
   refine⟨_,rfl,(by show 11<=sizeLine;decide),fun p hp=>?_⟩
   refine⟨p,[c1,c2,c3,c4,c5,c6,c7,c8,c9,c10,c11],false,Er.ex,rfl,zJ,Er.k1,?_⟩
   refine⟨_,rfl,zCw ?_⟩
   have s2:=s1.trans (zH (o:=.tup ([c1,c2,c3,c4,c5,c6,c7,c8,c9,c10,c11].map V.ref)) hp)
   exact⟨_,rfl,k _ (s'.trans (SmT.of s2)) (T'.same s2)⟩
noncomputable def Thg (H:Hp)(v:V):Prop:=∃d,zBj H v d/\∀ds,d=PyData.tuple ds->ds.length<=24
theorem Thg.keep (h:Thg H v)(s:zAw H H'):Thg H' v:=by
 obtain⟨d,a,b⟩:=h
 exact⟨d,zCO s a,b⟩
noncomputable def Scl (v:V):Prop:=∃d,∀H,zBj H v d
theorem zFB (i:Int):Scl (.int i):=⟨_,fun _=>.int i⟩
theorem zK5 (b:Bool):Scl (.bl b):=⟨_,fun _=>.bl b⟩
theorem zLp (x:Str):Scl (.str x):=⟨_,fun _=>.str x⟩
theorem zID {H:Hp}:∀{xs:List V},(∀x∈xs,Scl x)->∃ds,zA1 H xs ds/\ds.length=xs.length
 | [],_=>⟨[],.nil,rfl⟩
 | x::xs,h=>by
  obtain⟨d,s⟩:=h x zZ
  obtain⟨ds,ss,hl⟩:=zID (H:=H) fun y hy=>h y (zc _ hy)
  exact⟨d::ds,.cons (s H) ss,by rw[zn,zn,hl]⟩
theorem zCG (h:H p=some (.tup xs))(a:∀x∈xs,Scl x)(l:xs.length<=24):Thg H (.ref p):=by
 obtain⟨ds,s,hl⟩:=zID (H:=H) a
 exact⟨_,.tup h s,fun ds' e=>by cases e;omega⟩
theorem zFg (h:zBj H v d)(no:∀ds,d ≠ .tuple ds):Thg H v:=⟨d,h,fun ds e=>absurd e (no ds)⟩
theorem zCY (ps:List Int):∀x∈ps.map V.int,Scl x:=fun x hx=>by
 obtain⟨i,_,rfl⟩:=zAM.mp hx
 exact zFB i
theorem zD2 (h:∀x∈xs,Scl x)(h':∀x∈ys,Scl x):∀x∈xs++ys,Scl x:=fun x hx=>(zm.mp hx).elim (h x) (h' x)
theorem zDS (h:Scl v):∀x∈[v],Scl x:=fun x hx=>by rw[zf.mp hx];exact h
theorem zFC {lo hi:Option Int}:∀x∈zFR (ps.map V.int) lo hi,Scl x:=fun x hx=>zCY ps x (zMm hx)
structure prH (n:Int)(pa:Addr)(ps:List Int)(σ:St)(H:Hp):Prop where
 s1:σ[1]? = some (some (.int n))
 s2:σ[2]? = some (some (.ref pa))
 hp:H pa=some (.tup (ps.map V.int))
 ln:(ps.map V.int).length<=12
 s3:∃k:Int,σ[3]? = some (some (.int k))
 s4:∃(m:Addr)(ms:List Int),σ[4]? = some (some (.ref m))/\H m=some (.tup (ms.map V.int))/\(ms.map V.int).length<=24
 s5:∃(m:Addr)(ms:List Int),σ[5]? = some (some (.ref m))/\H m=some (.tup (ms.map V.int))/\(ms.map V.int).length<=24
theorem prH.same {pa:Addr}{σ:St}(h:prH n pa ps σ H)(s:zAw H H'):prH n pa ps σ H':=by
 obtain⟨m,ms,a,b,c⟩:=h.s4
 obtain⟨m',ms',a',b',c'⟩:=h.s5
 exact⟨h.s1,h.s2,s _ _ h.hp,h.ln,h.s3,⟨m,ms,a,s _ _ b,c⟩,⟨m',ms',a',s _ _ b',c'⟩⟩
noncomputable def spThs:Sp:=fun vs H Q _=>∃(t pa:Addr)(N:Nat)(n:Int)(ps:List Int),vs=[.ref t,.int n,.ref pa]/\zB1 H t N/\N<800000/\H pa=some (.tup (ps.map V.int))/\Prt n ps/\n<=11 /\
 ∀(D:Addr)(ys:List V)(H':Hp),H' D=some (.lst ys)->ys.length<=20->(∀y∈ys,Thg H' y)->zB1 H' t (N+16)->Sm t H H'->Q (.ref D) H'
theorem zIE:zAO ["_law_feed_here", "_law_many", "_law_part_here", "_law_at", "_law_more", "_law_drawn", "_law_some"] ["_law_feed_here", "_law_many", "_law_part_here"] (defScope sThs):=fS0
theorem ok_ths (F:Fun K "_law_things" "_law_things" sThs f fd') (FD:Fun K "_law_take" "_law_take" zFs fD fdD) (bD:zAU K fdD ["_law_feed_here", "_law_many"] []) (mD:mg "_law_take" = some (.ref fD)) (mLen:mg "len" = none) (mRange:mg "range" = none) (mTuple:mg "tuple" = none) (mSorted:mg "sorted" = none) (mSet:mg "set" = none) (mList:mg "list" = none):zAg P w K mg base CX0 2 f fd' ["_law_feed_here", "_law_many", "_law_part_here"] spThs:=by
 have GD:zAg P w K mg base CX0 1 fD fdD ["_law_feed_here", "_law_many"] zDP:=zDo FD mLen
 refine F.ok zIE (fun vs H Q E h=>?_) (fun cdv A outer s H vs Q E hr h=>?_)
 . obtain⟨t,pa,N,n,ps,rfl,_⟩:=h
   rfl
 . obtain⟨t,pa,N,n,ps,rfl,TT,hN,hpa,PR,h11,k⟩:=h
   obtain⟨p,T⟩:=TT
   have hln:=PR.len
   obtain⟨x0,r0,rfl⟩:∃x r,ps=x::r:=by
    cases ps with
    | nil=>exact absurd rfl PR.ne
    | cons x r=>exact⟨x,r,rfl⟩
   have c20:∀(lo hi:Option Int),(zFR ((x0::r0).map V.int) lo hi).length<=11:=fun lo hi=>by
    have:=zDA ((x0::r0).map V.int) lo hi
    rw[zB] at this
    omega
   have lm:((x0::r0).map V.int).length<=11:=by rw[zB];omega
   refine⟨_,zS (zAa (i:=3) zIE.nd rfl (Or.inl rfl) (zy GD hr rfl mD FD.kp bD .nil zAt (zE (pv 0) (zE (zj zAS mLen (zE (pv 2) zM)) zM))))
    (zS (zAa (i:=4) zIE.nd rfl (Or.inl rfl) (zAc zAI mTuple (zE (zCN rfl rfl mSorted rfl mSet (zE (zA3 zDU (pv 2) (zBQ (zE (zy GD hr rfl mD FD.kp bD .nil zAt (zE (pv 0) (zE (pv 1) zM))) zM))) zM)) zM)))
    (zS (zAa (i:=5) zIE.nd rfl (Or.inl rfl) (zAc zAI mTuple (zE (zBH (own:=["_law_place"]) (cn:=["_law_feed_here"]) (ci:=[0]) rfl (csc rfl rfl) ⟨rfl,rfl,rfl,trivial⟩ rfl
     (zA5 rfl mRange (zE (pv 1) zM)) (fun _ _ _ _=>zAA (i:=0) (zB4 rfl) rfl (Or.inl rfl))
     (fun _ _ _ _=>zCC (zAN zCr (zy GD hr rfl mD FD.kp bD .nil zAt (zE (pv 1) (zCK zM))) zz (zAd _))) (fun _ _ _ _=>pv 0)) zM)))
    (zS (zAa (i:=6) zIE.nd rfl (Or.inl rfl) (zBh (zLB (Pre:=prH n pa (x0::r0)) (R:=Thg) (fun σ H H' a s=>a.same s) (fun H H' v a s=>a.keep s)
     (.cons (zCj (pv 2) (fun σ H Q q=>⟨_,q.1.s2,q.2 _ _ (zAw.refl _) (zCG q.1.hp (zCY _) (by omega))⟩))
     (.cons (zCj (zA3 zDU (zDE zE9 (pv 2) zD9 (zD8 (pv 3))) (zDE zE9 (pv 2) (zD8 (zA3 zCL (pv 3) zz)) zD9)) (fun σ H Q q=>by
      obtain⟨kk,hk⟩:=q.1.s3
      refine⟨_,q.1.s2,_,hk,_,rfl,pa,_,rfl,q.1.hp,fun p1 H1 s1 hp1=>?_⟩
      refine⟨_,q.1.s2,_,hk,_,_,rfl,rfl,_,rfl,pa,_,rfl,s1 _ _ q.1.hp,fun p2 H2 s2 hp2=>?_⟩
      have l1:=c20 none (some kk)
      have l2:=c20 (some (kk+1)) none
      refine⟨p1,p2,_,_,rfl,rfl,s2 _ _ hp1,hp2,zAr (zl (by omega)),fun p3 H3 s3 hp3=>q.2 _ _ (s1.trans (s2.trans s3)) (zCG hp3 (zD2 zFC zFC) ?_)⟩
      rw[zO];omega))
     (.cons (zCj (pv 4) (fun σ H Q q=>by
      obtain⟨m,ms,a,b,c⟩:=q.1.s4
      exact⟨_,a,q.2 _ _ (zAw.refl _) (zCG b (zCY _) c)⟩))
     (.cons (zCj (pv 5) (fun σ H Q q=>by
      obtain⟨m,ms,a,b,c⟩:=q.1.s5
      exact⟨_,a,q.2 _ _ (zAw.refl _) (zCG b (zCY _) c)⟩))
     (.cons (zCj (zAc zDi mList (zE (pv 2) zM)) (fun σ H Q q=>⟨_,q.1.s2,pa,_,rfl,.inr (SqT.of q.1.hp),fun l hl=>q.2 _ _ (zH hl) (zFg (.lst zJ (zJo _)) (fun ds z=>by cases z))⟩))
     (.cons (zCj (pe_rev (ops:=fun a d=>[a,d]) (pv 2) (zCj (zL0 zHs zz) (fun σ H Q q=>⟨1,rfl,q⟩)) (fun _ _=>by with_unfolding_all rfl)) (fun σ H Q q=>⟨_,q.1.s2,pa,_,rfl,SqT.of q.1.hp,fun l hl=>q.2 _ _ (zH hl) (zCG zJ (fun x hx=>zCY _ x (List.mem_reverse.mp hx)) (by rw[List.length_reverse];omega))⟩))
     (.cons (zCj (zA3 zDU (pv 2) (zDE zE9 (pv 2) (zD8 (zL0 zHs zz)) zD9)) (fun σ H Q q=>by
      refine⟨_,q.1.s2,_,q.1.s2,_,rfl,_,rfl,pa,_,rfl,q.1.hp,fun p2 H2 s2 hp2=>?_⟩
      have l2:=c20 (some (-1)) none
      refine⟨pa,p2,_,_,rfl,rfl,s2 _ _ q.1.hp,hp2,zAr (zl (by omega)),fun p3 H3 s3 hp3=>q.2 _ _ (s2.trans s3) (zCG hp3 (zD2 (zCY _) zFC) ?_)⟩
      rw[zO];omega))
     (.cons (zCj (zA3 zDU (pv 2) (zBQ (zE (pv 1) zM))) (fun σ H Q q=>by
      refine⟨_,q.1.s2,_,q.1.s1,by show 1<=sizeLine;decide,fun p2 hp2=>?_⟩
      refine⟨pa,p2,_,_,rfl,rfl,zH hp2 _ _ q.1.hp,zJ,zAr (zl (by simp at lm ⊢;omega)),fun p3 H3 s3 hp3=>q.2 _ _ ((zH hp2).trans s3) (zCG hp3 (zD2 (zCY _) (zDS (zFB _))) ?_)⟩
      rw[zO];simp at lm ⊢;omega)) .nil)))))))))))
    (zd (zAJ (zA3 zIc (pv 6) (zBh (zLB (Pre:=prH n pa (x0::r0)) (R:=Thg) (fun σ H H' a s=>a.same s) (fun H H' v a s=>a.keep s)
     (.cons (zCj (zA3 zDU (zBQ (zE (zL0 zHs zz) zM)) (pv 2)) (fun σ H Q q=>by
      refine⟨_,rfl,by show 1<=sizeLine;decide,fun p2 hp2=>⟨_,q.1.s2,?_⟩⟩
      refine⟨p2,pa,_,_,rfl,rfl,zJ,zH hp2 _ _ q.1.hp,zAr (zl (by simp at lm ⊢;omega)),fun p3 H3 s3 hp3=>q.2 _ _ ((zH hp2).trans s3) (zCG hp3 (zD2 (zDS (zFB _)) (zCY _)) ?_)⟩
      rw[zO];simp at lm ⊢;omega))
     (.cons (zCj (zBQ (zE zCc zM)) (fun σ H Q q=>⟨by show 1<=sizeLine;decide,fun p2 hp2=>q.2 _ _ (zH hp2) (zCG zJ (zDS (zK5 _)) (by show 1<=24;decide))⟩))
     (.cons (zCj (zA3 zDU (zBQ (zE zCc zM)) (zDE zE9 (pv 2) (zD8 zz) zD9)) (fun σ H Q q=>by
      refine⟨by show 1<=sizeLine;decide,fun p2 hp2=>⟨_,q.1.s2,_,rfl,pa,_,rfl,zH hp2 _ _ q.1.hp,fun p1 H1 s1 hp1=>?_⟩⟩
      have l1:=c20 (some 1) none
      refine⟨p2,p1,_,_,rfl,rfl,s1 _ _ zJ,hp1,zAr (zl (by show 1+_<=_;omega)),fun p3 H3 s3 hp3=>q.2 _ _ ((zH hp2).trans (s1.trans s3)) (zCG hp3 (zD2 (zDS (zK5 _)) zFC) ?_)⟩
      rw[zO];show 1+_<=24;omega))
     (.cons (zCj (zBQ (zE zEC zM)) (fun σ H Q q=>⟨by show 1<=sizeLine;decide,fun p2 hp2=>q.2 _ _ (zH hp2) (zCG zJ (zDS (zLp _)) (by show 1<=24;decide))⟩))
     (.cons (zCj zCR (fun σ H Q q=>q.2 _ _ (zAw.refl _) (zFg .non (fun ds z=>by cases z))))
     (.cons (zCj zz (fun σ H Q q=>q.2 _ _ (zAw.refl _) (zFg (.int _) (fun ds z=>by cases z))))
     (.cons (zCj zEC (fun σ H Q q=>q.2 _ _ (zAw.refl _) (zFg (.str _) (fun ds z=>by cases z))))
     (.cons (zCj (zBh zM) (fun σ H Q q=>⟨zg _,fun l hl=>q.2 _ _ (zH hl) (zFg (.lst zJ .nil) (fun ds z=>by cases z))⟩))
     (.cons (zCj (zBQ (zE (pv 2) zM)) (fun σ H Q q=>⟨_,q.1.s2,by show 1<=sizeLine;decide,fun p2 hp2=>q.2 _ _ (zH hp2) ⟨_,.tup zJ (.cons (.tup (zH hp2 _ _ q.1.hp) (zJo _)) .nil),fun ds e=>by cases e;show 1<=24;decide⟩⟩))
     (.cons (zCj (zBQ (zE (zA3 zCL (zAT zAy (pv 2) zz (fun _ _=>rfl)) (zA3 zFx zz zz)) zM)) (fun σ H Q q=>⟨_,q.1.s2,pa,_,_,.int x0,rfl,rfl,SqT.of q.1.hp,zAv (Int.le_refl 0) rfl,10,30,rfl,rfl,⟨by decide,by decide,by decide⟩,_,_,rfl,rfl,by show 1<=sizeLine;decide,fun p2 hp2=>q.2 _ _ (zH hp2) (zCG zJ (zDS (zFB _)) (by show 1<=24;decide))⟩)) .nil)))))))))))))))))),?_⟩
   have npt:pa≠t:=by
    obtain⟨ns,spot,rest,a,_⟩:=T
    exact zBu hpa a (by intro z;cases z)
   have x0r:=PR.rng x0 zZ
   refine⟨_,rfl,_,rfl,pa,_,rfl,.inr (SqT.of hpa),t,p,_,_,rfl,T,by omega,by rw[zB];omega,by omega,fun kk H1 k0 k1 T1 he1=>?_⟩
   have s1:Sm t H H1:=zDQ he1
   have hpa1:=s1 _ _ npt hpa
   refine⟨_,rfl,_,rfl,_,rfl,t,p,_,n,rfl,T1,by omega,by omega,by omega,fun r H2 g0 g1 T2 he2=>?_⟩
   have s2:Sm t H1 H2:=zDQ he2
   refine⟨by show 1<=sizeLine;decide,fun q hq=>?_⟩
   have sq:=zH (o:=.tup [.int r]) hq
   refine⟨pa,q,_,_,rfl,rfl,sq _ _ (s2 _ _ npt hpa1),zJ,zAr (zl (by simp at lm ⊢;omega)),fun c H3 s3 hc=>?_⟩
   have T3:zBt H3 t p (N+1+1):=by
    obtain⟨ns,spot,rest,a,b,d⟩:=id (T2.laid (o:=.tup [.int r]) hq)
    exact⟨ns,spot,rest,s3 _ _ a,s3 _ _ b,d⟩
   have sH3:Sm t H H3:=s1.trans (s2.trans ((Sm.of sq).trans (Sm.of s3)))
   refine⟨c,(x0::r0)++[r],rfl,.inr (SqT.of (by rw[hc,zR];rfl)),by rw[zO];simp at lm ⊢;omega,fun z hz=>?_,fun l ms hl hms hmm=>?_⟩
   . rcases zm.mp hz with y | y
     . have:=PR.rng z y;omega
     . rw[zf.mp y];omega
   have mr:∀z∈ms,0<=z/\z<n:=fun z hz=>by
    rcases zm.mp ((hmm z).mp hz) with y | y
    . exact PR.rng z y
    . rw[zf.mp y];exact⟨g0,g1⟩
   have hml:=nd_len (n:=n.toNat) (l:=ms) (hms.imp fun z=>by omega) fun z hz=>by have:=mr z hz;omega
   have sl:=zH (o:=.lst (ms.map V.int)) hl
   refine⟨l,_,rfl,.inl ⟨SqL.of zJ,fun ma hma=>?_⟩⟩
   have sm:=zH (o:=.tup (ms.map V.int)) hma
   have hma4:(upd (upd H3 l (.lst (ms.map V.int))) ma (.tup (ms.map V.int))) ma=some (.tup (ms.map V.int)):=zJ
   have T4:zBt (upd (upd H3 l (.lst (ms.map V.int))) ma (.tup (ms.map V.int))) t p (N+1+1):=(T3.laid hl).laid hma
   have sH4:Sm t H (upd (upd H3 l (.lst (ms.map V.int))) ma (.tup (ms.map V.int))):=sH3.trans ((Sm.of sl).trans (Sm.of sm))
   generalize upd (upd H3 l (.lst (ms.map V.int))) ma (.tup (ms.map V.int))=H4 at hma4 T4 sH4 ⊢
   refine⟨_,rfl,n,rfl,by omega,by omega,[.ref t],rfl,fun D hD=>?_⟩
   have nDt:=(T4.ne hD).1
   have nDp:=(T4.ne hD).2
   refine zBV (lo:=0) (n:=n.toNat) (fun j ys H6=>j<=n.toNat/\(∃as:List Int,ys=as.map V.int/\as.length<=j)/\zBt H6 t p (N+2+j)/\Sm t H4 H6/\H6 D=some (.lst ys))
    ⟨zg _,⟨[],rfl,zI _⟩,T4.laid hD,Sm.laid hD,zJ⟩ (fun j ys H6 z=>?_) (fun j ys H6 hj z=>?_) (fun ys H6 z=>?_)
   . obtain⟨_,⟨as,rfl,hk⟩,_⟩:=z
     rw[zB]
     exact zl (by omega)
   . obtain⟨_,⟨as,rfl,hk⟩,T6,s6,hD6⟩:=z
     rw[zAn]
     refine⟨⟨rfl,rfl⟩,?_⟩
     refine⟨_,rfl,t,p,_,2,rfl,T6,by omega,by decide,by decide,fun r7 H7 _ _ T7 he7=>?_⟩
     have s7:Sm t H6 H7:=zDQ he7
     have hD7:=s7 _ _ nDt hD6
     refine⟨rfl,_,rfl,?_⟩
     refine zCz (fun _=>?_) (fun _=>?_)
     . refine⟨_,rfl,hD7,by omega,⟨as++[(j:Int)],by rw[zR];rfl,by rw[zO];simp;omega⟩,T7.upd nDt nDp,(s6.trans s7).chg hD,zJ⟩
     . exact⟨by omega,⟨as,rfl,by omega⟩,T7,s6.trans s7,hD7⟩
   obtain⟨_,⟨as,rfl,hk⟩,T6,s6,hD6⟩:=z
   refine⟨D,_,rfl,.inl ⟨SqL.of hD6,fun da hda=>?_⟩⟩
   have sd:=zH (o:=.tup (as.map V.int)) hda
   have T7:=T6.laid (o:=.tup (as.map V.int)) hda
   have s7:=s6.trans (Sm.of sd)
   have hda7:(upd H6 da (.tup (as.map V.int))) da=some (.tup (as.map V.int)):=zJ
   generalize upd H6 da (.tup (as.map V.int))=H7 at T7 s7 hda7 ⊢
   have tk:∀b ys,H4 b=some (.tup ys)->H7 b=some (.tup ys):=fun b ys e=>s7 _ _ (by
    obtain⟨ns,spot,rest,a,_⟩:=T4
    exact zBu e a (by intro z;cases z)) e
   have pr:∀{v6:Option V}{H8:Hp},zAw H7 H8->prH n pa (x0::r0) [some (.ref t),some (.int n),some (.ref pa),some (.int kk),some (.ref ma),some (.ref da),v6] H8:=fun s8=>
    ⟨rfl,rfl,s8 _ _ (tk _ _ (sH4 _ _ npt hpa)),by omega,⟨kk,rfl⟩,⟨ma,ms,rfl,s8 _ _ (tk _ _ hma4),by rw[zB];omega⟩,⟨da,as,rfl,s8 _ _ hda7,by rw[zB];omega⟩⟩
   refine⟨pr (zAw.refl _),fun us H8 s8 hl8 al8=>⟨zAr (zl (by rw[hl8];decide)),fun D8 hD8=>?_⟩⟩
   have hl8':us.length=8:=hl8
   have s9:=s8.trans (zH (o:=.lst us) hD8)
   have h9:(upd H8 D8 (.lst us)) D8=some (.lst us):=zJ
   have al9:∀v∈us,Thg (upd H8 D8 (.lst us)) v:=fun v hv=>(al8 v hv).keep (zH hD8)
   generalize upd H8 D8 (.lst us)=H9 at s9 h9 al9 ⊢
   refine⟨_,rfl,pr s9,fun ws H10 s10 hl10 al10=>⟨zAr (zl (by rw[hl10];decide)),fun D10 hD10=>?_⟩⟩
   have hl10':ws.length=10:=hl10
   have s11:=zH (o:=.lst ws) hD10
   refine⟨D8,D10,_,_,rfl,rfl,s11 _ _ (s10 _ _ h9),zJ,zAr (zl (by omega)),fun DD hDD=>?_⟩
   have s12:=zH (o:=.lst (us++ws)) hDD
   have sA:=s9.trans (s10.trans (s11.trans s12))
   refine k DD _ _ zJ (by rw[zO];omega) (fun y hy=>?_) ?_ (sH4.trans (s7.trans (Sm.of sA)))
   . rcases zm.mp hy with z | z
     . exact (((al9 y z).keep s10).keep s11).keep s12
     . exact ((al10 y z).keep s11).keep s12
   . obtain⟨ns,spot,rest,a,b,c,d,e,f⟩:=T7
     exact⟨p,ns,spot,rest,sA _ _ a,sA _ _ b,c,d,by omega,f⟩
noncomputable def zG6:Sp:=fun vs H Q _=>∃(fl pl:Addr)(rs:List Addr)(M:lLO)(n:Int)(ts:List T3)(ps:List Int),vs=[.ref fl,.ref pl]/\H fl=some (.lst (rs.map V.ref))/\zA9 H rs M/\Rows ts n M/\GW n ts/\n<=11/\H pl=some (.tup (ps.map V.int))/\Prt n ps /\
 ∀(l:Addr)(ms:List Int)(H':Hp),zAw H H'->H l=none->H' l=some (.lst (ms.map V.int))->ms.Pairwise (· < ·)->(∀z,z∈ms↔z∉ps/\∃x∈ps,∃y∈ps,Btw ts x y z)->Q (.ref l) H'
theorem zIg (F:Fun K "_law_lacks" "_law_lacks" zD4 f fd') (mRange:mg "range" = none) (mLen:mg "len" = none) (mSorted:mg "sorted" = none) (mSet:mg "set" = none):zAg P w K mg base CX0 1 f fd' ["_law_rows_here", "_law_places"] zG6:=by
 refine F.ok zCH (fun vs H Q E h=>?_) (fun cdv A outer s H vs Q E hr h=>?_)
 . obtain⟨fl,pl,rs,M,n,ts,ps,rfl,_⟩:=h
   rfl
 . obtain⟨fl,pl,rs,M,n,ts,ps,rfl,hfl,LR,RR,G,h11,hpl,PR,k⟩:=h
   have hn1:=G.n1
   have hln:=PR.len
   refine⟨_,zS (zAa (i:=2) zCH.nd rfl (Or.inl rfl) (zBh zM))
    (zS (zB3 PassesOwn.never rfl (zA5 rfl mRange (zE (zj zAS mLen (zE (pv 0) zM)) zM)) (zAA (i:=3) zCH.nd rfl (Or.inl rfl))
     (zd (zB3 PassesOwn.never rfl (zB9 (pv 1)) (zAA (i:=4) zCH.nd rfl (Or.inl rfl))
      (zd (zB3 PassesOwn.never rfl (zB9 (pv 1)) (zAA (i:=5) zCH.nd rfl (Or.inl rfl))
       (zS (zAa (i:=6) zCH.nd rfl (Or.inl rfl) (zAT zAi (zAT zAi (pv 0) (pv 4) (fun _ _=>rfl)) (pv 5) (fun _ _=>rfl)))
       (zd (zBn (PW.pt (zD5 (zAN zIZ (pv 6) (zA3 zFx zz zz) (zAd _)) (zC7 (zAN zCr (zA3 zCL (zAT zAi (zAT zAi (pv 0) (pv 4) (fun _ _=>rfl)) (pv 3) (fun _ _=>rfl)) (zAT zAi (zAT zAi (pv 0) (pv 3) (fun _ _=>rfl)) (pv 5) (fun _ _=>rfl))) (pv 6) (zAd _)))))
        (zd (zCZ (zED PySem.F.plainAttrs_list PySem.F.slot_list_append PySem.F.type_list_append zBr (pv 2) (zE (pv 3) zM)))) zAh))))))))
    (zd (zAJ (zBH (own:=["_law_place"]) (cn:=["_law_places"]) (ci:=[1]) rfl (csc rfl rfl) ⟨rfl,rfl,rfl,trivial⟩ rfl (zCa (zCN rfl rfl mSorted rfl mSet (zE (pv 2) zM))) (fun _ _ _ _=>zAA (i:=0) (zB4 rfl) rfl (Or.inl rfl))
     (fun _ _ _ _=>zCC (zAN zFy (pv 0) (pv 1) (by with_unfolding_all rfl))) (fun _ _ _ _=>pv 0))))),?_⟩
   refine⟨zg _,fun fo hfo=>?_⟩
   have hrl:rs.length=n.toNat:=by rw[LR.1,RR.1]
   have sF:=zH (o:=.lst []) hfo
   refine⟨_,rfl,fl,_,rfl,.inl (SqL.of (sF _ _ hfl)),?_⟩
   rw[zB,hrl]
   refine⟨((n.toNat:Nat):Int),rfl,by omega,by omega,zCU (lo:=0) (n:=n.toNat) (fun q σ H2=>∃(v3 v4 v5 v6:Option V)(fs:List Int),σ=[some (.ref fl),some (.ref pl),some (.ref fo),v3,v4,v5,v6]/\LkI ts n ps fs q 0 0/\zAw H H2/\H2 fo=some (.lst (fs.map V.int)))
    ⟨_,_,_,_,[],rfl,LkI.zero ts n ps,sF,zJ⟩ ?turn1 ?after1⟩
   case turn1=>
    rintro q σ H2 hq ⟨v3,v4,v5,v6,fs,rfl,L2,s2,hfo2⟩
    rw[zAn]
    have hqn:(q:Int)<n:=by omega
    refine⟨_,rfl,pl,rfl,⟨_,SqT.of (s2 _ _ hpl)⟩,zCk (K:=K) (a:=pl) (xs:=ps.map V.int) (fun i σ H3=>∃(v4 v5 v6:Option V)(fs:List Int),σ=[some (.ref fl),some (.ref pl),some (.ref fo),some (.int q),v4,v5,v6]/\LkI ts n ps fs q i 0/\zAw H H3/\H3 fo=some (.lst (fs.map V.int)))
     ⟨_,_,_,fs,rfl,L2,s2,hfo2⟩ (fun i σ H3 _ ⟨_,_,_,_,_,_,s3,_⟩=>SqT.of (s3 _ _ hpl)) ?turn2 ?after2⟩
    case after2=>
     rintro σ H3 ⟨v4,v5,v6,fs3,rfl,L3,s3,hfo3⟩
     rw[zB] at L3
     exact⟨_,_,_,_,fs3,rfl,L3.place (by omega),s3,hfo3⟩
    case turn2=>
     rintro i xv σ H3 hi ⟨v4,v5,v6,fs3,rfl,L3,s3,hfo3⟩
     obtain⟨x,hx,rfl⟩:=int_at hi
     have xm:=zU hx
     have xr:=PR.rng x xm
     have hil:=(zK.mp hx).1
     refine⟨_,rfl,pl,rfl,⟨_,SqT.of (s3 _ _ hpl)⟩,zCk (K:=K) (a:=pl) (xs:=ps.map V.int) (fun j σ H4=>j<=ps.length/\∃(v5 v6:Option V)(fs:List Int),σ=[some (.ref fl),some (.ref pl),some (.ref fo),some (.int q),some (.int x),v5,v6]/\LkI ts n ps fs q i j/\zAw H H4/\H4 fo=some (.lst (fs.map V.int)))
      ⟨zg _,_,_,fs3,rfl,L3,s3,hfo3⟩ (fun i σ H4 _ ⟨_,_,_,_,_,_,s4,_⟩=>SqT.of (s4 _ _ hpl)) ?turn3 ?after3⟩
     case after3=>
      rintro σ H4 ⟨_,v5,v6,fs4,rfl,L4,s4,hfo4⟩
      rw[zB] at L4
      exact⟨_,_,_,fs4,rfl,L4.row hx (by omega),s4,hfo4⟩
     case turn3=>
      rintro j yv σ H4 hj ⟨_,v5,v6,fs4,rfl,L4,s4,hfo4⟩
      obtain⟨y,hy,rfl⟩:=int_at hj
      have ym:=zU hy
      have yr:=PR.rng y ym
      have hjl:=(zK.mp hy).1
      have LR4:=LR.same s4
      have hfl4:=s4 _ _ hfl
      obtain⟨ra,row,o,hra,hrow,hat,hlen⟩:=zDT LR4 RR xr.1 xr.2 yr.1 yr.2
      obtain⟨ra',row',o1,hra',hrow',hat',hlen1⟩:=zDT (y:=(q:Int)) LR4 RR xr.1 xr.2 (by omega) hqn
      obtain⟨rb,rowb,o2,hrb,hrowb,hatb,hlen2⟩:=zDT (x:=(q:Int)) LR4 RR (by omega) hqn yr.1 yr.2
      have be:=zJQ G xr.1 xr.2 (show (0:Int)<=q by omega) hqn hlen hlen1 hlen2
      refine⟨_,rfl,_,rfl,fl,_,_,.ref ra,rfl,rfl,SqL.of hfl4,zAv xr.1 (by rw[zP,hra];rfl),_,rfl,ra,_,_,_,rfl,rfl,SqL.of hrow,hat,?_⟩
      refine⟨_,rfl,_,_,rfl,rfl,⟨by decide,by decide,by decide⟩,_,_,rfl,rfl,_,rfl,?_⟩
      show if decide (enc o<(10:Int) ^ (6:Int).toNat)=true then _ else _
      rw[show (10:Int) ^ (6:Int).toNat=1000000 from rfl]
      have no:¬ (enc o<1000000/\enc o1+enc o2=enc o)->(j+1<=ps.length/\∃(v5 v6:Option V)(fs:List Int),[some (.ref fl),some (.ref pl),some (.ref fo),some (.int q),some (.int x),some (.int y),some (.int (enc o))]=[some (V.ref fl),some (.ref pl),some (.ref fo),some (.int q),some (.int x),v5,v6]/\LkI ts n ps fs q i (j+1)/\zAw H H4/\H4 fo=some (.lst (fs.map V.int))):=fun c=>
       ⟨hjl,_,_,fs4,rfl,L4.skip hx hy (fun z=>c (be.mpr z)),s4,hfo4⟩
      refine zCz (fun c1=>?_) (fun c1=>?_)
      . have c1':=of_decide_eq_true c1
        refine⟨_,rfl,_,rfl,fl,_,_,.ref ra',rfl,rfl,SqL.of hfl4,zAv xr.1 (by rw[zP,hra'];rfl),_,rfl,ra',_,_,_,rfl,rfl,SqL.of hrow',hat',?_⟩
        refine⟨_,rfl,_,rfl,fl,_,_,.ref rb,rfl,rfl,SqL.of hfl4,zAv (by omega) (by rw[zP,hrb];rfl),_,rfl,rb,_,_,_,rfl,rfl,SqL.of hrowb,hatb,?_⟩
        refine⟨_,_,rfl,rfl,_,rfl,rfl,_,rfl,?_⟩
        show if decide (V.int (enc o1+enc o2)=V.int (enc o))=true then _ else _
        rw[zKe]
        refine zCz (fun c2=>?_) (fun c2=>?_)
        . have hb:=be.mp ⟨c1',of_decide_eq_true c2⟩
          refine⟨_,rfl,.inl ⟨rfl,_,SqL.of hfo4⟩,_,rfl,fo,_,_,rfl,rfl,hfo4,?_,hjl,_,_,fs4++[(q:Int)],rfl,L4.put hx hy hqn hb,zAu s4 hfo,?_⟩
          . have:=L4.len
            rw[zB]
            exact zAo (zAP this (show _<=4000 by omega)) (by decide)
          . rw[zR];exact zJ
        . exact no fun z=>c2 (zW z.2)
      . exact no fun z=>c1 (zW z.1)
   case after1=>
    rintro σ H2 ⟨v3,v4,v5,v6,fs,rfl,L2,s2,hfo2⟩
    refine⟨_,rfl,fo,fs,rfl,.inl (SqL.of hfo2),by have:=L2.len;omega,fun z hz=>by have:=L2.rng z hz;omega,fun l ms hl hms hmm=>?_⟩
    have sL:=zH (o:=.lst (ms.map V.int)) hl
    have hl3:(upd H2 l (.lst (ms.map V.int))) l=some (.lst (ms.map V.int)):=zJ
    generalize upd H2 l (.lst (ms.map V.int))=H3 at sL hl3 ⊢
    have hml:ms.length<=60:=zDp (hms.imp fun h e=>by omega) fun z hz=>by have:=L2.rng z ((hmm z).mp hz);omega
    refine⟨l,rfl,⟨_,SqL.of hl3⟩,[.ref pl],rfl,fun D hD=>?_⟩
    have hpl3:=sL _ _ (s2 _ _ hpl)
    refine zCe (a:=l) (xs:=ms.map V.int) (fun i ys H4=>ys=((ms.take i).filter fun z=>!decide (z∈ps)).map V.int/\H4=upd H3 D (.lst ys)) ⟨rfl,rfl⟩ (fun i ys H4 z=>?_) (fun i ys H4 z=>?_) (fun i v ys H4 hv z=>?_) (fun ys H4 z=>?_)
    . obtain⟨_,rfl⟩:=z
      exact SqL.of (zH hD _ _ hl3)
    . obtain⟨rfl,_⟩:=z
      have h2:=zo (fun z:Int=>!decide (z∈ps)) (ms.take i)
      rw[zw] at h2
      rw[zB]
      exact zl (by omega)
    . obtain⟨rfl,rfl⟩:=z
      obtain⟨p,hp,rfl⟩:=int_at hv
      have st:=zCd (fun z:Int=>!decide (z∈ps)) hp
      refine⟨⟨rfl,rfl⟩,?_⟩
      refine⟨_,rfl,_,rfl,pl,_,rfl,.inr (SqT.of (zH hD _ _ hpl3)),rfl,zBJ _,_,rfl,?_⟩
      show if (!inV (.int p) (ps.map V.int))=true then _ else _
      rw[zBl]
      refine zCz (fun c=>?_) (fun c=>?_)
      . refine⟨_,rfl,zJ,?_,zB8⟩
        rw[st,if_pos c,zR];rfl
      . refine⟨?_,rfl⟩
        rw[st,if_neg c,zt]
    . obtain⟨rfl,rfl⟩:=z
      rw[zB,zY (zI _)]
      refine k D _ _ (s2.trans (sL.trans (zH hD))) (zBI (s2.trans sL) hD) zJ (hms.filter _) fun z=>?_
      rw[zAs,hmm z]
      constructor
      . rintro ⟨a,b⟩
        exact⟨by simpa using b,L2.snd z a⟩
      . rintro ⟨a,x,hx,y,hy,hb⟩
        obtain⟨aa,bb,ia,_⟩:=id hb
        have xr:=PR.rng x hx
        have zr:=ia.1.in_ G xr.1 xr.2
        exact⟨L2.cpl z x y hx hy hb zr.1 (.inl (by omega)),by simpa using a⟩
theorem zFu:∀{a b:List Int},a.Pairwise (· < ·)->b.Pairwise (· < ·)->(∀z,z∈a↔z∈b)->a=b
 | [],[],_,_,_=>rfl
 | [],y::b,_,_,h=>by have:=(h y).mpr zZ;cases this
 | x::a,[],_,_,h=>by have:=(h x).mp zZ;cases this
 | x::a,y::b,pa,pb,h=>by
  have pa':=zBp.mp pa
  have pb':=zBp.mp pb
  have e:x=y:=by
   rcases zV.mp ((h x).mp zZ) with e | e
   . exact e
   . rcases zV.mp ((h y).mpr zZ) with e' | e'
     . exact e'.symm
     . have:=pb'.1 x e
       have:=pa'.1 y e'
       omega
  subst e
  rw[zFu pa'.2 pb'.2 fun z=>?_]
  constructor
  . intro hz
    rcases zV.mp ((h z).mp (zc _ hz)) with e | e
    . have:=pa'.1 z hz;omega
    . exact e
  . intro hz
    rcases zV.mp ((h z).mpr (zc _ hz)) with e | e
    . have:=pb'.1 z hz;omega
    . exact e
theorem zI1 {R:Int->Prop}:∀{ds:List PyData},(∀d∈ds,∃x,d = .int x/\R x)->∃ps:List Int,ds=ps.map PyData.int/\∀p∈ps,R p
 | [],_=>⟨[],rfl,fun p h=>by cases h⟩
 | d::ds,h=>by
  obtain⟨x,rfl,hx⟩:=h d zZ
  obtain⟨ps,rfl,hp⟩:=zI1 fun e he=>h e (zc _ he)
  refine⟨x::ps,rfl,fun p hp'=>?_⟩
  rcases zV.mp hp' with rfl | z
  . exact hx
  . exact hp p z
noncomputable def spLip:Sp:=fun vs H Q _=>∃(fl:Addr)(v:V)(d:PyData)(rs:List Addr)(M:lLO)(n:Int)(ts:List T3),vs=[.ref fl,v]/\H fl=some (.lst (rs.map V.ref))/\zA9 H rs M/\Rows ts n M/\GW n ts/\n<=11/\zBj H v d/\(∀ds,d = .tuple ds->ds.length<=24)/\∀(b:Bool) H',(b=true↔zJZ ts n d)->zAw H H'->Q (.bl b) H'
theorem scLip:zAO ["_law_rows_here", "_law_thing", "_law_place"] ["_law_rows_here", "_law_thing"] (defScope sLip):=fS0
theorem ok_lip (F:Fun K "_law_is_part" "_law_is_part" sLip f fd') (FL:Fun K "_law_lacks" "_law_lacks" zD4 fL fdL) (bL:zAU K fdL ["_law_rows_here", "_law_places"] []) (mL:mg "_law_lacks" = some (.ref fL)) (mIsi:mg "isinstance" = none) (mTuple:mg "tuple" = none) (mInt:mg "int" = none) (mBool:mg "bool" = none) (mLen:mg "len" = none) (mRange:mg "range" = none) (mSorted:mg "sorted" = none) (mSet:mg "set" = none) (mList:mg "list" = none) :
 zAg P w K mg base CX0 2 f fd' ["_law_rows_here", "_law_thing"] spLip:=by
 have GL:zAg P w K mg base CX0 1 fL fdL ["_law_rows_here", "_law_places"] zG6:=zIg FL mRange mLen mSorted mSet
 refine F.ok scLip (fun vs H Q E h=>?_) (fun cdv A outer s H vs Q E hr h=>?_)
 . obtain⟨fl,v,d,rs,M,n,ts,rfl,_⟩:=h
   rfl
 . obtain⟨fl,v,d,rs,M,n,ts,rfl,hfl,LR,RR,G,h11,S,sm,k⟩:=h
   have hu0:=hr.units0
   have hn1:=G.n1
   have hrl:rs.length=n.toNat:=by rw[LR.1,RR.1]
   refine⟨_,zS (zBn (PW.pt (zEc (zCB (zBx (zj zAK mIsi (zE (pv 1) (zE (zBE (T := "tuple") mTuple) zM)))))
    (zDb (zAN (zL6 hu0) (pv 1) (zBQ zM) (zAd _))))) (zd (zAJ zCc)) zAh)
    (zS (zB3 PassesOwn.never rfl (zB9 (pv 1)) (zAA (i:=2) scLip.nd rfl (Or.inl rfl))
     (zd (zBn (PW.pt (zEc (zCB (zBx (zj zAK mIsi (zE (pv 2) (zE (zBE (T := "int") mInt) zM)))))
      (zEc (zBx (zj zAK mIsi (zE (pv 2) (zE (zBE (T := "bool") mBool) zM))))
      (zDb (zCB (zJ3 zKE zIZ zz (pv 2) (zj zAS mLen (zE (pv 0) zM)))))))) (zd (zAJ zCc)) zAh)))
    (zd (zAJ (zDG (zBq (op_eqL hu0) (zAc zDi mList (zE (pv 1) zM)) (zCN rfl rfl mSorted rfl mSet (zE (pv 1) zM)) (zAd _))
     (zDF (zBq (zIb hu0) (zy GL hr rfl mL FL.kp bL .nil zAt (zE (pv 0) (zE (pv 1) zM))) (zBh zM) (zAd _))))))),?_⟩
   obtain⟨t,bi,bb,bt,ty,_,_,e3,_,e5,_,ht⟩:=zEy (K:=K) S
   refine⟨_,rfl,_,_,t,bt,rfl,ty,e3,bt,rfl,?_⟩
   subst e5
   cases hd:tupD d with
   | false=>
    refine zCt (zCt ?_)
    refine k false H ⟨(fun z=>by cases z),?_⟩ (zAw.refl _)
    rintro ⟨ps,rfl,_⟩
    cases hd
   | true=>
    obtain⟨a,xs,ds,rfl,ha,rfl,al⟩:=ht hd
    have hxl:=zDB al
    have hdl:=sm ds rfl
    refine zCw ?_
    refine⟨_,rfl,zg _,fun e0 he0=>?_⟩
    have s0:=zH (o:=.tup []) he0
    refine⟨a,e0,_,rfl,rfl,SqT.of (s0 _ _ ha),SqT.of zJ,_,rfl,?_⟩
    generalize upd H e0 (.tup [])=H0 at s0 ⊢
    cases hxe:xs.isEmpty with
    | true=>
     refine zCt (k false H0 ⟨(fun z=>by cases z),?_⟩ s0)
     rintro ⟨ps,e,C⟩
     have e':=PyData.tuple.inj e
     subst e'
     rw[zB] at hxl
     have:xs=[]:=List.isEmpty_iff.mp hxe
     subst this
     exact (C.pr.ne (zBW.mp hxl.symm)).elim
    | false=>
     refine zCw ?_
     refine⟨_,rfl,a,rfl,⟨_,SqT.of (s0 _ _ ha)⟩,zCk (K:=K) (a:=a) (xs:=xs) (fun i σ H2=>∃v2:Option V,σ=[some (.ref fl),some (.ref a),v2]/\zAw H H2/\∀e∈ds.take i,∃x,e=PyData.int x/\0<=x/\x<n)
      ⟨none,rfl,s0,by simp⟩ (fun i σ H2 _ ⟨_,_,s2,_⟩=>SqT.of (s2 _ _ ha)) ?turn ?after⟩
     case turn=>
      rintro i x σ H2 hx ⟨v2,rfl,s2,al2⟩
      have hi:i<ds.length:=by have:=(zK.mp hx).1;omega
      obtain⟨dd,hdd⟩:∃dd,ds[i]? = some dd:=⟨_,zD hi⟩
      obtain⟨x',hx',Sx⟩:=zD1 al hdd
      rw[hx] at hx'
      cases hx'
      have Sx2:=zCO s2 Sx
      obtain⟨t',bi',bb',bt',ty',f1,f2,_,f4,_,fi,_⟩:=zEy (K:=K) Sx2
      have no:¬ (∃y,dd=PyData.int y/\0<=y/\y<n)->∀H',zAw H H'->Q (.bl false) H':=fun nn H' s'=>by
       refine k false H' ⟨(fun z=>by cases z),?_⟩ s'
       rintro ⟨ps,e,C⟩
       have e':=PyData.tuple.inj e
       have hm:dd∈ds:=zU hdd
       rw[e'] at hm
       obtain⟨y,hy,ey⟩:=zAM.mp hm
       exact (nn ⟨y,ey.symm,C.pr.rng y hy⟩).elim
      refine⟨_,rfl,_,_,t',bi',rfl,ty',f1,bi',rfl,?_⟩
      cases bi' with
      | false=>
       refine zCt (zCt (no ?_ _ s2))
       rintro ⟨y,ey,_⟩
       rw[ey] at f4
       cases f4
      | true=>
       refine zCw ?_
       refine⟨_,rfl,_,_,t',bb',rfl,ty',f2,bb',rfl,?_⟩
       cases bb' with
       | true=>
        refine zCt (zCt (no ?_ _ s2))
        rintro ⟨y,ey,_⟩
        rw[ey] at f4
        cases f4
       | false=>
        refine zCw ?_
        obtain⟨y,rfl,ey⟩:=fi f4.symm
        refine⟨_,rfl,_,_,rfl,rfl,_,rfl,?_⟩
        refine zCz (fun c1=>?_) (fun c1=>?_)
        . have c1':0<=y:=of_decide_eq_true c1
          refine⟨_,rfl,fl,_,rfl,.inl (SqL.of (s2 _ _ hfl)),_,_,rfl,rfl,_,rfl,?_⟩
          rw[zB,hrl]
          have en:((n.toNat:Nat):Int)=n:=zBg (Int.le_trans (by decide) hn1)
          rw[en]
          cases c2:decide (y<n) with
          | true=>
           refine zCw ⟨_,rfl,s2,fun e he=>?_⟩
           rw[zAH,hdd] at he
           rcases zm.mp he with z | z
           . exact al2 e z
           . have:e=dd:=by simpa using z
             rw[this];exact⟨y,ey,c1',of_decide_eq_true c2⟩
          | false=>
           refine zCt (no ?_ _ s2)
           rintro ⟨y',ey',_,h2⟩
           rw[ey] at ey'
           cases ey'
           exact of_decide_eq_false c2 h2
        . refine⟨_,rfl,zCt (no ?_ _ s2)⟩
          rintro ⟨y',ey',h2,_⟩
          rw[ey] at ey'
          cases ey'
          exact c1 (zW h2)
     case after=>
      rintro σ H2 ⟨v2,rfl,s2,al2⟩
      rw[hxl,zY (zI _)] at al2
      obtain⟨ps,rfl,hp⟩:=zI1 al2
      have hxs:=zEn al
      subst hxs
      rw[zB] at hdl
      have hne:ps≠[]:=fun z=>by subst z;cases hxe
      have ha2:=s2 _ _ ha
      refine⟨_,rfl,a,_,rfl,.inr (SqT.of ha2),fun l hl=>?_⟩
      have s3:=zH (o:=.lst (ps.map V.int)) hl
      refine⟨_,rfl,a,ps,rfl,.inr (SqT.of (s3 _ _ ha2)),by omega,fun z hz=>by have:=hp z hz;omega,fun l2 ms hl2 hms hmm=>?_⟩
      have s4:=zH (o:=.lst (ms.map V.int)) hl2
      refine⟨l,l2,ps,ms,rfl,rfl,SqL.of (s4 _ _ zJ),SqL.of zJ,_,rfl,?_⟩
      have s5:=s2.trans (s3.trans s4)
      generalize upd (upd H2 l (.lst (ps.map V.int))) l2 (.lst (ms.map V.int))=H5 at s5 ⊢
      refine zCz (fun c=>?_) (fun c=>?_)
      . have c':ps=ms:=of_decide_eq_true c
        subst c'
        have PR:Prt n ps:=⟨hms,hp,hne⟩
        refine⟨_,rfl,_,rfl,fl,a,rs,M,n,ts,ps,rfl,s5 _ _ hfl,LR.same s5,RR,G,h11,s5 _ _ ha,PR,fun l3 m3 H6 s6 _ hl3 _ hm3=>?_⟩
        refine⟨zg _,fun e1 he1=>?_⟩
        have s7:=zH (o:=.lst []) he1
        refine⟨l3,e1,_,rfl,rfl,SqL.of (s7 _ _ hl3),SqL.of zJ,?_⟩
        refine k _ _ ?_ (s5.trans (s6.trans s7))
        constructor
        . intro z
          have z':m3=[]:=by
           cases m3 with
           | nil=>rfl
           | cons _ _=>cases z
          subst z'
          refine⟨ps,rfl,PR,fun x hx y hy q hq=>zAm fun nq=>?_⟩
          have:=(hm3 q).mpr ⟨nq,x,hx,y,hy,hq⟩
          cases this
        . rintro ⟨ps',e,C⟩
          have e':=zDV (PyData.tuple.inj e)
          subst e'
          cases m3 with
          | nil=>rfl
          | cons q r=>
           obtain⟨nq,x,hx,y,hy,hq⟩:=(hm3 q).mp zZ
           exact absurd (C.cv x hx y hy q hq) nq
      . refine k false H5 ⟨(fun z=>by cases z),?_⟩ s5
        rintro ⟨ps',e,C⟩
        have e':=zDV (PyData.tuple.inj e)
        subst e'
        exact (c (zW (zFu C.pr.ri hms fun z=>(hmm z).symm))).elim
noncomputable def zKr:Sp:=fun vs H Q _=>∃(wa pa:Addr)(n:Int)(ts:List T3)(ps:List Int),vs=[.ref wa,.ref pa]/\zBw H wa n ts/\H pa=some (.tup (ps.map V.int))/\Prt n ps/\∀(wb:Addr)(H':Hp),zAw H H'->zBw H' wb (ps.length:Int) (zGW ps ts)->Q (.ref wb) H'
theorem zF1 {n:Nat}(h:n<=1000):n<sizeLine:=zAo h (by decide)
noncomputable def OwnOk (ps:List Int)(ess:List (List En)):Prop:=∀p∈ps,∀e∈ess.getD p.toNat [],e.h=p↔e.l=0
theorem own_ok {rk:Int->Int}(G:GW n ts)(C:Cvx ts n ps)(L:zJY ts n rk ess):OwnOk ps ess:=by
 intro p hp e he
 have hr:=C.pr.rng p hp
 have hl:p.toNat<ess.length:=by rw[L.1];omega
 have LL:=L.2 p.toNat _ (zD hl)
 rw[zBg hr.1] at LL
 rw[zF,zD hl,zBR] at he
 have E:=LL.ent e he
 exact⟨fun z=>(zDq G E.len).mpr z.symm,fun z=>((zDq G E.len).mp z).symm⟩
noncomputable def zK2:Sp:=fun vs H Q _=>∃(ll pa:Addr)(ps:List Int)(ess:List (List En)),vs=[.ref ll,.ref pa]/\H pa=some (.tup (ps.map V.int))/\zC6 H ll ess/\ps.Nodup/\ps.length<=24/\zMv ps ess/\OwnOk ps ess/\∀(q:Addr)(H':Hp),zAw H H'->zC6 H' q (zFS ps ess)->Q (.ref q) H'
theorem zFq:zAO ["_law_web_here", "_law_part_here", "_law_ties", "_law_a", "_law_b", "_law_long"] ["_law_web_here", "_law_part_here"] (defScope zJp):=fS0
theorem zMC (F:Fun K "_law_web_due" "_law_web_due" zJp f fd') (mLen:mg "len" = none) (mTuple:mg "tuple" = none):zAg P w K mg base CX0 1 f fd' ["_law_web_here", "_law_part_here"] zKr:=by
 refine F.ok zFq (fun vs H Q E h=>?_) (fun cdv A outer s H vs Q E hr h=>?_)
 . obtain⟨wa,pa,n,ts,ps,rfl,_⟩:=h
   rfl
 . obtain⟨wa,pa,n,ts,ps,rfl,W,hpa,PR,k⟩:=h
   obtain⟨ta,tys,hwa,hta,TA,G⟩:=id W
   have hlT:=TA.length
   rw[zB] at hlT
   have h64:=G.len
   refine⟨_,zS (zAa (i:=2) zFq.nd rfl (Or.inl rfl) (zBh zM))
    (zS (zB3 PassesOwn.never rfl (zB9 (zAT zAy (pv 0) zz (fun _ _=>rfl))) (zEr rfl (zA6 (zAA (i:=3) zFq.nd rfl (Or.inl rfl)) (zA6 (zAA (i:=4) zFq.nd rfl (Or.inl rfl)) (zA6 (zAA (i:=5) zFq.nd rfl (Or.inl rfl)) zC8))))
     (zd (zBn (PW.pt (zD5 (zAN zCv (pv 3) (pv 1) (by with_unfolding_all rfl)) (zC7 (zAN zCv (pv 4) (pv 1) (by with_unfolding_all rfl)))))
      (zd (zCZ (zED PySem.F.plainAttrs_list PySem.F.slot_list_append PySem.F.type_list_append zBr (pv 2) (zE (zBQ (zE (zCS PySem.F.slot_tuple_index PySem.F.type_tuple_index zBv (pv 1) (zE (pv 3) zM))
       (zE (zCS PySem.F.slot_tuple_index PySem.F.type_tuple_index zBv (pv 1) (zE (pv 4) zM)) (zE (pv 5) zM)))) zM)))) zAh)))
    (zd (zAJ (zBQ (zE (zj zAS mLen (zE (pv 1) zM)) (zE (zAc zAI mTuple (zE (pv 2) zM)) zM)))))),?_⟩
   refine⟨zg _,fun D hD=>?_⟩
   have sD:=zH (o:=.lst []) hD
   refine⟨_,rfl,wa,_,_,.ref ta,rfl,rfl,SqT.of (sD _ _ hwa),rfl,ta,rfl,⟨_,SqT.of (sD _ _ hta)⟩,zCk (K:=K) (a:=ta) (xs:=tys) (fun i σ H4=>∃(v3 v4 v5:Option V)(ys:List V),σ=[some (.ref wa),some (.ref pa),some (.ref D),v3,v4,v5]/\zAW H4 ys ((zGW ps (ts.take i)).map tl)/\zAw H H4/\H4 D=some (.lst ys))
    ⟨_,_,_,[],rfl,trivial,sD,zJ⟩ (fun i σ H4 _ ⟨_,_,_,_,_,_,s4,_⟩=>SqT.of (s4 _ _ hta)) ?turn ?after⟩
   case turn=>
    rintro i v σ H4 hv ⟨v3,v4,v5,ys,rfl,T4,s4,hD4⟩
    obtain⟨ya,kk,rfl,hkk,hya,_⟩:=TA.get hv
    have hil:=(zK.mp hv).1
    rw[zP] at hkk
    obtain⟨t,ht,rfl⟩:∃t,ts[i]? = some t/\tl t=kk:=by
     cases e:ts[i]? with
     | none=>rw[e] at hkk;cases hkk
     | some t=>rw[e] at hkk;exact⟨t,rfl,zX hkk⟩
    have hya4:=s4 _ _ hya
    have hpa4:=s4 _ _ hpa
    have sn:=zGF (ps:=ps) ht
    have hyl:ys.length<=64:=by
     have h1:=T4.length
     rw[zB] at h1
     have h2:=zo (inT ps) (ts.take i)
     rw[zw] at h2
     unfold zGW at h1
     rw[zB] at h1
     omega
    have no:¬ (inT ps t=true)->zAW H4 ys ((zGW ps (ts.take (i+1))).map tl):=fun c=>by
     rw[sn,if_neg c,zt];exact T4
    refine⟨ya,_,rfl,SqT.of hya4,rfl,_,_,rfl,_,_,rfl,_,_,rfl,rfl,?_⟩
    refine⟨_,rfl,_,rfl,pa,_,rfl,.inr (SqT.of hpa4),rfl,zBJ _,_,rfl,?_⟩
    show if inV (.int t.1) (ps.map V.int)=true then _ else _
    rw[zBl]
    refine zCz (fun c1=>?_) (fun c1=>?_)
    . refine⟨_,rfl,_,rfl,pa,_,rfl,.inr (SqT.of hpa4),rfl,zBJ _,_,rfl,?_⟩
      show if inV (.int t.2.1) (ps.map V.int)=true then _ else _
      rw[zBl]
      refine zCz (fun c2=>?_) (fun c2=>?_)
      . have i1:=of_decide_eq_true c1
        have i2:=of_decide_eq_true c2
        obtain⟨ia,hia,nia,eia⟩:=zCq PR.nd i1
        obtain⟨ib,hib,nib,eib⟩:=zCq PR.nd i2
        refine⟨_,rfl,.inl ⟨rfl,_,SqL.of hD4⟩,?_⟩
        refine⟨_,rfl,⟨pa,_,rfl,hpa4⟩,_,rfl,pa,ps,ia,t.1,rfl,rfl,SqT.of hpa4,hia,nia,?_⟩
        refine⟨_,rfl,⟨pa,_,rfl,hpa4⟩,_,rfl,pa,ps,ib,t.2.1,rfl,rfl,SqT.of hpa4,hib,nib,?_⟩
        refine⟨_,rfl,by show 3<=sizeLine;decide,fun q hq=>?_⟩
        rw[eia,eib] at *
        have s5:=zH (o:=.tup [.int (ixP ps t.1),.int (ixP ps t.2.1),.int t.2.2]) hq
        have hD5:=s5 _ _ hD4
        refine⟨D,_,_,rfl,rfl,hD5,zl (by omega),?_⟩
        refine⟨_,_,_,_,rfl,?_,zAu (s4.trans s5) hD,zJ⟩
        rw[sn,if_pos (zCT.mpr ⟨i1,i2⟩),zR]
        refine (T4.keep fun b zs e=>?_).snoc ⟨q,rfl,?_,by simp[tl]⟩
        . have e5:=s5 _ _ e
          rw[zk (zBu e5 hD5 (by intro z;cases z))];exact e5
        . rw[zk (Ne.symm (zq hD4 hq))];exact zJ
      . exact⟨_,_,_,_,rfl,no fun z=>c2 (zW (zCT.mp z).2),s4,hD4⟩
    . exact⟨_,_,_,_,rfl,no fun z=>c1 (zW (zCT.mp z).1),s4,hD4⟩
   case after=>
    rintro σ H4 ⟨v3,v4,v5,ys,rfl,T4,s4,hD4⟩
    rw[hlT,zY (zI _)] at T4
    refine⟨_,rfl,pa,_,rfl,.inr (SqT.of (s4 _ _ hpa)),?_⟩
    refine⟨_,rfl,D,_,rfl,.inl ⟨SqL.of hD4,fun tb htb=>?_⟩⟩
    refine⟨by show 2<=sizeLine;decide,fun wb hwb=>?_⟩
    have s5:=zH (o:=.tup ys) htb
    rw[zB]
    have s6:=zH (o:=.tup [.int (ps.length:Int),.ref tb]) hwb
    refine k wb _ (s4.trans (s5.trans s6)) ⟨tb,ys,zJ,s6 _ _ zJ,T4.keep fun b zs e=>s6 _ _ (s5 _ _ e),zLN G PR⟩
theorem zDa:zAO ["_law_labels", "_law_part_here", "_law_found", "_law_place", "_law_label", "_law_hub", "_law_long", "_law_up", "_law_down"] ["_law_labels", "_law_part_here"] (defScope zJw):=fS0
theorem zMU (F:Fun K "_law_cut_due" "_law_cut_due" zJw f fd') (mTuple:mg "tuple" = none):zAg P w K mg base CX0 1 f fd' ["_law_labels", "_law_part_here"] zK2:=by
 refine F.ok zDa (fun vs H Q E h=>?_) (fun cdv A outer s H vs Q E hr h=>?_)
 . obtain⟨ll,pa,ps,ess,rfl,_⟩:=h
   rfl
 . obtain⟨ll,pa,ps,ess,rfl,hpa,L,nd,h24,ok,own,k⟩:=h
   refine⟨_,zS (zAa (i:=2) zDa.nd rfl (Or.inl rfl) (zBh zM))
    (zS (zB3 PassesOwn.never rfl (zB9 (pv 1)) (zAA (i:=3) zDa.nd rfl (Or.inl rfl))
     (zS (zAa (i:=4) zDa.nd rfl (Or.inl rfl) (zBh zM))
     (zS (zB3 PassesOwn.never rfl (zB9 (zAT zAy (pv 0) (pv 3) (fun _ _=>rfl))) (zEr rfl (zA6 (zAA (i:=5) zDa.nd rfl (Or.inl rfl)) (zA6 (zAA (i:=6) zDa.nd rfl (Or.inl rfl)) (zA6 (zAA (i:=7) zDa.nd rfl (Or.inl rfl)) (zA6 (zAA (i:=8) zDa.nd rfl (Or.inl rfl)) zC8)))))
      (zd (zBn (PW.pt (zD5 (zAN zCv (pv 5) (pv 1) (by with_unfolding_all rfl)) (zC7 (zAN zCr (pv 5) (pv 3) (zAd _)))))
       (zd (zCZ (zED PySem.F.plainAttrs_list PySem.F.slot_list_append PySem.F.type_list_append zBr (pv 4) (zE (zBQ (zE (zCS PySem.F.slot_tuple_index PySem.F.type_tuple_index zBv (pv 1) (zE (pv 5) zM)) (zCK (zE zCR (zE zCR zM))))) zM))))
       (zd (zBn (zAN zCv (pv 5) (pv 1) (by with_unfolding_all rfl))
        (zd (zCZ (zED PySem.F.plainAttrs_list PySem.F.slot_list_append PySem.F.type_list_append zBr (pv 4) (zE (zBQ (zE (zCS PySem.F.slot_tuple_index PySem.F.type_tuple_index zBv (pv 1) (zE (pv 5) zM)) (zE (pv 6)
         (zE (zCS PySem.F.slot_tuple_index PySem.F.type_tuple_index zBv (pv 1) (zE (pv 7) zM)) (zE (zCS PySem.F.slot_tuple_index PySem.F.type_tuple_index zBv (pv 1) (zE (pv 8) zM)) zM))))) zM)))) zAh)))))
     (zd (zCZ (zED PySem.F.plainAttrs_list PySem.F.slot_list_append PySem.F.type_list_append zBr (pv 2) (zE (zAc zAI mTuple (zE (pv 4) zM)) zM)))))))
    (zd (zAJ (zAc zAI mTuple (zE (pv 2) zM))))),?_⟩
   refine⟨zg _,fun D hD=>?_⟩
   have sD:=zH (o:=.lst []) hD
   refine⟨_,rfl,pa,rfl,⟨_,SqT.of (sD _ _ hpa)⟩,zCk (K:=K) (a:=pa) (xs:=ps.map V.int) (fun i σ H4=>i<=ps.length/\∃(v3 v4 v5 v6 v7 v8:Option V)(bs:List Addr),σ=[some (.ref ll),some (.ref pa),some (.ref D),v3,v4,v5,v6,v7,v8]/\bs.length=i/\(∀(j:Nat)(b:Addr),bs[j]? = some b->∃es,(zFS ps ess)[j]? = some es/\zCs H4 b es)/\zAw H H4/\H4 D=some (.lst (bs.map V.ref)))
    ⟨zg _,_,_,_,_,_,_,[],rfl,rfl,(fun i a z=>by simp at z),sD,zJ⟩ (fun i σ H4 _ z=>?_) ?turn ?after⟩
   . obtain⟨_,_,_,_,_,_,_,_,_,_,_,s4,_⟩:=z
     exact SqT.of (s4 _ _ hpa)
   case turn=>
    rintro i v σ H4 hv ⟨_,v3,v4,v5,v6,v7,v8,bs,rfl,hbl,EB,s4,hD4⟩
    obtain⟨p,hp,rfl⟩:=int_at hv
    have hql:=(zK.mp hp).1
    have hpm:=zU hp
    obtain⟨p0,pl,eok⟩:=ok p hpm
    obtain⟨as,h1,h2,h3⟩:=id L
    have hpl:p.toNat<as.length:=by omega
    obtain⟨es,g1,g2⟩:=h3 p.toNat as[p.toNat] (zD hpl)
    have ge:ess.getD p.toNat []=es:=by rw[zF,g1];rfl
    have own':=own p hpm
    rw[ge] at eok own'
    obtain⟨bas,hla,EA,hlE⟩:=id g2
    refine⟨zg _,fun lb hlb=>?_⟩
    have s5:=zH (o:=.lst []) hlb
    have nlD:lb≠D:=(zq hD4 hlb).symm
    have hla5:=s5 _ _ (s4 _ _ hla)
    refine⟨_,rfl,_,rfl,ll,_,_,.ref as[p.toNat],rfl,rfl,SqT.of (s5 _ _ (s4 _ _ h1)),zAv p0 (by rw[zP,zD hpl];rfl),_,rfl,⟨_,SqT.of hla5⟩,?_⟩
    refine zCk (K:=K) (a:=as[p.toNat]) (xs:=bas.map V.ref) (fun j σ H6=>∃(v5 v6 v7 v8:Option V)(cs:List Addr),σ=[some (.ref ll),some (.ref pa),some (.ref D),some (.int p),some (.ref lb),v5,v6,v7,v8]/\zDO H6 cs (zGX ps (es.take j))/\zAw H4 H6/\H6 lb=some (.lst (cs.map V.ref)))
     ⟨_,_,_,_,[],rfl,⟨rfl,fun i a z=>by simp at z⟩,s5,zJ⟩ (fun j σ H6 _ z=>?_) ?turn2 ?after2
    . obtain⟨_,_,_,_,_,_,_,s6,_⟩:=z
      exact SqT.of (s6 _ _ (s4 _ _ hla))
    case turn2=>
     rintro j v σ H6 hv ⟨v5,v6,v7,v8,cs,rfl,EC,s6,hlb6⟩
     obtain⟨ea,e,rfl,he,hea⟩:=EA.at hv
     have hea6:=s6 _ _ (s4 _ _ hea)
     have hpa6:=s6 _ _ (s4 _ _ hpa)
     have sn:=zGG (ps:=ps) he
     have hcl:cs.length<=1000:=by
      have h1:=EC.1
      have h2:=zo (fun e:En=>decide (e.h∈ps)) (es.take j)
      rw[zw] at h2
      unfold zGX at h1
      rw[zB] at h1
      omega
     have em:=zU he
     have eo:=eok e em
     have ew:=own' e em
     obtain⟨eh,el,eu,ed⟩:=e
     dsimp only at eo ew
     refine⟨ea,_,rfl,SqT.of hea6,rfl,_,_,rfl,_,_,rfl,_,_,rfl,_,_,rfl,rfl,?_⟩
     have app:∀(q:Addr),H6 q=none->eh∈ps->∀ σ5,σ5=[some (V.ref ll),some (.ref pa),some (.ref D),some (.int p),some (.ref lb),some (.int eh),some (.int el),some (oV eu),some (oV ed)]->∃(v5 v6 v7 v8:Option V)(cs':List Addr),σ5=[some (V.ref ll),some (.ref pa),some (.ref D),some (.int p),some (.ref lb),v5,v6,v7,v8]/\zDO (upd (upd H6 q (.tup (eV (zMn ps ⟨eh,el,eu,ed⟩)))) lb (.lst (cs.map V.ref++[.ref q]))) cs' (zGX ps (es.take (j+1)))/\zAw H4 (upd (upd H6 q (.tup (eV (zMn ps ⟨eh,el,eu,ed⟩)))) lb (.lst (cs.map V.ref++[.ref q])))/\(upd (upd H6 q (.tup (eV (zMn ps ⟨eh,el,eu,ed⟩)))) lb (.lst (cs.map V.ref++[.ref q]))) lb=some (.lst (cs'.map V.ref)):=fun q hq hin σ5 e5=>by
      have s7:=zH (o:=.tup (eV (zMn ps ⟨eh,el,eu,ed⟩))) hq
      have hlb7:=s7 _ _ hlb6
      refine⟨_,_,_,_,cs++[q],e5,?_,zAu (s6.trans s7) hlb,by rw[zJ,zR];rfl⟩
      rw[sn,if_pos (zW hin)]
      refine (EC.keep fun b zs e=>?_).snoc ?_
      . have e5:=s7 _ _ e
        rw[zk (zBu e5 hlb7 (by intro z;cases z))];exact e5
      . rw[zk (Ne.symm (zq hlb6 hq))];exact zJ
     have skip:¬ eh∈ps->∃(v5 v6 v7 v8:Option V)(cs':List Addr),[some (V.ref ll),some (.ref pa),some (.ref D),some (.int p),some (.ref lb),some (.int eh),some (.int el),some (oV eu),some (oV ed)]=[some (V.ref ll),some (.ref pa),some (.ref D),some (.int p),some (.ref lb),v5,v6,v7,v8]/\zDO H6 cs' (zGX ps (es.take (j+1)))/\zAw H4 H6/\H6 lb=some (.lst (cs'.map V.ref)):=fun c=>by
      refine⟨_,_,_,_,cs,rfl,?_,s6,hlb6⟩
      rw[sn,if_neg (fun z=>c (of_decide_eq_true z)),zt]
      exact EC
     have rest:¬ (eh∈ps/\eh=p)->∀{R:Prop},(eh∈ps->el≠0->(∃a b,eu=some a/\ed=some b/\a∈ps/\b∈ps)->R)->eh∈ps->R:=fun c R f hin=>by
      rcases eo hin with ⟨z1,_⟩ | ⟨z1,z2⟩
      . exact absurd ⟨hin,ew.mpr z1⟩ c
      . exact f hin z1 z2
     refine⟨_,rfl,_,rfl,pa,_,rfl,.inr (SqT.of hpa6),rfl,zBJ _,_,rfl,?_⟩
     show if inV (.int eh) (ps.map V.int)=true then _ else _
     rw[zBl]
     refine zCz (fun c1=>?_) (fun c1=>?_)
     . have i1:=of_decide_eq_true c1
       obtain⟨ih,hih,nih,eih⟩:=zCq nd i1
       refine⟨_,rfl,_,rfl,rfl,_,rfl,?_⟩
       rw[zKe]
       refine zCz (fun c2=>?_) (fun c2=>?_)
       . have i2:=of_decide_eq_true c2
         have z0:=ew.mp i2
         rcases eo i1 with ⟨z1,z2,z3⟩ | ⟨z1,_⟩
         . subst z1 z2 z3
           refine⟨_,rfl,.inl ⟨rfl,_,SqL.of hlb6⟩,?_⟩
           refine⟨_,rfl,⟨pa,_,rfl,hpa6⟩,_,rfl,pa,ps,ih,eh,rfl,rfl,SqT.of hpa6,hih,nih,?_⟩
           refine⟨by show 4<=sizeLine;decide,fun q hq=>?_⟩
           rw[eih]
           refine⟨lb,_,_,rfl,rfl,zH hq _ _ hlb6,zF1 (by rw[zB];omega),?_⟩
           exact app q hq i1 _ rfl
         . exact absurd z0 z1
       . have c2':¬ (eh∈ps/\eh=p):=fun z=>c2 (zW z.2)
         refine rest c2' (fun _ z1 z2=>?_) i1
         obtain⟨a,b,rfl,rfl,ha,hb⟩:=z2
         obtain⟨ia,hia,nia,eia⟩:=zCq nd ha
         obtain⟨ib,hib,nib,eib⟩:=zCq nd hb
         refine⟨_,rfl,_,rfl,pa,_,rfl,.inr (SqT.of hpa6),rfl,zBJ _,_,rfl,?_⟩
         show if inV (.int eh) (ps.map V.int)=true then _ else _
         rw[zBl,c1]
         refine zCt ?_
         refine⟨_,rfl,.inl ⟨rfl,_,SqL.of hlb6⟩,?_⟩
         refine⟨_,rfl,⟨pa,_,rfl,hpa6⟩,_,rfl,pa,ps,ih,eh,rfl,rfl,SqT.of hpa6,hih,nih,?_⟩
         refine⟨_,rfl,?_⟩
         refine⟨_,rfl,⟨pa,_,rfl,hpa6⟩,_,rfl,pa,ps,ia,a,rfl,rfl,SqT.of hpa6,hia,nia,?_⟩
         refine⟨_,rfl,⟨pa,_,rfl,hpa6⟩,_,rfl,pa,ps,ib,b,rfl,rfl,SqT.of hpa6,hib,nib,?_⟩
         refine⟨by show 4<=sizeLine;decide,fun q hq=>?_⟩
         rw[eih,eia,eib]
         refine⟨lb,_,_,rfl,rfl,zH hq _ _ hlb6,zF1 (by rw[zB];omega),?_⟩
         exact app q hq i1 _ rfl
     . have c1':¬ eh∈ps:=fun z=>c1 (zW z)
       refine⟨_,rfl,_,rfl,pa,_,rfl,.inr (SqT.of hpa6),rfl,zBJ _,_,rfl,?_⟩
       show if inV (.int eh) (ps.map V.int)=true then _ else _
       rw[zBl,zu c1']
       exact zCw (skip c1')
    case after2=>
     rintro σ H6 ⟨v5,v6,v7,v8,cs,rfl,EC,s6,hlb6⟩
     rw[zB,EA.1,zY (zI _)] at EC
     have hD6:=s6 _ _ hD4
     refine⟨_,rfl,.inl ⟨rfl,_,SqL.of hD6⟩,?_⟩
     refine⟨_,rfl,lb,_,rfl,.inl ⟨SqL.of hlb6,fun q hq=>?_⟩⟩
     have s7:=zH (o:=.tup (cs.map V.ref)) hq
     have hD7:=s7 _ _ hD6
     have Lq:zCs (upd H6 q (.tup (cs.map V.ref))) q (zGX ps es):=⟨cs,zJ,EC.keep fun b zs e=>s7 _ _ e,by
      unfold zGX
      rw[zB]
      exact zAP (zo _ _) hlE⟩
     refine⟨D,_,_,rfl,rfl,hD7,zl (by rw[zB];omega),?_⟩
     refine⟨hql,_,_,_,_,_,_,bs++[q],rfl,by rw[zO,hbl];rfl,fun j b hb=>?_,zAu (s4.trans (s6.trans s7)) hD,by rw[zJ,zR];rfl⟩
     have kp:∀ {x zs},zCs (upd H6 q (.tup (cs.map V.ref))) x zs->zCs (upd (upd H6 q (.tup (cs.map V.ref))) D (.lst (bs.map V.ref++[.ref q]))) x zs:=fun h=>h.keep fun b ys e=>by rw[zk (zBu e hD7 (by intro z;cases z))];exact e
     by_cases c:j<bs.length
     . rw[zh c] at hb
       obtain⟨zs,z1,z2⟩:=EB j b hb
       exact⟨zs,z1,kp ((z2.same s6).same s7)⟩
     . rw[za (by omega)] at hb
       have hj:j-bs.length=0:=by
        cases z:j-bs.length with
        | zero=>rfl
        | succ m=>rw[z] at hb;simp at hb
       rw[hj] at hb
       have:q=b:=by simpa using hb
       subst this
       have ej:j=i:=by omega
       subst ej
       refine⟨zGX ps es,?_,kp Lq⟩
       unfold zFS
       rw[zP,hp,<-ge];rfl
   case after=>
    rintro σ H4 ⟨_,v3,v4,v5,v6,v7,v8,bs,rfl,hbl,EB,s4,hD4⟩
    rw[zB] at hbl
    refine⟨_,rfl,D,_,rfl,.inl ⟨SqL.of hD4,fun q hq=>?_⟩⟩
    have s5:=zH (o:=.tup (bs.map V.ref)) hq
    refine k q _ (s4.trans s5) ⟨bs,zJ,by unfold zFS;rw[zB];exact hbl,fun j b hb=>?_⟩
    obtain⟨zs,z1,z2⟩:=EB j b hb
    exact⟨zs,z1,z2.same s5⟩
noncomputable def tieT (t:T3):PyData:=.tuple ((tl t).map PyData.int)
noncomputable def zJh (n:Int)(ts:List T3):PyData:=.tuple [.int n,.tuple (ts.map tieT)]
theorem zIA {H:Hp}:∀l:List Int,zA1 H (l.map V.int) (l.map PyData.int)
 | []=>.nil
 | _::r=>.cons (.int _) (zIA r)
theorem zH9 {H:Hp}:∀{xs:List V}{ts:List T3},zAW H xs (ts.map tl)->zA1 H xs (ts.map tieT)
 | [],[],_=>.nil
 | [],_::_,h=>h.elim
 | _::_,[],h=>h.elim
 | x::xs,t::ts,h=>by
  obtain⟨⟨a,rfl,ha,_⟩,hr⟩:=h
  exact .cons (.tup ha (zIA _)) (zH9 hr)
theorem zK4 (W:zBw H wa n ts):zBj H (.ref wa) (zJh n ts):=by
 obtain⟨ta,tys,h1,h2,h3,_⟩:=W
 exact .tup h1 (.cons (.int _) (.cons (.tup h2 (zH9 h3)) .nil))
theorem web_fn (g:GW n ts):Fn 12034 3 (zJh n ts):=by
 have h1:=g.n1
 have h2:=g.n24
 have hl:=g.len
 have ht:Fn 6016 2 (.tuple (ts.map tieT)):=by
  refine (zI7 (n:=93) (p:=1) (L:=64) (fun d hd=>?_) (by rw[zB];omega)).mono (by decide) (by decide)
  obtain⟨t,ht,rfl⟩:=zAM.mp hd
  obtain⟨r1,r2,r3,r4,r5⟩:=g.rng t ht
  refine (zI7 (n:=30) (p:=0) (L:=3) (fun d hd=>?_) (by rw[zB];exact zI 3)).mono (by decide) (by decide)
  obtain⟨i,hi,rfl⟩:=zAM.mp hd
  have hi':i=t.1\/i=t.2.1\/i=t.2.2:=by simpa [tl] using hi
  exact zLQ (by omega)
 refine (zI7 (n:=6016) (p:=2) (L:=2) (ds:=[.int n,.tuple (ts.map tieT)]) (fun d hd=>?_) (zI 2)).mono (by decide) (by decide)
 rcases zV.mp hd with rfl | hd
 . exact (zLQ (by omega)).mono (by decide) (by decide)
 . rcases zV.mp hd with rfl | hd
   . exact ht
   . cases hd
noncomputable def zH0:Sp:=fun vs H Q _=>∃v:V,vs=[v,v]/\((∃b,v = .bl b)\/∃x,v = .str x)/\∀H',zAw H H'->Q (.bl true) H'
theorem tyS (h:(∃b,v = .bl b)\/∃x,v = .str x):∃t bb,zGT K H v t/\PySem.W.kitOne K t (.type "tuple")=some false/\PySem.W.kitOne K t (.type "list")=some false/\PySem.W.kitOne K t (.type "bool")=some bb/\PySem.W.kitAny K t [.type "tuple",.type "list"]=some false/\scal v v=true:=by
 rcases h with ⟨b,rfl⟩ | ⟨x,rfl⟩
 . exact⟨_,_,.bl b,rfl,rfl,rfl,rfl,rfl⟩
 . exact⟨_,_,.str x,rfl,rfl,rfl,rfl,rfl⟩
theorem zFo (k:SmT H H')(s:zBj H v d):zBj H' v d:=
 zBj.rec (motive_1:=fun v d _=>zBj H' v d) (motive_2:=fun xs ds _=>zA1 H' xs ds) .non (fun b=>.bl b) (fun i=>.int i) (fun x=>.str x) (fun e _ ih=>.tup (k.get e (by intro ps z;cases z)) ih) (fun e _ ih=>.lst (k.get e (by intro ps z;cases z)) ih) .nil (fun _ _ i1 i2=>.cons i1 i2) s
theorem zKG (F:Fun K "_law_same" "_law_same" zGh f fd') (mIsi:mg "isinstance" = none) (mTuple:mg "tuple" = none) (mList:mg "list" = none) (mBool:mg "bool" = none):zAg P w K mg base CX0 1 f fd' ["_law_found", "_law_due"] zH0:=by
 refine F.ok zIF (fun vs H Q E h=>?_) (fun cdv A outer s H vs Q E hr h=>?_)
 . obtain⟨v,rfl,_⟩:=h
   rfl
 . obtain⟨v,rfl,hv,k⟩:=h
   refine⟨_,zS (zBn (PW.pt (zEc (zAN zFJ (zj zAK mIsi (zE (pv 1) (zE (zBE (T := "tuple") mTuple) zM))) (zj zAK mIsi (zE (pv 0) (zE (zBE (T := "tuple") mTuple) zM))) (zAd _))
    (zDb (zAN zFJ (zj zAK mIsi (zE (pv 1) (zE (zBE (T := "list") mList) zM))) (zj zAK mIsi (zE (pv 0) (zE (zBE (T := "list") mList) zM))) (zAd _))))) (zd (zAJ zCc)) zAh)
    (zS (zBn (zCB (zBx (zj zCn mIsi (zE (pv 1) (zE (zBQ (zE (zBE (T := "tuple") mTuple) (zE (zBE (T := "list") mList) zM))) zM)))))
     (zd (zAJ (zDG (zBq zCr (zj zAK mIsi (zE (pv 0) (zE (zBE (T := "bool") mBool) zM))) (zj zAK mIsi (zE (pv 1) (zE (zBE (T := "bool") mBool) zM))) (zAd _))
      (zDF (zBq zCr (pv 0) (pv 1) (zAd _)))))) zAh)
    (zS zGj (zd zGj))),?_⟩
   obtain⟨ta,_,ya,a1,a2,_,_,_⟩:=tyS (K:=K) (H:=H) hv
   refine⟨_,rfl,_,_,ta,false,rfl,ya,a1,_,rfl,_,_,ta,false,rfl,ya,a1,rfl,_,rfl,ifF rfl ?_⟩
   refine⟨_,rfl,_,_,ta,false,rfl,ya,a2,_,rfl,_,_,ta,false,rfl,ya,a2,rfl,_,rfl,ifF rfl ?_⟩
   refine⟨_,rfl,by show 2<=sizeLine;decide,fun p hp=>?_⟩
   obtain⟨tb,bb,yb,_,_,b3,b4,b5⟩:=tyS (K:=K) (H:=upd H p (.tup [.ty "tuple",.ty "list"])) hv
   refine⟨_,p,["tuple", "list"],tb,false,rfl,zJ,yb,b4,_,rfl,zCt ?_⟩
   refine⟨_,rfl,_,_,tb,bb,rfl,yb,b3,_,rfl,_,_,tb,bb,rfl,yb,b3,?_⟩
   have e1:scal (.bl bb) (.bl bb)=true:=rfl
   refine⟨e1,_,rfl,ifT (zW rfl) ?_⟩
   refine⟨_,rfl,_,rfl,b5,?_⟩
   rw[zW rfl]
   exact k _ (zH hp)
theorem zDk:zAO ["_law_script", "_law_feed_here", "_law_k", "_law_web_here", "_law_kept", "_law_rows_here", "_law_part_here", "_law_thing", "_law_due", "_law_order_here", "_law_labels"] ["_law_script"] (defScope sLaw):=fS0
set_option maxHeartbeats 16000000 in
theorem ok_law {PT cP e1 e2 e3 e4 e5 e6 e7 e8 e9 e10 e11 fFe fTk fSa fWe fRo fOd fLa fPt fTh fLp fTl fWd fCu fNu fWi fTo fRs fPl fAr fT fNe fF fLe fBw fNb fIp fHw fPw fNt fPo fCd fCl fNn fIo fBy fLb fIh fEb:Addr}{fdFe fdTk fdSa fdWe fdRo fdOd fdLa fdPt fdTh fdLp fdTl fdWd fdCu fdNu fdWi fdTo fdRs fdPl fdAr fdNe fdF fdLe fdBw fdNb fdIp fdHw fdPw fdNt fdPo fdCd fdCl fdNn fdIo fdBy fdLb fdIh fdEb:FuncData}(F:Fun K "law" "law" sLaw f fd') (CH:PySem.W.CodeHd base c PT)(hbm:zJd mg base)
 (EP:ErrG K mg "NoPart" nsP cW cP [e1,e2,e3,e4,e5,e6,e7,e8,e9,e10,e11])
 (FFe:Fun K "_law_feed" "_law_feed" zJu fFe fdFe) (bFe:zAU K fdFe ["_law_script"] []) (mFe:mg "_law_feed" = some (.ref fFe))
 (FTk:Fun K "_law_take" "_law_take" zFs fTk fdTk) (bTk:zAU K fdTk ["_law_feed_here", "_law_many"] []) (mTk:mg "_law_take" = some (.ref fTk))
 (FSa:Fun K "_law_same" "_law_same" zGh fSa fdSa) (bSa:zAU K fdSa ["_law_found", "_law_due"] []) (mSa:mg "_law_same" = some (.ref fSa))
 (FWe:Fun K "_law_web" "_law_web" zGf fWe fdWe) (bWe:zAU K fdWe ["_law_feed_here", "_law_most"] []) (mWe:mg "_law_web" = some (.ref fWe))
 (FRo:Fun K "_law_rows" "_law_rows" zJq fRo fdRo) (bRo:zAU K fdRo ["_law_web_here"] []) (mRo:mg "_law_rows" = some (.ref fRo))
 (FOd:Fun K "_law_order" "_law_order" zJt fOd fdOd) (bOd:zAU K fdOd ["_law_feed_here", "_law_many"] []) (mOd:mg "_law_order" = some (.ref fOd))
 (FLa:Fun K "_law_lacks" "_law_lacks" zD4 fLa fdLa) (bLa:zAU K fdLa ["_law_rows_here", "_law_places"] []) (mLa:mg "_law_lacks" = some (.ref fLa))
 (FPt:Fun K "_law_part" "_law_part" zJs fPt fdPt) (bPt:zAU K fdPt ["_law_feed_here", "_law_rows_here"] []) (mPt:mg "_law_part" = some (.ref fPt))
 (FTh:Fun K "_law_things" "_law_things" sThs fTh fdTh) (bTh:zAU K fdTh ["_law_feed_here", "_law_many", "_law_part_here"] []) (mTh:mg "_law_things" = some (.ref fTh))
 (FLp:Fun K "_law_is_part" "_law_is_part" sLip fLp fdLp) (bLp:zAU K fdLp ["_law_rows_here", "_law_thing"] []) (mLp:mg "_law_is_part" = some (.ref fLp))
 (FTl:Fun K "_law_told" "_law_told" sTol fTl fdTl) (bTl:zAU K fdTl ["_law_web_here", "_law_thing"] []) (mTl:mg "_law_told" = some (.ref fTl))
 (FWd:Fun K "_law_web_due" "_law_web_due" zJp fWd fdWd) (bWd:zAU K fdWd ["_law_web_here", "_law_part_here"] []) (mWd:mg "_law_web_due" = some (.ref fWd))
 (FCu:Fun K "_law_cut_due" "_law_cut_due" zJw fCu fdCu) (bCu:zAU K fdCu ["_law_labels", "_law_part_here"] []) (mCu:mg "_law_cut_due" = some (.ref fCu))
 (FNu:Fun K "is_number" "is_number" sNum fNu fdNu) (bNu:zAU K fdNu ["thing"] []) (mNu:mg "is_number" = some (.ref fNu))
 (FWi:Fun K "is_within" "is_within" sWi fWi fdWi) (bWi:zAU K fdWi ["thing", "least", "most"] []) (mWi:mg "is_within" = some (.ref fWi))
 (FTo:Fun K "is_tuple_of" "is_tuple_of" sTof fTo fdTo) (bTo:zAU K fdTo ["thing", "count"] []) (mTo:mg "is_tuple_of" = some (.ref fTo))
 (FRs:Fun K "is_rising" "is_rising" sRis fRs fdRs) (bRs:zAU K fdRs ["things"] []) (mRs:mg "is_rising" = some (.ref fRs))
 (FPl:Fun K "is_place" "is_place" sPl fPl fdPl) (bPl:zAU K fdPl ["n", "thing"] []) (mPl:mg "is_place" = some (.ref fPl))
 (FAr:Fun K "are_places" "are_places" sArp fAr fdAr) (bAr:zAU K fdAr ["n", "thing"] []) (mAr:mg "are_places" = some (.ref fAr))
 (FT:Fun K "ties_at" "ties_at" zGg fT fdT) (bT:zAU K fdT ["web", "place"] []) (mT:mg "ties_at" = some (.ref fT))
 (FNe:zKm K "nearest" "nearest" zIK fNe fdNe c) (bNe:zAU K fdNe ["waiting"] []) (mNe:mg "nearest" = some (.ref fNe))
 (FF:Fun K "lengths_from" "lengths_from" zIM fF fdF) (bF:zAU K fdF ["web", "start"] []) (mF:mg "lengths_from" = some (.ref fF))
 (FLe:Fun K "lengths" "lengths" zHT fLe fdLe) (bLe:zAU K fdLe ["web"] []) (mLe:mg "lengths" = some (.ref fLe))
 (FBw:Fun K "between_rows" "between_rows" sBwr fBw fdBw) (bBw:zAU K fdBw ["here", "there", "other"] []) (mBw:mg "between_rows" = some (.ref fBw))
 (FNb:Fun K "next_by_row" "next_by_row" sNbr fNb fdNb) (bNb:zAU K fdNb ["web", "one", "there"] []) (mNb:mg "next_by_row" = some (.ref fNb))
 (FIp:Fun K "is_part" "is_part" sIsP fIp fdIp) (bIp:zAU K fdIp ["web", "thing"] []) (mIp:mg "is_part" = some (.ref fIp))
 (FHw:Fun K "holds_ways_from" "holds_ways_from" zIL fHw fdHw) (bHw:zAU K fdHw ["rows", "places", "one"] []) (mHw:mg "holds_ways_from" = some (.ref fHw))
 (FPw:Fun K "part_web" "part_web" zGi fPw fdPw) (bPw:zAU K fdPw ["web", "thing"] []) (mPw:mg "part_web" = some (.ref fPw))
 (FNt:Fun K "new_tie" "new_tie" zII fNt fdNt) (bNt:zAU K fdNt ["places", "tie"] []) (mNt:mg "new_tie" = some (.ref fNt))
 (FPo:Fun K "part_order" "part_order" zJr fPo fdPo) (bPo:zAU K fdPo ["order", "places"] []) (mPo:mg "part_order" = some (.ref fPo))
 (FCd:Fun K "cut_down" "cut_down" zJv fCd fdCd) (bCd:zAU K fdCd ["labels", "places"] []) (mCd:mg "cut_down" = some (.ref fCd))
 (FCl:Fun K "cut_label" "cut_label" zIN fCl fdCl) (bCl:zAU K fdCl ["label", "places"] []) (mCl:mg "cut_label" = some (.ref fCl))
 (FNn:Fun K "new_entry" "new_entry" zIJ fNn fdNn) (bNn:zAU K fdNn ["places", "entry"] []) (mNn:mg "new_entry" = some (.ref fNn))
 (FIo:Fun K "is_order" "is_order" sOrd fIo fdIo) (bIo:zAU K fdIo ["web", "thing"] []) (mIo:mg "is_order" = some (.ref fIo))
 (FBy:Fun K "by_order" "by_order" sByo fBy fdBy) (bBy:zAU K fdBy ["web", "order"] []) (mBy:mg "by_order" = some (.ref fBy))
 (FLb:Fun K "label_by_ranks" "label_by_ranks" sLbr fLb fdLb) (bLb:zAU K fdLb ["web", "rows", "ranks", "place"] []) (mLb:mg "label_by_ranks" = some (.ref fLb))
 (FIh:Fun K "is_hub" "is_hub" sIsh fIh fdIh) (bIh:zAU K fdIh ["rows", "ranks", "hub", "place"] []) (mIh:mg "is_hub" = some (.ref fIh))
 (FEb:Fun K "entry_by_rows" "entry_by_rows" sEbr fEb fdEb) (bEb:zAU K fdEb ["web", "rows", "place", "hub"] []) (mEb:mg "entry_by_rows" = some (.ref fEb))
 (mLen:mg "len" = none) (mRange:mg "range" = none) (mTuple:mg "tuple" = none) (mSorted:mg "sorted" = none) (mMin:mg "min" = none) (mMax:mg "max" = none) (mList:mg "list" = none) (mIsi:mg "isinstance" = none) (mInt:mg "int" = none) (mBool:mg "bool" = none) (mAll:mg "all" = none) (mSet:mg "set" = none) (mZip:mg "zip" = none) (mRepr:mg "repr" = none) (mVal:mg "ValueError" = none):zAg P w K mg base CX0 13 f fd' ["_law_script"] (zJm K PT):=by
 have GFe:zAg P w K mg base CX0 12 fFe fdFe ["_law_script"] (zK0 K):=(zMR FFe mInt).mono (by decide)
 have GWe:zAg P w K mg base CX0 12 fWe fdWe ["_law_feed_here", "_law_most"] zKq:=(zMB FWe FTk bTk mTk mLen mRange mTuple mSorted).mono (by decide)
 have GOd:zAg P w K mg base CX0 12 fOd fdOd ["_law_feed_here", "_law_many"] zKw:=(zMK FOd FTk bTk mTk mLen mRange mList mTuple).mono (by decide)
 have GF:zAg P w K mg base CX0 3 fF fdF ["web", "start"] (zH3 PT):=zMQ FF FNe bNe mNe FT bT mT CH hbm mMin mSorted mTuple
 have GLe:zAg P w K mg base CX0 5 fLe fdLe ["web"] (zG5 PT):=(zMO FLe FF bF mF GF mRange mTuple).mono (by decide)
 have GPl:zAg P w K mg base CX0 3 fPl fdPl ["n", "thing"] spPl:=ok_pl FPl FWi bWi mWi FNu bNu mNu mIsi mInt mBool
 have GTo:zAg P w K mg base CX0 3 fTo fdTo ["thing", "count"] zLe:=(ok_tof FTo mIsi mTuple mLen).mono (by decide)
 have GOG:zAg P w K mg base CX0 5 fIo fdIo ["web", "thing"] zH1:=(zMJ FIo FTo bTo mTo GTo FPl bPl mPl GPl mLen mAll mSet).mono (by decide)
 have GIo:zAg P w K mg base CX0 5 fIo fdIo ["web", "thing"] zLf:=zIf GOG
 have GIh:zAg P w K mg base CX0 4 fIh fdIh ["rows", "ranks", "hub", "place"] zLh:=(ok_ish FIh FBw bBw mBw mRange mTuple mLen mAll).mono (by decide)
 have GEb:zAg P w K mg base CX0 4 fEb fdEb ["web", "rows", "place", "hub"] zLi:=ok_ebr FEb FNb bNb mNb FT bT mT mSorted mTuple mMin
 have GLb:zAg P w K mg base CX0 5 fLb fdLb ["web", "rows", "ranks", "place"] zLg:=ok_lbr FLb FIh bIh mIh GIh FEb bEb mEb GEb mRange mTuple
 have GBy:zAg P w K mg base CX0 12 fBy fdBy ["web", "order"] (spByo PT):=(ok_byo FBy FIo bIo mIo GIo FLe bLe mLe GLe FLb bLb mLb GLb mRange mTuple).mono (by decide)
 have GAr:zAg P w K mg base CX0 5 fAr fdAr ["n", "thing"] zH5:=(zMV FAr FPl bPl mPl GPl FRs bRs mRs mIsi mTuple mLen mRange mAll).mono (by decide)
 have GHw:zAg P w K mg base CX0 5 fHw fdHw ["rows", "places", "one"] zGc:=(zKJ FHw FBw bBw mBw mRange mTuple mLen mAll).mono (by decide)
 have GIg:zAg P w K mg base CX0 6 fIp fdIp ["web", "thing"] (zFl PT):=zMP FIp FAr bAr mAr GAr FLe bLe mLe GLe FHw bHw mHw GHw mAll
 have GIp:zAg P w K mg base CX0 12 fIp fdIp ["web", "thing"] (zFl PT):=GIg.mono (by decide)
 have GPw:zAg P w K mg base CX0 7 fPw fdPw ["web", "thing"] (zFk PT):=zMG FPw FIp bIp mIp (zIh GIg) FNt bNt mNt mLen mTuple
 have GPwR:zAg P w K mg base (CXO P w) 7 fPw fdPw ["web", "thing"] (zGb PT cP):=zKH FPw FIp bIp mIp GIg EP.mR EP.qR
 have GTl:zAg P w K mg base CX0 12 fTl fdTl ["_law_web_here", "_law_thing"] (fun vs H Q E=>zFk PT vs H Q E\/zKs PT vs H Q E):=(zAg.either (zMD FTl FPw bPw mPw GPw EP.mW EP.qW) (zME FTl FPw bPw mPw GPwR EP mIsi mVal mInt)).mono (by decide)
 have GPo:zAg P w K mg base CX0 12 fPo fdPo ["order", "places"] zKu:=(zMH FPo mTuple).mono (by decide)
 have GCl:zAg P w K mg base CX0 2 fCl fdCl ["label", "places"] zH4:=zMS FCl FNn bNn mNn mTuple
 have GCd:zAg P w K mg base CX0 12 fCd fdCd ["labels", "places"] zK1:=(zMT FCd FCl bCl mCl GCl mTuple).mono (by decide)
 have GS4:zAg P w K mg base CX0 12 fSa fdSa ["_law_found", "_law_due"] (spSm 4):=(zHD FSa bSa mSa mIsi mTuple mList mBool mLen mZip 4).mono (by decide)
 have GSs:zAg P w K mg base CX0 12 fSa fdSa ["_law_found", "_law_due"] zH0:=(zKG FSa mIsi mTuple mList mBool).mono (by decide)
 have GSe:=zAg.either GSs GS4
 have GRo:zAg P w K mg base CX0 12 fRo fdRo ["_law_web_here"] zKt:=(zMF FRo mRange mInt mMin).mono (by decide)
 have GPt:zAg P w K mg base CX0 12 fPt fdPt ["_law_feed_here", "_law_rows_here"] zKv:=(zMI FPt FTk bTk mTk FLa bLa mLa mLen mRange mTuple mSorted mSet).mono (by decide)
 have GTh:zAg P w K mg base CX0 12 fTh fdTh ["_law_feed_here", "_law_many", "_law_part_here"] spThs:=(ok_ths FTh FTk bTk mTk mLen mRange mTuple mSorted mSet mList).mono (by decide)
 have GLp:zAg P w K mg base CX0 12 fLp fdLp ["_law_rows_here", "_law_thing"] spLip:=(ok_lip FLp FLa bLa mLa mIsi mTuple mInt mBool mLen mRange mSorted mSet mList).mono (by decide)
 have GWd:zAg P w K mg base CX0 12 fWd fdWd ["_law_web_here", "_law_part_here"] zKr:=(zMC FWd mLen mTuple).mono (by decide)
 have GCu:zAg P w K mg base CX0 12 fCu fdCu ["_law_labels", "_law_part_here"] zK2:=(zMU FCu mTuple).mono (by decide)
 refine F.ok zDk (fun vs H Q E h=>?_) (fun cdv A outer s H vs Q E hr h=>?_)
 . obtain⟨a,ns,rfl,_⟩:=h
   rfl
 . obtain⟨a,ns,rfl,hS,hlen,hPT,kF⟩:=h
   refine⟨_,zS (zAa (i:=1) zDk.nd rfl (Or.inl rfl) (zy GFe hr rfl mFe FFe.kp bFe .nil zAt (zE (pv 0) zM)))
    (zS (zB3 PassesOwn.never rfl (zA5 rfl mRange (zCK zM)) (zAA (i:=2) zDk.nd rfl (Or.inl rfl))
     (zS (zAa (i:=3) zDk.nd rfl (Or.inl rfl) (zy GWe hr rfl mWe FWe.kp bWe .nil zAt (zE (pv 1) (zCK zM))))
     (zS (zAa (i:=4) zDk.nd rfl (Or.inl rfl) (zj (zGL hr) mRepr (zE (pv 3) zM)))
     (zS (zAa (i:=5) zDk.nd rfl (Or.inl rfl) (zy GRo hr rfl mRo FRo.kp bRo .nil zAt (zE (pv 3) zM)))
     (zS (zAa (i:=6) zDk.nd rfl (Or.inr rfl) (zy GPt hr rfl mPt FPt.kp bPt .nil zAt (zE (pv 1) (zE (pv 5) zM))))
     (zS (zB3 PassesOwn.never rfl (zCa (zy GTh hr rfl mTh FTh.kp bTh .nil zAt (zE (pv 1) (zE (zAT zAy (pv 3) zz (fun _ _=>rfl)) (zE (pv 6) zM))))) (zAA (i:=7) zDk.nd rfl (Or.inl rfl))
      (zS (zAa (i:=8) zDk.nd rfl (Or.inl rfl) (zy GLp hr rfl mLp FLp.kp bLp .nil zAt (zE (pv 5) (zE (pv 7) zM))))
      (zS (zBn (zCB (zBx (zy GSs hr rfl mSa FSa.kp bSa .nil zAt (zE (zy GIp hr rfl mIp FIp.kp bIp .nil zAt (zE (pv 3) (zE (pv 7) zM))) (zE (pv 8) zM))))) (zd (zAJ zCc)) zAh)
      (zd (zBn (zCB (zBx (zy GSe hr rfl mSa FSa.kp bSa .nil zAt (zE (zy GTl hr rfl mTl FTl.kp bTl .nil zAt (zE (pv 3) (zE (pv 7) zM))) (zE (zKA (zBx (pv 8)) (zy GWd hr rfl mWd FWd.kp bWd .nil zAt (zE (pv 3) (zE (pv 7) zM))) zEC) zM))))) (zd (zAJ zCc)) zAh)))))
     (zS (zAa (i:=9) zDk.nd rfl (Or.inl rfl) (zy GOd hr rfl mOd FOd.kp bOd .nil zAt (zE (pv 1) (zE (zAT zAy (pv 3) zz (fun _ _=>rfl)) zM))))
     (zS (zAa (i:=8) zDk.nd rfl (Or.inl rfl) (zAc zAI mTuple (zE (zBH (own:=["_law_place"]) (cn:=["_law_part_here"]) (ci:=[6]) rfl (csc rfl rfl) ⟨rfl,rfl,rfl,trivial⟩ rfl (zB9 (pv 9)) (fun _ _ _ _=>zAA (i:=0) (zB4 rfl) rfl (Or.inl rfl))
      (fun _ _ _ _=>zCC (zAN zEt (pv 0) (pv 1) (by with_unfolding_all rfl))) (fun _ _ _ _=>zCS PySem.F.slot_tuple_index PySem.F.type_tuple_index zEF (pv 1) (zE (pv 0) zM))) zM)))
     (zS (zBn (zCB (zBx (zy GS4 hr rfl mSa FSa.kp bSa .nil zAt (zE (zy GPo hr rfl mPo FPo.kp bPo .nil zAt (zE (pv 9) (zE (pv 6) zM))) (zE (pv 8) zM))))) (zd (zAJ zCc)) zAh)
     (zS (zAa (i:=10) zDk.nd rfl (Or.inl rfl) (zy GBy hr rfl mBy FBy.kp bBy .nil zAt (zE (pv 3) (zE (pv 9) zM))))
     (zd (zBn (PW.pt (zEc (zCB (zBx (zy GS4 hr rfl mSa FSa.kp bSa .nil zAt (zE (zy GCd hr rfl mCd FCd.kp bCd .nil zAt (zE (pv 10) (zE (pv 6) zM))) (zE (zy GCu hr rfl mCu FCu.kp bCu .nil zAt (zE (pv 10) (zE (pv 6) zM))) zM)))))
      (zDb (zAN zFJ (zj (zGL hr) mRepr (zE (pv 3) zM)) (pv 4) (zAd _))))) (zd (zAJ zCc)) zAh))))))))))))
    (zd (zAJ zCc))),?_⟩
   refine⟨_,rfl,a,ns,rfl,hS,hlen,fun t H1 ht T1 s1=>?_⟩
   have B1:Tb H1 PT:=⟨#[],s1 _ _ hPT,trivial,.inl rfl⟩
   refine⟨2,rfl,by decide,by decide,zCU (lo:=0) (n:=2) (fun q σ H2=>∃v2 v3 v4 v5 v6 v7 v8 v9 v10:Option V,σ=[some (.ref a),some (.ref t),v2,v3,v4,v5,v6,v7,v8,v9,v10]/\zB1 H2 t (1000*q)/\Tb H2 PT) ⟨_,_,_,_,_,_,_,_,_,rfl,T1,B1⟩ (fun q σ H2 hq z=>?_) (fun σ H2 z=>?_)⟩
   . obtain⟨v2,v3,v4,v5,v6,v7,v8,v9,v10,rfl,T2,B2⟩:=z
     rw[zAn]
     clear T1 B1
     refine⟨_,rfl,t,_,8,rfl,T2,by omega,by decide,by decide,fun wa n ts H4 _ hnm W4 T4 s4=>?_⟩
     have B4:Tb H4 PT:=zG4 B2 T2 s4
     obtain⟨ta,tys,hwa,_,_,G⟩:=id W4
     have hn1:=G.n1
     have h11:n<=11:=by omega
     have fw:Fn 1048576 50 (zJh n ts):=(web_fn G).mono (by decide) (by decide)
     clear T2 B2 s4 hwa
     refine⟨_,rfl,_,_,rfl,zK4 W4,fw,?_⟩
     refine⟨_,rfl,wa,n,ts,rfl,W4,fun fl rs M H5 s5 _ hfl LR RR=>?_⟩
     have T5:=T4.keep s5
     have W5:=W4.keep s5
     have B5:=B4.same s5
     clear W4 T4 B4 s5
     refine⟨_,rfl,_,rfl,t,fl,_,rs,M,n,ts,rfl,T5,by omega,hfl,LR,RR,G,h11,fun pa ps H6 hpa C T6 s6=>?_⟩
     have dd:fl≠t/\∀r∈rs,r≠t:=by
      obtain⟨p,TP⟩:=T5
      exact zFt TP hfl LR RR hn1
     have R6:=zFD dd hfl LR s6
     have W6:=W5.keepT (zFe T5 s6)
     have B6:Tb H6 PT:=zG4 B5 T5 s6
     clear W5 B5 T5 s6 hfl LR
     obtain⟨ta6,tys6,hwa6,_,_,_⟩:=id W6
     refine⟨_,rfl,_,rfl,wa,_,_,.int n,rfl,rfl,SqT.of hwa6,rfl,_,rfl,t,pa,_,n,ps,rfl,T6,by omega,hpa,C.pr,h11,fun D ys H7 hD hyl al T7 s7=>?_⟩
     have R7:=zFD dd R6.1 R6.2 s7
     have W7:=W6.keepT (zFe T6 s7)
     have hpa7:=zFe T6 s7 _ _ hpa
     have B7:Tb H7 PT:=zG4 B6 T6 s7
     clear W6 B6 T6 s7 R6 hwa6 hpa
     refine⟨D,rfl,⟨_,SqL.of hD⟩,zDu (K:=K) (a:=D) (xs:=ys) (fun i σ H8=>∃v7 v8:Option V,σ=[some (.ref a),some (.ref t),some (.int q),some (.ref wa),some (.str (zJh n ts).shown),some (.ref fl),some (.ref pa),v7,v8,v9,v10]/\SmT H7 H8/\Tb H8 PT) ⟨_,_,rfl,SmT.of (zAw.refl _),B7⟩ (fun i σ H8 _ z=>?_) ?turn ?after⟩
     . obtain⟨_,_,_,s8,_⟩:=z
       exact SqL.of (s8.get hD (by intro ps z;cases z))
     case turn=>
      rintro i yv σ H8 hi ⟨v7,v8,rfl,s8,B8⟩
      obtain⟨d,Sd,sd⟩:=al yv (zU hi)
      have W8:=W7.keepT (zD0 s8)
      have S8:=zFo s8 Sd
      refine⟨_,rfl,_,rfl,fl,yv,d,rs,M,n,ts,rfl,s8.get R7.1 (by intro ps z;cases z),R7.2.smT s8,RR,G,h11,S8,sd,fun b H9 hb s9=>?_⟩
      refine⟨_,rfl,_,rfl,wa,yv,d,n,ts,rfl,W8.keep s9,zCO s9 S8,B8.same s9,fun b' H10 hb' s10 B10=>?_⟩
      have eb:b'=b:=Bool.eq_iff_iff.mpr (hb'.trans hb.symm)
      subst eb
      have s910:SmT H8 H10:=(SmT.of s9).trans s10
      have W10:=W8.keepT (zD0 s910)
      have S10:=zFo s910 S8
      refine⟨_,rfl,.bl b',rfl,.inl ⟨b',rfl⟩,fun H11 s11=>?_⟩
      refine⟨_,rfl,zCw ?_⟩
      have W11:=W10.keep s11
      have S11:=zCO s11 S10
      have B11:=B10.same s11
      have s7_11:=(s8.trans s910).trans (SmT.of s11)
      cases b' with
      | true=>
       obtain⟨ps',rfl,C'⟩:=hb.mp rfl
       obtain⟨pb,rfl,hpb⟩:∃pb,yv = .ref pb/\H11 pb=some (.tup (ps'.map V.int)):=by
        cases S11 with
        | tup e al=>
         have:=zEn al
         subst this
         exact⟨_,rfl,e⟩
       refine⟨_,rfl,_,rfl,.inl ⟨wa,pb,n,ts,ps',rfl,W11,hpb,C',B11,fun wb H12 s12 B12 W12=>?_⟩⟩
       have tk12:=zD0 s12
       refine⟨_,rfl,true,rfl,zCt ?_⟩
       refine⟨_,rfl,_,rfl,wa,pb,n,ts,ps',rfl,W11.keepT tk12,tk12 _ _ hpb,C'.pr,fun wc H13 s13 W13=>?_⟩
       refine .inr ⟨_,_,rfl,sm_web (W12.keep s13) W13,fun H14 s14=>?_⟩
       exact⟨_,rfl,zCw ⟨_,_,rfl,(s7_11.trans s12).trans (SmT.of (s13.trans s14)),B12.same (s13.trans s14)⟩⟩
      | false=>
       have no:¬ zJZ ts n d:=fun z=>by have:=hb.mpr z;cases this
       refine⟨_,rfl,_,rfl,.inr ⟨wa,yv,d,n,ts,rfl,W11,S11,no,B11,fun H12 s12 B12=>?_⟩⟩
       refine⟨_,rfl,false,rfl,zCw ?_⟩
       refine .inl ⟨.str "refused",rfl,.inr ⟨_,rfl⟩,fun H13 s13=>?_⟩
       exact⟨_,rfl,zCw ⟨_,_,rfl,(s7_11.trans s12).trans (SmT.of s13),B12.same s13⟩⟩
     case after=>
      rintro σ H8 ⟨v7,v8,rfl,s8,B8⟩
      have tk8:=zD0 s8
      have W8:=W7.keepT tk8
      have hpa8:=tk8 _ _ hpa7
      have T8:=T7.smT s8
      clear s8 tk8 W7 hpa7 T7 B7 R7 hD al
      obtain⟨ta8,tys8,hwa8,_,_,_⟩:=id W8
      refine⟨_,rfl,_,rfl,wa,_,_,.int n,rfl,rfl,SqT.of hwa8,rfl,t,_,n,rfl,T8,by omega,by omega,by omega,fun oa os H9 _ hoa hpm T9 s9=>?_⟩
      have B9:Tb H9 PT:=zG4 B8 T8 s9
      have W9:zBw H9 wa n ts:=W8.keepT (zFe T8 s9)
      have hpa9:=zFe T8 s9 _ _ hpa8
      have O:=ord_of hpm (by omega)
      have hol:=O.ln
      clear B8 W8 T8 s9 hpa8 hwa8
      have PR:=C.pr
      refine⟨_,rfl,oa,rfl,⟨_,SqT.of hoa⟩,[.ref pa],rfl,fun D2 hD2=>?_⟩
      refine zCE (a:=oa) (xs:=os.map V.int) (fun i ys H4=>ys=(zE2 ps (os.take i)).map V.int/\H4=upd H9 D2 (.lst ys)) ⟨rfl,rfl⟩ (fun i ys H4 z=>?_) (fun i ys H4 z=>?_) (fun i v ys H4 hv z=>?_) (fun ys H4 z=>?_)
      . obtain⟨_,rfl⟩:=z
        exact SqT.of (zH hD2 _ _ hoa)
      . obtain⟨rfl,_⟩:=z
        have h2:=zo (fun p=>decide (p∈ps)) (os.take i)
        rw[zw] at h2
        unfold zE2
        rw[zB,zB]
        exact zl (by omega)
      . obtain⟨rfl,rfl⟩:=z
        obtain⟨p,hp,rfl⟩:=int_at hv
        have hpa4:=zH (o:=.lst ((zE2 ps (os.take i)).map V.int)) hD2 _ _ hpa9
        have st:=zCd (fun p:Int=>decide (p∈ps)) hp
        refine⟨⟨rfl,rfl⟩,?_⟩
        refine⟨_,rfl,_,rfl,pa,_,rfl,.inr (SqT.of hpa4),rfl,zBJ _,_,rfl,?_⟩
        show if inV (.int p) (ps.map V.int)=true then _ else _
        rw[zBl]
        refine zCz (fun c=>?_) (fun c=>?_)
        . obtain⟨j,hj,nj,ej⟩:=zCq PR.nd (of_decide_eq_true c)
          refine⟨_,rfl,⟨pa,_,rfl,hpa4⟩,_,rfl,pa,ps,j,p,rfl,rfl,SqT.of hpa4,hj,nj,zJ,?_,zB8⟩
          unfold zE2
          rw[st,if_pos c,zR,zR,ej];rfl
        . refine⟨?_,rfl⟩
          unfold zE2
          rw[st,if_neg c,zt]
      obtain⟨rfl,rfl⟩:=z
      rw[zB,zY (zI _)]
      refine⟨D2,_,rfl,.inl ⟨SqL.of zJ,fun ob hob=>?_⟩⟩
      have s10:=(zH (o:=.lst ((zE2 ps os).map V.int)) hD2).trans (zH (o:=.tup ((zE2 ps os).map V.int)) hob)
      have hob10:(upd (upd H9 D2 (.lst ((zE2 ps os).map V.int))) ob (.tup ((zE2 ps os).map V.int))) ob=some (.tup ((zE2 ps os).map V.int)):=zJ
      generalize upd (upd H9 D2 (.lst ((zE2 ps os).map V.int))) ob (.tup ((zE2 ps os).map V.int))=H10 at s10 hob10 ⊢
      refine⟨_,rfl,_,rfl,oa,pa,n,os,ps,rfl,s10 _ _ hoa,s10 _ _ hpa9,by omega,PR,fun oc H11 s11 hoc=>?_⟩
      have hcl:(zE2 ps os).length<=1000:=by
       have h2:=zo (fun p=>decide (p∈ps)) os
       unfold zE2
       rw[zB]
       omega
      refine⟨_,rfl,_,_,rfl,zH7 hoc (s11 _ _ hob10) hcl,fun H12 s12=>?_⟩
      refine⟨_,rfl,zCw ?_⟩
      have s9_12:=s10.trans (s11.trans s12)
      refine⟨_,rfl,_,rfl,wa,oa,n,ts,os,rfl,W9.keep s9_12,s9_12 _ _ hoa,O,B9.same s9_12,fun lb ess rk H14 s14 B14 L14 R14 LO _=>?_⟩
      have tk14:∀b ys,H9 b=some (.tup ys)->H14 b=some (.tup ys):=fun b ys e=>zD0 s14 b ys (s9_12 _ _ e)
      have hpa14:=tk14 _ _ hpa9
      have hpl:=PR.len
      have ck:=cut_ok G C LO
      refine⟨_,rfl,_,rfl,lb,pa,ps,ess,rfl,hpa14,L14,PR.nd,by omega,ck,fun q1 H15 s15 L15=>?_⟩
      refine⟨_,rfl,_,rfl,lb,pa,ps,ess,rfl,s15 _ _ hpa14,L14.keep (fun b ys e=>s15 _ _ e),PR.nd,by omega,ck,own_ok G C LO,fun q2 H16 s16 L16=>?_⟩
      refine⟨_,_,rfl,zLl (L15.keep fun b ys e=>s16 _ _ e) L16 (by unfold zFS;rw[zB];omega),fun H17 s17=>?_⟩
      refine⟨_,rfl,zCw ?_⟩
      have s14_17:=s15.trans (s16.trans s17)
      have W17:zBw H17 wa n ts:=W9.keepT fun b ys e=>s14_17 _ _ (tk14 b ys e)
      refine⟨_,rfl,_,_,rfl,zK4 W17,fw,_,rfl,rfl,_,rfl,ifF (by rw[zW rfl];rfl) ?_⟩
      refine⟨_,_,_,_,_,_,_,_,_,rfl,?_,B14.same s14_17⟩
      exact (((T9.keep s9_12).smT s14).keep s14_17).mono (by omega)
   . obtain⟨v2,v3,v4,v5,v6,v7,v8,v9,v10,rfl,T2,B2⟩:=z
     exact kF _
end K67
namespace K67
open PySem L2 WM
variable {P:Program}{w:World}{K:PySem.W.Frag}{mg:sOV}{base:Heap}{PT:Addr}{X:Cx}
noncomputable abbrev sT:String->Str:=Str.ofString
noncomputable abbrev kH:=PyData.keyHash
noncomputable abbrev dE:=DictEntry.mk
noncomputable abbrev vS:=Value.str
noncomputable abbrev vI:=Value.int
noncomputable abbrev vR:=Value.ref
noncomputable abbrev vB:=Value.bool
noncomputable abbrev vN:Value:=Value.none
noncomputable abbrev vT:=Value.type
noncomputable abbrev oM:=Obj.mk
noncomputable abbrev cQ (x:Array Value):Obj:=oM (vT "code") .none (.fields x) #[]
noncomputable abbrev fQ (x:FuncData):Obj:=oM (vT "function") .none (.func x) #[]
noncomputable abbrev fT (x:String)(i:Nat)(m:Value)(c:Nat):Obj:=fQ (.mk (sT x) (sT x) (L2.defArgs (top i)) (FuncBody.stmts (L2.defBody (top i))) (L2.defScope (top i)) 3 [] vN vN vN m .none (vR c) vN 0)
noncomputable abbrev qS (x:String)(n:Nat):Value:=vS (sT x) n
noncomputable abbrev kE (P:Params)(x:String)(n:Nat):Value->DictEntry:=dE (kH P (sT x)) (qS x n)
noncomputable def Kf:Params->PySem.W.Frag:=fun P=>[
(2,oM vN .none (Data.dict #[]) #[]),
(3,oM (vT "dict") .none (Data.dict #[kE P "__name__" 165 (qS "law_labelways_k67_parts" 637),kE P "__doc__" 166 vN,kE P "__package__" 167 vN,kE P "__loader__" 168 (Value.builtin "__main__.__loader__#opaque"),kE P "__spec__" 169 vN,kE P "__annotations__" 170 (vR 6),kE P "__builtins__" 171 (vR 4),kE P "__file__" 173 (qS "/claim/cut.py" 172),kE P "__cached__" 174 vN,kE P "WayError" 206 (vR 24),kE P "NoLabels" 233 (vR 44),kE P "NoLeast" 260 (vR 63),kE P "NoPlan" 287 (vR 82),kE P "NoText" 314 (vR 101),kE P "NoOrder" 330 (vR 113),kE P "NoTree" 346 (vR 125),kE P "NoRing" 362 (vR 137),kE P "NoPosts" 378 (vR 149),kE P "NoTie" 394 (vR 161),kE P "NoPart" 410 (vR 173),kE P "NoRow" 426 (vR 185),kE P "TooMany" 442 (vR 197),kE P "is_number" 451 (vR 206),kE P "is_within" 460 (vR 213),kE P "is_tuple_of" 468 (vR 220),kE P "is_rising" 474 (vR 225),kE P "is_place" 482 (vR 232),kE P "are_places" 488 (vR 237),kE P "ties_at" 502 (vR 244),kE P "lengths" 510 (vR 249),kE P "lengths_from" 524 (vR 256),kE P "nearest" 532 (vR 263),kE P "between_rows" 538 (vR 268),kE P "next_by_row" 544 (vR 273),kE P "is_part" 552 (vR 278),kE P "holds_ways_from" 558 (vR 283),kE P "part_web" 564 (vR 288),kE P "new_tie" 572 (vR 295),kE P "part_order" 578 (vR 300),kE P "cut_down" 584 (vR 305),kE P "cut_label" 590 (vR 310),kE P "new_entry" 598 (vR 317),kE P "is_order" 606 (vR 322),kE P "by_order" 612 (vR 327),kE P "label_by_ranks" 618 (vR 332),kE P "is_hub" 624 (vR 337),kE P "entry_by_rows" 636 (vR 344),kE P "_law_feed" 645 (vR 351),kE P "_law_take" 657 (vR 358),kE P "_law_same" 663 (vR 363),kE P "_law_web" 669 (vR 368),kE P "_law_rows" 675 (vR 373),kE P "_law_order" 685 (vR 380),kE P "_law_lacks" 691 (vR 385),kE P "_law_part" 697 (vR 390),kE P "_law_things" 703 (vR 395),kE P "_law_is_part" 712 (vR 402),kE P "_law_told" 722 (vR 409),kE P "_law_web_due" 734 (vR 416),kE P "_law_cut_due" 749 (vR 423),kE P "law" 755 (vR 428)] 61) #[]),
(23,oM (vT "dict") .none (Data.dict #[kE P "__module__" 196 (qS "labelways.errors" 187),kE P "__firstlineno__" 200 (vI 2 199),kE P "__static_attributes__" 201 (vR 22),kE P "__weakref__" 203 (vR 25),kE P "__doc__" 204 vN] 3) #[]),
(24,oM (vT "type") .none (Data.cls (ClassData.mk (sT "WayError") [vT "ValueError"] [vR 24,vT "ValueError",vT "Exception",vT "BaseException",vT "object"] 23 (sT "WayError") true [] [vR 44,vR 63,vR 82,vR 101,vR 113,vR 125,vR 137,vR 149,vR 161,vR 173,vR 185,vR 197] false .none false)) #[.some (vR 15),.none,.some (qS "WayError" 189),.some (qS "WayError" 197),.some (Value.builtin "ValueError.__new__"),.some (vB true)]),
(25,oM (vT "getset_descriptor") .none (Data.fields #[qS "__weakref__" 202,vR 24,Value.builtin "ExceptionGroup.__weakref__",vN]) #[]),
(40,cQ #[qS "__init__" 219,qS "NoLabels.__init__" 220,qS "/claim/cut.py" 221,vI 6 0,vI 3 0,vI 0 0,vI 0 0,vI 3 0,vR 35,vB true,vI 181 0,vR 36,vN,vR 37,vR 38,vR 39,vI 225 0,vI 6 0,qS "/claim/cut.py" 226]),
(41,fQ (.mk (sT "__init__") (sT "NoLabels.__init__") (Arguments.mk [] [Arg.mk (sT "self") .none (Pos.mk 6 17 6 21),Arg.mk (sT "word") .none (Pos.mk 6 23 6 27),Arg.mk (sT "at") .none (Pos.mk 6 29 6 31)] .none [] [] .none []) (FuncBody.stmts [Stmt.Assign [Expr.Attribute (Expr.Name (sT "self") (Pos.mk 7 8 7 12)) (sT "word") (Pos.mk 7 8 7 17)] (Expr.Name (sT "word") (Pos.mk 7 20 7 24)) (Pos.mk 7 8 7 24),Stmt.Assign [Expr.Attribute (Expr.Name (sT "self") (Pos.mk 8 8 8 12)) (sT "at") (Pos.mk 8 8 8 15)] (Expr.Name (sT "at") (Pos.mk 8 18 8 20)) (Pos.mk 8 8 8 20)]) (Scope.mk ScopeKind.function [(sT "self",NameKind.local),(sT "word",NameKind.local),(sT "at",NameKind.local)] false false []) 3 [] vN vN vN (qS "labelways.errors" 187) .none (vR 40) vN 0)),
(43,oM (vT "dict") .none (Data.dict #[kE P "__module__" 214 (qS "labelways.errors" 187),kE P "__firstlineno__" 218 (vI 4 217),kE P "__init__" 227 (vR 41),kE P "__static_attributes__" 230 (vR 42),kE P "__doc__" 231 vN] 2) #[]),
(44,oM (vT "type") .none (Data.cls (ClassData.mk (sT "NoLabels") [vR 24] [vR 44,vR 24,vT "ValueError",vT "Exception",vT "BaseException",vT "object"] 43 (sT "NoLabels") true [] [] false .none false)) #[.some (vR 28),.none,.some (qS "NoLabels" 207),.some (qS "NoLabels" 215),.some (Value.builtin "ValueError.__new__"),.some (vB true)]),
(59,cQ #[qS "__init__" 246,qS "NoLeast.__init__" 247,qS "/claim/cut.py" 248,vI 11 0,vI 3 0,vI 0 0,vI 0 0,vI 3 0,vR 54,vB true,vI 181 0,vR 55,vN,vR 56,vR 57,vR 58,vI 252 0,vI 11 0,qS "/claim/cut.py" 253]),
(60,fQ (.mk (sT "__init__") (sT "NoLeast.__init__") (Arguments.mk [] [Arg.mk (sT "self") .none (Pos.mk 11 17 11 21),Arg.mk (sT "word") .none (Pos.mk 11 23 11 27),Arg.mk (sT "at") .none (Pos.mk 11 29 11 31)] .none [] [] .none []) (FuncBody.stmts [Stmt.Assign [Expr.Attribute (Expr.Name (sT "self") (Pos.mk 12 8 12 12)) (sT "word") (Pos.mk 12 8 12 17)] (Expr.Name (sT "word") (Pos.mk 12 20 12 24)) (Pos.mk 12 8 12 24),Stmt.Assign [Expr.Attribute (Expr.Name (sT "self") (Pos.mk 13 8 13 12)) (sT "at") (Pos.mk 13 8 13 15)] (Expr.Name (sT "at") (Pos.mk 13 18 13 20)) (Pos.mk 13 8 13 20)]) (Scope.mk ScopeKind.function [(sT "self",NameKind.local),(sT "word",NameKind.local),(sT "at",NameKind.local)] false false []) 3 [] vN vN vN (qS "labelways.errors" 187) .none (vR 59) vN 0)),
(62,oM (vT "dict") .none (Data.dict #[kE P "__module__" 241 (qS "labelways.errors" 187),kE P "__firstlineno__" 245 (vI 9 244),kE P "__init__" 254 (vR 60),kE P "__static_attributes__" 257 (vR 61),kE P "__doc__" 258 vN] 2) #[]),
(63,oM (vT "type") .none (Data.cls (ClassData.mk (sT "NoLeast") [vR 24] [vR 63,vR 24,vT "ValueError",vT "Exception",vT "BaseException",vT "object"] 62 (sT "NoLeast") true [] [] false .none false)) #[.some (vR 47),.none,.some (qS "NoLeast" 234),.some (qS "NoLeast" 242),.some (Value.builtin "ValueError.__new__"),.some (vB true)]),
(78,cQ #[qS "__init__" 273,qS "NoPlan.__init__" 274,qS "/claim/cut.py" 275,vI 16 0,vI 3 0,vI 0 0,vI 0 0,vI 3 0,vR 73,vB true,vI 181 0,vR 74,vN,vR 75,vR 76,vR 77,vI 279 0,vI 16 0,qS "/claim/cut.py" 280]),
(79,fQ (.mk (sT "__init__") (sT "NoPlan.__init__") (Arguments.mk [] [Arg.mk (sT "self") .none (Pos.mk 16 17 16 21),Arg.mk (sT "word") .none (Pos.mk 16 23 16 27),Arg.mk (sT "at") .none (Pos.mk 16 29 16 31)] .none [] [] .none []) (FuncBody.stmts [Stmt.Assign [Expr.Attribute (Expr.Name (sT "self") (Pos.mk 17 8 17 12)) (sT "word") (Pos.mk 17 8 17 17)] (Expr.Name (sT "word") (Pos.mk 17 20 17 24)) (Pos.mk 17 8 17 24),Stmt.Assign [Expr.Attribute (Expr.Name (sT "self") (Pos.mk 18 8 18 12)) (sT "at") (Pos.mk 18 8 18 15)] (Expr.Name (sT "at") (Pos.mk 18 18 18 20)) (Pos.mk 18 8 18 20)]) (Scope.mk ScopeKind.function [(sT "self",NameKind.local),(sT "word",NameKind.local),(sT "at",NameKind.local)] false false []) 3 [] vN vN vN (qS "labelways.errors" 187) .none (vR 78) vN 0)),
(81,oM (vT "dict") .none (Data.dict #[kE P "__module__" 268 (qS "labelways.errors" 187),kE P "__firstlineno__" 272 (vI 14 271),kE P "__init__" 281 (vR 79),kE P "__static_attributes__" 284 (vR 80),kE P "__doc__" 285 vN] 2) #[]),
(82,oM (vT "type") .none (Data.cls (ClassData.mk (sT "NoPlan") [vR 24] [vR 82,vR 24,vT "ValueError",vT "Exception",vT "BaseException",vT "object"] 81 (sT "NoPlan") true [] [] false .none false)) #[.some (vR 66),.none,.some (qS "NoPlan" 261),.some (qS "NoPlan" 269),.some (Value.builtin "ValueError.__new__"),.some (vB true)]),
(97,cQ #[qS "__init__" 300,qS "NoText.__init__" 301,qS "/claim/cut.py" 302,vI 21 0,vI 3 0,vI 0 0,vI 0 0,vI 3 0,vR 92,vB true,vI 181 0,vR 93,vN,vR 94,vR 95,vR 96,vI 306 0,vI 21 0,qS "/claim/cut.py" 307]),
(98,fQ (.mk (sT "__init__") (sT "NoText.__init__") (Arguments.mk [] [Arg.mk (sT "self") .none (Pos.mk 21 17 21 21),Arg.mk (sT "line") .none (Pos.mk 21 23 21 27),Arg.mk (sT "word") .none (Pos.mk 21 29 21 33)] .none [] [] .none []) (FuncBody.stmts [Stmt.Assign [Expr.Attribute (Expr.Name (sT "self") (Pos.mk 22 8 22 12)) (sT "line") (Pos.mk 22 8 22 17)] (Expr.Name (sT "line") (Pos.mk 22 20 22 24)) (Pos.mk 22 8 22 24),Stmt.Assign [Expr.Attribute (Expr.Name (sT "self") (Pos.mk 23 8 23 12)) (sT "word") (Pos.mk 23 8 23 17)] (Expr.Name (sT "word") (Pos.mk 23 20 23 24)) (Pos.mk 23 8 23 24)]) (Scope.mk ScopeKind.function [(sT "self",NameKind.local),(sT "line",NameKind.local),(sT "word",NameKind.local)] false false []) 3 [] vN vN vN (qS "labelways.errors" 187) .none (vR 97) vN 0)),
(100,oM (vT "dict") .none (Data.dict #[kE P "__module__" 295 (qS "labelways.errors" 187),kE P "__firstlineno__" 299 (vI 19 298),kE P "__init__" 308 (vR 98),kE P "__static_attributes__" 311 (vR 99),kE P "__doc__" 312 vN] 2) #[]),
(101,oM (vT "type") .none (Data.cls (ClassData.mk (sT "NoText") [vR 24] [vR 101,vR 24,vT "ValueError",vT "Exception",vT "BaseException",vT "object"] 100 (sT "NoText") true [] [] false .none false)) #[.some (vR 85),.none,.some (qS "NoText" 288),.some (qS "NoText" 296),.some (Value.builtin "ValueError.__new__"),.some (vB true)]),
(112,oM (vT "dict") .none (Data.dict #[kE P "__module__" 322 (qS "labelways.errors" 187),kE P "__firstlineno__" 326 (vI 24 325),kE P "__static_attributes__" 327 (vR 111),kE P "__doc__" 328 vN] 2) #[]),
(113,oM (vT "type") .none (Data.cls (ClassData.mk (sT "NoOrder") [vR 24] [vR 113,vR 24,vT "ValueError",vT "Exception",vT "BaseException",vT "object"] 112 (sT "NoOrder") true [] [] false .none false)) #[.some (vR 104),.none,.some (qS "NoOrder" 315),.some (qS "NoOrder" 323),.some (Value.builtin "ValueError.__new__"),.some (vB true)]),
(124,oM (vT "dict") .none (Data.dict #[kE P "__module__" 338 (qS "labelways.errors" 187),kE P "__firstlineno__" 342 (vI 26 341),kE P "__static_attributes__" 343 (vR 123),kE P "__doc__" 344 vN] 2) #[]),
(125,oM (vT "type") .none (Data.cls (ClassData.mk (sT "NoTree") [vR 24] [vR 125,vR 24,vT "ValueError",vT "Exception",vT "BaseException",vT "object"] 124 (sT "NoTree") true [] [] false .none false)) #[.some (vR 116),.none,.some (qS "NoTree" 331),.some (qS "NoTree" 339),.some (Value.builtin "ValueError.__new__"),.some (vB true)]),
(136,oM (vT "dict") .none (Data.dict #[kE P "__module__" 354 (qS "labelways.errors" 187),kE P "__firstlineno__" 358 (vI 28 357),kE P "__static_attributes__" 359 (vR 135),kE P "__doc__" 360 vN] 2) #[]),
(137,oM (vT "type") .none (Data.cls (ClassData.mk (sT "NoRing") [vR 24] [vR 137,vR 24,vT "ValueError",vT "Exception",vT "BaseException",vT "object"] 136 (sT "NoRing") true [] [] false .none false)) #[.some (vR 128),.none,.some (qS "NoRing" 347),.some (qS "NoRing" 355),.some (Value.builtin "ValueError.__new__"),.some (vB true)]),
(148,oM (vT "dict") .none (Data.dict #[kE P "__module__" 370 (qS "labelways.errors" 187),kE P "__firstlineno__" 374 (vI 30 373),kE P "__static_attributes__" 375 (vR 147),kE P "__doc__" 376 vN] 2) #[]),
(149,oM (vT "type") .none (Data.cls (ClassData.mk (sT "NoPosts") [vR 24] [vR 149,vR 24,vT "ValueError",vT "Exception",vT "BaseException",vT "object"] 148 (sT "NoPosts") true [] [] false .none false)) #[.some (vR 140),.none,.some (qS "NoPosts" 363),.some (qS "NoPosts" 371),.some (Value.builtin "ValueError.__new__"),.some (vB true)]),
(160,oM (vT "dict") .none (Data.dict #[kE P "__module__" 386 (qS "labelways.errors" 187),kE P "__firstlineno__" 390 (vI 32 389),kE P "__static_attributes__" 391 (vR 159),kE P "__doc__" 392 vN] 2) #[]),
(161,oM (vT "type") .none (Data.cls (ClassData.mk (sT "NoTie") [vR 24] [vR 161,vR 24,vT "ValueError",vT "Exception",vT "BaseException",vT "object"] 160 (sT "NoTie") true [] [] false .none false)) #[.some (vR 152),.none,.some (qS "NoTie" 379),.some (qS "NoTie" 387),.some (Value.builtin "ValueError.__new__"),.some (vB true)]),
(172,oM (vT "dict") .none (Data.dict #[kE P "__module__" 402 (qS "labelways.errors" 187),kE P "__firstlineno__" 406 (vI 34 405),kE P "__static_attributes__" 407 (vR 171),kE P "__doc__" 408 vN] 2) #[]),
(173,oM (vT "type") .none (Data.cls (ClassData.mk (sT "NoPart") [vR 24] [vR 173,vR 24,vT "ValueError",vT "Exception",vT "BaseException",vT "object"] 172 (sT "NoPart") true [] [] false .none false)) #[.some (vR 164),.none,.some (qS "NoPart" 395),.some (qS "NoPart" 403),.some (Value.builtin "ValueError.__new__"),.some (vB true)]),
(184,oM (vT "dict") .none (Data.dict #[kE P "__module__" 418 (qS "labelways.errors" 187),kE P "__firstlineno__" 422 (vI 36 421),kE P "__static_attributes__" 423 (vR 183),kE P "__doc__" 424 vN] 2) #[]),
(185,oM (vT "type") .none (Data.cls (ClassData.mk (sT "NoRow") [vR 24] [vR 185,vR 24,vT "ValueError",vT "Exception",vT "BaseException",vT "object"] 184 (sT "NoRow") true [] [] false .none false)) #[.some (vR 176),.none,.some (qS "NoRow" 411),.some (qS "NoRow" 419),.some (Value.builtin "ValueError.__new__"),.some (vB true)]),
(196,oM (vT "dict") .none (Data.dict #[kE P "__module__" 434 (qS "labelways.errors" 187),kE P "__firstlineno__" 438 (vI 38 437),kE P "__static_attributes__" 439 (vR 195),kE P "__doc__" 440 vN] 2) #[]),
(197,oM (vT "type") .none (Data.cls (ClassData.mk (sT "TooMany") [vR 24] [vR 197,vR 24,vT "ValueError",vT "Exception",vT "BaseException",vT "object"] 196 (sT "TooMany") true [] [] false .none false)) #[.some (vR 188),.none,.some (qS "TooMany" 427),.some (qS "TooMany" 435),.some (Value.builtin "ValueError.__new__"),.some (vB true)]),
(205,cQ #[qS "is_number" 445,qS "is_number" 446,qS "/claim/cut.py" 447,vI 41 0,vI 1 0,vI 0 0,vI 0 0,vI 3 0,vR 200,vB true,vI 181 0,vR 201,vN,vR 202,vR 203,vR 204,vI 449 0,vI 41 0,qS "/claim/cut.py" 450]),
(206,fQ (.mk (sT "is_number") (sT "is_number") (L2.defArgs (top 15)) (FuncBody.stmts (L2.defBody (top 15))) (L2.defScope (top 15)) 3 [] vN vN vN (qS "labelways.kinds" 443) .none (vR 205) vN 0)),
(212,cQ #[qS "is_within" 452,qS "is_within" 453,qS "/claim/cut.py" 454,vI 43 0,vI 3 0,vI 0 0,vI 0 0,vI 3 0,vR 207,vB true,vI 181 0,vR 208,vN,vR 209,vR 210,vR 211,vI 458 0,vI 43 0,qS "/claim/cut.py" 459]),
(213,fQ (.mk (sT "is_within") (sT "is_within") (L2.defArgs (top 16)) (FuncBody.stmts (L2.defBody (top 16))) (L2.defScope (top 16)) 3 [] vN vN vN (qS "labelways.kinds" 443) .none (vR 212) vN 0)),
(219,cQ #[qS "is_tuple_of" 461,qS "is_tuple_of" 462,qS "/claim/cut.py" 463,vI 45 0,vI 2 0,vI 0 0,vI 0 0,vI 3 0,vR 214,vB true,vI 181 0,vR 215,vN,vR 216,vR 217,vR 218,vI 466 0,vI 45 0,qS "/claim/cut.py" 467]),
(220,fQ (.mk (sT "is_tuple_of") (sT "is_tuple_of") (L2.defArgs (top 17)) (FuncBody.stmts (L2.defBody (top 17))) (L2.defScope (top 17)) 3 [] vN vN vN (qS "labelways.kinds" 443) .none (vR 219) vN 0)),
(224,cQ #[qS "is_rising" 469,qS "is_rising" 470,qS "/claim/cut.py" 471,vI 47 0,vI 1 0,vI 0 0,vI 0 0,vI 3 0,vR 221,vB true,vI 181 0,vR 222,vN,vN,vN,vR 223,vI 472 0,vI 47 0,qS "/claim/cut.py" 473]),
(225,fQ (.mk (sT "is_rising") (sT "is_rising") (L2.defArgs (top 18)) (FuncBody.stmts (L2.defBody (top 18))) (L2.defScope (top 18)) 3 [] vN vN vN (qS "labelways.kinds" 443) .none (vR 224) vN 0)),
(231,cQ #[qS "is_place" 475,qS "is_place" 476,qS "/claim/cut.py" 477,vI 49 0,vI 2 0,vI 0 0,vI 0 0,vI 3 0,vR 226,vB true,vI 181 0,vR 227,vN,vR 228,vR 229,vR 230,vI 480 0,vI 49 0,qS "/claim/cut.py" 481]),
(232,fQ (.mk (sT "is_place") (sT "is_place") (L2.defArgs (top 19)) (FuncBody.stmts (L2.defBody (top 19))) (L2.defScope (top 19)) 3 [] vN vN vN (qS "labelways.kinds" 443) .none (vR 231) vN 0)),
(236,cQ #[qS "are_places" 483,qS "are_places" 484,qS "/claim/cut.py" 485,vI 51 0,vI 2 0,vI 0 0,vI 0 0,vI 3 0,vR 233,vB true,vI 181 0,vR 234,vN,vN,vN,vR 235,vI 486 0,vI 51 0,qS "/claim/cut.py" 487]),
(237,fQ (.mk (sT "are_places") (sT "are_places") (L2.defArgs (top 20)) (FuncBody.stmts (L2.defBody (top 20))) (L2.defScope (top 20)) 3 [] vN vN vN (qS "labelways.kinds" 443) .none (vR 236) vN 0)),
(243,cQ #[qS "ties_at" 491,qS "ties_at" 492,qS "/claim/cut.py" 493,vI 56 0,vI 2 0,vI 0 0,vI 0 0,vI 3 0,vR 238,vB true,vI 181 0,vR 239,vN,vR 240,vR 241,vR 242,vI 500 0,vI 56 0,qS "/claim/cut.py" 501]),
(244,fQ (.mk (sT "ties_at") (sT "ties_at") (L2.defArgs (top 22)) (FuncBody.stmts (L2.defBody (top 22))) (L2.defScope (top 22)) 3 [] vN vN vN (qS "labelways.webs" 489) .none (vR 243) vN 0)),
(248,cQ #[qS "lengths" 505,qS "lengths" 506,qS "/claim/cut.py" 507,vI 65 0,vI 1 0,vI 0 0,vI 0 0,vI 3 0,vR 245,vB true,vI 181 0,vR 246,vN,vN,vN,vR 247,vI 508 0,vI 65 0,qS "/claim/cut.py" 509]),
(249,fQ (.mk (sT "lengths") (sT "lengths") (L2.defArgs (top 24)) (FuncBody.stmts (L2.defBody (top 24))) (L2.defScope (top 24)) 3 [] vN vN vN (qS "labelways.lengths" 503) .none (vR 248) vN 0)),
(255,cQ #[qS "lengths_from" 511,qS "lengths_from" 512,qS "/claim/cut.py" 513,vI 67 0,vI 2 0,vI 0 0,vI 0 0,vI 3 0,vR 250,vB true,vI 181 0,vR 251,vN,vR 252,vR 253,vR 254,vI 522 0,vI 67 0,qS "/claim/cut.py" 523]),
(256,fQ (.mk (sT "lengths_from") (sT "lengths_from") (L2.defArgs (top 25)) (FuncBody.stmts (L2.defBody (top 25))) (L2.defScope (top 25)) 3 [] vN vN vN (qS "labelways.lengths" 503) .none (vR 255) vN 0)),
(262,cQ #[qS "nearest" 525,qS "nearest" 526,qS "/claim/cut.py" 527,vI 78 0,vI 1 0,vI 0 0,vI 0 0,vI 3 0,vR 257,vB true,vI 181 0,vR 258,vN,vR 259,vR 260,vR 261,vI 530 0,vI 78 0,qS "/claim/cut.py" 531]),
(263,fQ (.mk (sT "nearest") (sT "nearest") (L2.defArgs (top 26)) (FuncBody.stmts (L2.defBody (top 26))) (L2.defScope (top 26)) 3 [] vN vN vN (qS "labelways.lengths" 503) .none (vR 262) vN 0)),
(267,cQ #[qS "between_rows" 533,qS "between_rows" 534,qS "/claim/cut.py" 535,vI 80 0,vI 3 0,vI 0 0,vI 0 0,vI 3 0,vR 264,vB true,vI 181 0,vR 265,vN,vN,vN,vR 266,vI 536 0,vI 80 0,qS "/claim/cut.py" 537]),
(268,fQ (.mk (sT "between_rows") (sT "between_rows") (L2.defArgs (top 27)) (FuncBody.stmts (L2.defBody (top 27))) (L2.defScope (top 27)) 3 [] vN vN vN (qS "labelways.lengths" 503) .none (vR 267) vN 0)),
(272,cQ #[qS "next_by_row" 539,qS "next_by_row" 540,qS "/claim/cut.py" 541,vI 85 0,vI 3 0,vI 0 0,vI 0 0,vI 3 0,vR 269,vB true,vI 181 0,vR 270,vN,vN,vN,vR 271,vI 542 0,vI 85 0,qS "/claim/cut.py" 543]),
(273,fQ (.mk (sT "next_by_row") (sT "next_by_row") (L2.defArgs (top 28)) (FuncBody.stmts (L2.defBody (top 28))) (L2.defScope (top 28)) 3 [] vN vN vN (qS "labelways.lengths" 503) .none (vR 272) vN 0)),
(277,cQ #[qS "is_part" 547,qS "is_part" 548,qS "/claim/cut.py" 549,vI 90 0,vI 2 0,vI 0 0,vI 0 0,vI 3 0,vR 274,vB true,vI 181 0,vR 275,vN,vN,vN,vR 276,vI 550 0,vI 90 0,qS "/claim/cut.py" 551]),
(278,fQ (.mk (sT "is_part") (sT "is_part") (L2.defArgs (top 30)) (FuncBody.stmts (L2.defBody (top 30))) (L2.defScope (top 30)) 3 [] vN vN vN (qS "labelways.parts" 545) .none (vR 277) vN 0)),
(282,cQ #[qS "holds_ways_from" 553,qS "holds_ways_from" 554,qS "/claim/cut.py" 555,vI 95 0,vI 3 0,vI 0 0,vI 0 0,vI 3 0,vR 279,vB true,vI 181 0,vR 280,vN,vN,vN,vR 281,vI 556 0,vI 95 0,qS "/claim/cut.py" 557]),
(283,fQ (.mk (sT "holds_ways_from") (sT "holds_ways_from") (L2.defArgs (top 31)) (FuncBody.stmts (L2.defBody (top 31))) (L2.defScope (top 31)) 3 [] vN vN vN (qS "labelways.parts" 545) .none (vR 282) vN 0)),
(287,cQ #[qS "part_web" 559,qS "part_web" 560,qS "/claim/cut.py" 561,vI 100 0,vI 2 0,vI 0 0,vI 0 0,vI 3 0,vR 284,vB true,vI 181 0,vR 285,vN,vN,vN,vR 286,vI 562 0,vI 100 0,qS "/claim/cut.py" 563]),
(288,fQ (.mk (sT "part_web") (sT "part_web") (L2.defArgs (top 32)) (FuncBody.stmts (L2.defBody (top 32))) (L2.defScope (top 32)) 3 [] vN vN vN (qS "labelways.parts" 545) .none (vR 287) vN 0)),
(294,cQ #[qS "new_tie" 565,qS "new_tie" 566,qS "/claim/cut.py" 567,vI 105 0,vI 2 0,vI 0 0,vI 0 0,vI 3 0,vR 289,vB true,vI 181 0,vR 290,vN,vR 291,vR 292,vR 293,vI 570 0,vI 105 0,qS "/claim/cut.py" 571]),
(295,fQ (.mk (sT "new_tie") (sT "new_tie") (L2.defArgs (top 33)) (FuncBody.stmts (L2.defBody (top 33))) (L2.defScope (top 33)) 3 [] vN vN vN (qS "labelways.parts" 545) .none (vR 294) vN 0)),
(299,cQ #[qS "part_order" 573,qS "part_order" 574,qS "/claim/cut.py" 575,vI 107 0,vI 2 0,vI 0 0,vI 0 0,vI 3 0,vR 296,vB true,vI 181 0,vR 297,vN,vN,vN,vR 298,vI 576 0,vI 107 0,qS "/claim/cut.py" 577]),
(300,fQ (.mk (sT "part_order") (sT "part_order") (L2.defArgs (top 34)) (FuncBody.stmts (L2.defBody (top 34))) (L2.defScope (top 34)) 3 [] vN vN vN (qS "labelways.parts" 545) .none (vR 299) vN 0)),
(304,cQ #[qS "cut_down" 579,qS "cut_down" 580,qS "/claim/cut.py" 581,vI 109 0,vI 2 0,vI 0 0,vI 0 0,vI 3 0,vR 301,vB true,vI 181 0,vR 302,vN,vN,vN,vR 303,vI 582 0,vI 109 0,qS "/claim/cut.py" 583]),
(305,fQ (.mk (sT "cut_down") (sT "cut_down") (L2.defArgs (top 35)) (FuncBody.stmts (L2.defBody (top 35))) (L2.defScope (top 35)) 3 [] vN vN vN (qS "labelways.parts" 545) .none (vR 304) vN 0)),
(309,cQ #[qS "cut_label" 585,qS "cut_label" 586,qS "/claim/cut.py" 587,vI 111 0,vI 2 0,vI 0 0,vI 0 0,vI 3 0,vR 306,vB true,vI 181 0,vR 307,vN,vN,vN,vR 308,vI 588 0,vI 111 0,qS "/claim/cut.py" 589]),
(310,fQ (.mk (sT "cut_label") (sT "cut_label") (L2.defArgs (top 36)) (FuncBody.stmts (L2.defBody (top 36))) (L2.defScope (top 36)) 3 [] vN vN vN (qS "labelways.parts" 545) .none (vR 309) vN 0)),
(316,cQ #[qS "new_entry" 591,qS "new_entry" 592,qS "/claim/cut.py" 593,vI 113 0,vI 2 0,vI 0 0,vI 0 0,vI 3 0,vR 311,vB true,vI 181 0,vR 312,vN,vR 313,vR 314,vR 315,vI 596 0,vI 113 0,qS "/claim/cut.py" 597]),
(317,fQ (.mk (sT "new_entry") (sT "new_entry") (L2.defArgs (top 37)) (FuncBody.stmts (L2.defBody (top 37))) (L2.defScope (top 37)) 3 [] vN vN vN (qS "labelways.parts" 545) .none (vR 316) vN 0)),
(321,cQ #[qS "is_order" 601,qS "is_order" 602,qS "/claim/cut.py" 603,vI 118 0,vI 2 0,vI 0 0,vI 0 0,vI 3 0,vR 318,vB true,vI 181 0,vR 319,vN,vN,vN,vR 320,vI 604 0,vI 118 0,qS "/claim/cut.py" 605]),
(322,fQ (.mk (sT "is_order") (sT "is_order") (L2.defArgs (top 39)) (FuncBody.stmts (L2.defBody (top 39))) (L2.defScope (top 39)) 3 [] vN vN vN (qS "labelways.orders" 599) .none (vR 321) vN 0)),
(326,cQ #[qS "by_order" 607,qS "by_order" 608,qS "/claim/cut.py" 609,vI 123 0,vI 2 0,vI 0 0,vI 0 0,vI 3 0,vR 323,vB true,vI 181 0,vR 324,vN,vN,vN,vR 325,vI 610 0,vI 123 0,qS "/claim/cut.py" 611]),
(327,fQ (.mk (sT "by_order") (sT "by_order") (L2.defArgs (top 40)) (FuncBody.stmts (L2.defBody (top 40))) (L2.defScope (top 40)) 3 [] vN vN vN (qS "labelways.orders" 599) .none (vR 326) vN 0)),
(331,cQ #[qS "label_by_ranks" 613,qS "label_by_ranks" 614,qS "/claim/cut.py" 615,vI 129 0,vI 4 0,vI 0 0,vI 0 0,vI 3 0,vR 328,vB true,vI 181 0,vR 329,vN,vN,vN,vR 330,vI 616 0,vI 129 0,qS "/claim/cut.py" 617]),
(332,fQ (.mk (sT "label_by_ranks") (sT "label_by_ranks") (L2.defArgs (top 41)) (FuncBody.stmts (L2.defBody (top 41))) (L2.defScope (top 41)) 3 [] vN vN vN (qS "labelways.orders" 599) .none (vR 331) vN 0)),
(336,cQ #[qS "is_hub" 619,qS "is_hub" 620,qS "/claim/cut.py" 621,vI 132 0,vI 4 0,vI 0 0,vI 0 0,vI 3 0,vR 333,vB true,vI 181 0,vR 334,vN,vN,vN,vR 335,vI 622 0,vI 132 0,qS "/claim/cut.py" 623]),
(337,fQ (.mk (sT "is_hub") (sT "is_hub") (L2.defArgs (top 42)) (FuncBody.stmts (L2.defBody (top 42))) (L2.defScope (top 42)) 3 [] vN vN vN (qS "labelways.orders" 599) .none (vR 336) vN 0)),
(343,cQ #[qS "entry_by_rows" 625,qS "entry_by_rows" 626,qS "/claim/cut.py" 627,vI 136 0,vI 4 0,vI 0 0,vI 0 0,vI 3 0,vR 338,vB true,vI 181 0,vR 339,vN,vR 340,vR 341,vR 342,vI 634 0,vI 136 0,qS "/claim/cut.py" 635]),
(344,fQ (.mk (sT "entry_by_rows") (sT "entry_by_rows") (L2.defArgs (top 43)) (FuncBody.stmts (L2.defBody (top 43))) (L2.defScope (top 43)) 3 [] vN vN vN (qS "labelways.orders" 599) .none (vR 343) vN 0)),
(350,cQ #[qS "_law_feed" 639,qS "_law_feed" 640,qS "/claim/cut.py" 641,vI 141 0,vI 1 0,vI 0 0,vI 0 0,vI 3 0,vR 345,vB true,vI 181 0,vR 346,vN,vR 347,vR 348,vR 349,vI 643 0,vI 141 0,qS "/claim/cut.py" 644]),
(351,fT "_law_feed" 45 (qS "law_labelways_k67_parts" 637) 350),
(357,cQ #[qS "_law_take" 646,qS "_law_take" 647,qS "/claim/cut.py" 648,vI 143 0,vI 2 0,vI 0 0,vI 0 0,vI 3 0,vR 352,vB true,vI 181 0,vR 353,vN,vR 354,vR 355,vR 356,vI 655 0,vI 143 0,qS "/claim/cut.py" 656]),
(358,fT "_law_take" 46 (qS "law_labelways_k67_parts" 637) 357),
(362,cQ #[qS "_law_same" 658,qS "_law_same" 659,qS "/claim/cut.py" 660,vI 157 0,vI 2 0,vI 0 0,vI 0 0,vI 3 0,vR 359,vB true,vI 181 0,vR 360,vN,vN,vN,vR 361,vI 661 0,vI 157 0,qS "/claim/cut.py" 662]),
(363,fT "_law_same" 47 (qS "law_labelways_k67_parts" 637) 362),
(367,cQ #[qS "_law_web" 664,qS "_law_web" 665,qS "/claim/cut.py" 666,vI 165 0,vI 2 0,vI 0 0,vI 0 0,vI 3 0,vR 364,vB true,vI 181 0,vR 365,vN,vN,vN,vR 366,vI 667 0,vI 165 0,qS "/claim/cut.py" 668]),
(368,fT "_law_web" 48 (qS "law_labelways_k67_parts" 637) 367),
(372,cQ #[qS "_law_rows" 670,qS "_law_rows" 671,qS "/claim/cut.py" 672,vI 177 0,vI 1 0,vI 0 0,vI 0 0,vI 3 0,vR 369,vB true,vI 181 0,vR 370,vN,vN,vN,vR 371,vI 673 0,vI 177 0,qS "/claim/cut.py" 674]),
(373,fT "_law_rows" 49 (qS "law_labelways_k67_parts" 637) 372),
(379,cQ #[qS "_law_order" 676,qS "_law_order" 677,qS "/claim/cut.py" 678,vI 188 0,vI 2 0,vI 0 0,vI 0 0,vI 3 0,vR 374,vB true,vI 181 0,vR 375,vN,vR 376,vR 377,vR 378,vI 683 0,vI 188 0,qS "/claim/cut.py" 684]),
(380,fT "_law_order" 50 (qS "law_labelways_k67_parts" 637) 379),
(384,cQ #[qS "_law_lacks" 686,qS "_law_lacks" 687,qS "/claim/cut.py" 688,vI 194 0,vI 2 0,vI 0 0,vI 0 0,vI 3 0,vR 381,vB true,vI 181 0,vR 382,vN,vN,vN,vR 383,vI 689 0,vI 194 0,qS "/claim/cut.py" 690]),
(385,fT "_law_lacks" 51 (qS "law_labelways_k67_parts" 637) 384),
(389,cQ #[qS "_law_part" 692,qS "_law_part" 693,qS "/claim/cut.py" 694,vI 203 0,vI 2 0,vI 0 0,vI 0 0,vI 3 0,vR 386,vB true,vI 181 0,vR 387,vN,vN,vN,vR 388,vI 695 0,vI 203 0,qS "/claim/cut.py" 696]),
(390,fT "_law_part" 52 (qS "law_labelways_k67_parts" 637) 389),
(394,cQ #[qS "_law_things" 698,qS "_law_things" 699,qS "/claim/cut.py" 700,vI 211 0,vI 3 0,vI 0 0,vI 0 0,vI 3 0,vR 391,vB true,vI 181 0,vR 392,vN,vN,vN,vR 393,vI 701 0,vI 211 0,qS "/claim/cut.py" 702]),
(395,fT "_law_things" 53 (qS "law_labelways_k67_parts" 637) 394),
(401,cQ #[qS "_law_is_part" 704,qS "_law_is_part" 705,qS "/claim/cut.py" 706,vI 217 0,vI 2 0,vI 0 0,vI 0 0,vI 3 0,vR 396,vB true,vI 181 0,vR 397,vN,vR 398,vR 399,vR 400,vI 710 0,vI 217 0,qS "/claim/cut.py" 711]),
(402,fT "_law_is_part" 54 (qS "law_labelways_k67_parts" 637) 401),
(408,cQ #[qS "_law_told" 713,qS "_law_told" 714,qS "/claim/cut.py" 715,vI 224 0,vI 2 0,vI 0 0,vI 0 0,vI 3 0,vR 403,vB true,vI 181 0,vR 404,vN,vR 405,vR 406,vR 407,vI 720 0,vI 224 0,qS "/claim/cut.py" 721]),
(409,fT "_law_told" 55 (qS "law_labelways_k67_parts" 637) 408),
(415,cQ #[qS "_law_web_due" 723,qS "_law_web_due" 724,qS "/claim/cut.py" 725,vI 233 0,vI 2 0,vI 0 0,vI 0 0,vI 3 0,vR 410,vB true,vI 181 0,vR 411,vN,vR 412,vR 413,vR 414,vI 732 0,vI 233 0,qS "/claim/cut.py" 733]),
(416,fT "_law_web_due" 56 (qS "law_labelways_k67_parts" 637) 415),
(422,cQ #[qS "_law_cut_due" 735,qS "_law_cut_due" 736,qS "/claim/cut.py" 737,vI 239 0,vI 2 0,vI 0 0,vI 0 0,vI 3 0,vR 417,vB true,vI 181 0,vR 418,vN,vR 419,vR 420,vR 421,vI 747 0,vI 239 0,qS "/claim/cut.py" 748]),
(423,fT "_law_cut_due" 57 (qS "law_labelways_k67_parts" 637) 422),
(427,cQ #[qS "law" 750,qS "law" 751,qS "/claim/cut.py" 752,vI 250 0,vI 1 0,vI 0 0,vI 0 0,vI 3 0,vR 424,vB true,vI 181 0,vR 425,vN,vN,vN,vR 426,vI 753 0,vI 250 0,qS "/claim/cut.py" 754]),
(428,fT "law" 58 (qS "law_labelways_k67_parts" 637) 427)]
noncomputable def Ka:List Addr:=[2,3,23,24,25,40,41,43,44,59,60,62,63,78,79,81,82,97,98,100,101,112,113,124,125,136,137,148,149,160,161,172,173,184,185,196,197,205,206,212,213,219,220,224,225,231,232,236,237,243,244,248,249,255,256,262,263,267,268,272,273,277,278,282,283,287,288,294,295,299,300,304,305,309,310,316,317,321,322,326,327,331,332,336,337,343,344,350,351,357,358,362,363,367,368,372,373,379,380,384,385,389,390,394,395,401,402,408,409,415,416,422,423,427,428]
theorem usl1:∀{us:List Value},us.length=1->∃u0,us=[u0]
 | [u0],_=>⟨u0,rfl⟩
theorem zDn:∀{us:List Value},us.length=2->∃u0 u1,us=[u0,u1]
 | [u0,u1],_=>⟨u0,u1,rfl⟩
theorem usl3:∀{us:List Value},us.length=3->∃u0 u1 u2,us=[u0,u1,u2]
 | [u0,u1,u2],_=>⟨u0,u1,u2,rfl⟩
theorem usl4:∀{us:List Value},us.length=4->∃u0 u1 u2 u3,us=[u0,u1,u2,u3]
 | [u0,u1,u2,u3],_=>⟨u0,u1,u2,u3,rfl⟩
theorem walk {l:PySem.W.OpenLaw}{q:Program}{loose:List Str}{XP:(Str->Option Value)->Heap->Prop}{YP:World->Heap->Prop}{d:DefRec}{K:Params->PySem.W.Frag}(hn:l.most=some 63)(hdf:d.params.defaults=[])(hrec:∃dn,(PyProof.Rows.recsOf q).find? (fun e=>e.name==("nearest" : Str))=some dn)
 (hY:∀(w:World)(h:Heap),YP w h->(K w.params).In h)
 (F:∀(w:World)(mg:sOV)(fa:Addr)(h:Heap),(K w.params).In h->h.Ns mainGlobals mg->mg d.name=some (.ref fa) ->
  ∃(fd:FuncData)(c P:Addr),PySem.W.tabIn (K w.params) "nearest" = some (c,P)/\PySem.W.noTabs (K w.params)=true/\(∀(s:Shared)(u:Value),BindsTo s fd ⟨[u],[]⟩ [("_law_script",u)])/\∀base:Heap,(K w.params).In base->base.Ns mainGlobals mg->zJd mg base->zAg l.prog w (K w.params) mg base CX0 13 fa fd ["_law_script"] (zJm (K w.params) P)) :
 PySem.W.WalkO q loose XP YP l.row.toRowW d [] (fun f vs=>PySem.call f vs):=
 L2.walk_T (n:=63) (k:=13) (x := "_law_script") (tn := "nearest") (CX:=CX0) (sp:=zJm) hn (by decide) hdf ⟨rfl,by decide,by decide,rfl⟩ hrec hY F (fun _ _ _ a ns hl hP hS=>⟨a,ns,rfl,hS,hl,hP,fun _=>rfl⟩) fun _ _ _ _ z=>z
theorem fk {K:PySem.W.Frag}(x:Str)(st:Stmt)(f:Addr)(pm cd:Value)(l:K.lookup f=some ⟨.type "function",.none,.func (PySem.W.fnOf x x (defArgs st) (defBody st) (defScope st) .none .none .none pm .none cd .none),#[]⟩:=by kernel_rfl) (c:PySem.W.codeIn K cd x=true:=by kernel_rfl)(k:PySem.W.keepIn K (.ref f)=true:=by kernel_rfl):Fun K x x st f (PySem.W.fnOf x x (defArgs st) (defBody st) (defScope st) .none .none .none pm .none cd .none):=fun_mk l c k
theorem fkC {K:PySem.W.Frag}(x:Str)(st:Stmt)(f:Addr)(pm:Value)(cc:Addr)(l:K.lookup f=some ⟨.type "function",.none,.func (PySem.W.fnOf x x (defArgs st) (defBody st) (defScope st) .none .none .none pm .none (.ref cc) .none),#[]⟩:=by kernel_rfl) (c:PySem.W.codeIn K (.ref cc) x=true:=by kernel_rfl)(k:PySem.W.keepIn K (.ref f)=true:=by kernel_rfl):zKm K x x st f (PySem.W.fnOf x x (defArgs st) (defBody st) (defScope st) .none .none .none pm .none (.ref cc) .none) cc:=zMg l c k
noncomputable abbrev pw:Program:=PySem.Challenge.pw_labelways_k67_parts
noncomputable def V:Program:={ pw with main:={ pw.main with body:=[top 1,top 2,top 3,top 4,top 5,top 6,top 7,top 8,top 9,top 10,top 11,top 12,top 13,top 15,top 16,top 17,top 18,top 19,top 20,top 22,top 24,top 25,top 26,top 27,top 28,top 30,top 31,top 32,top 33,top 34,top 35,top 36,top 37,top 39,top 40,top 41,top 42,top 43,top 45,top 46,top 47,top 48,top 49,top 50,top 51,top 52,top 53,top 54,top 55,top 56,top 57,top 58] } }
noncomputable abbrev RR:PySem.W.RowW:=PySem.W.OpenRow.toRowW (PySem.Challenge.rw_labelways_k67_parts).row
theorem Ke:∀P,Ka=(Kf P).map (·.1):=fun P=>by kernel_rfl
noncomputable abbrev HK:PySem.W.Hook:=PySem.W.kHook Kf Ka Ke
theorem left:PySem.W.LeftO pw V [] (fun s=>PySem.W.xlAt V [] s && PySem.W.recOk (PySem.W.RowW.records RR) s) (PySem.W.Hook.obs HK) (PySem.W.Hook.val HK) 8238:=L2.left_of (by kernel_rfl) (by decide) (fun _=>rfl) fun w os=>by kernel_rfl
noncomputable def dL:DefRec:={ name := "law",params:=defArgs sLaw,body:=defBody sLaw,scope:=defScope sLaw,pos:=⟨250,0,270,15⟩ }
theorem facts (w:World)(mg:sOV)(fa:Addr)(h:Heap)(KX:(Kf w.params).In h)(G:h.Ns mainGlobals mg)(hmg:mg "law" = some (.ref fa)):∃(fd:FuncData)(c P:Addr),PySem.W.tabIn (Kf w.params) "nearest" = some (c,P)/\PySem.W.noTabs (Kf w.params)=true/\(∀(s:Shared)(u:Value),BindsTo s fd ⟨[u],[]⟩ [("_law_script",u)])/\∀base:Heap,(Kf w.params).In base->base.Ns mainGlobals mg->zJd mg base->zAg (PySem.Challenge.rw_labelways_k67_parts).prog w (Kf w.params) mg base CX0 13 fa fd ["_law_script"] (zJm (Kf w.params) P):=by
 have mk:∀(x:Str)(f:Addr),PySem.W.nsIn (Kf w.params) mainGlobals x=some (some (.ref f))->mg x=some (.ref f):=fun x f e=>PySem.W.mg_of KX G e
 have mn:∀x:Str,PySem.W.nsIn (Kf w.params) mainGlobals x=some none->mg x=none:=fun x e=>PySem.W.mg_none_of KX G e
 have FFe:=fk (K:=Kf w.params) "_law_feed" zJu 351 (qS "law_labelways_k67_parts" 637) (vR 350)
 have bFe:=FFe.binds (ps:=["_law_script"]) fun _ _ _ _ _ _ us hl=>by obtain⟨u0,rfl⟩:=usl1 hl;rfl
 have mFe:=mk "_law_feed" 351 (by kernel_rfl)
 have FTk:=fk (K:=Kf w.params) "_law_take" zFs 358 (qS "law_labelways_k67_parts" 637) (vR 357)
 have bTk:=FTk.binds (ps:=["_law_feed_here", "_law_many"]) fun _ _ _ _ _ _ us hl=>by obtain⟨u0,u1,rfl⟩:=zDn hl;rfl
 have mTk:=mk "_law_take" 358 (by kernel_rfl)
 have FSa:=fk (K:=Kf w.params) "_law_same" zGh 363 (qS "law_labelways_k67_parts" 637) (vR 362)
 have bSa:=FSa.binds (ps:=["_law_found", "_law_due"]) fun _ _ _ _ _ _ us hl=>by obtain⟨u0,u1,rfl⟩:=zDn hl;rfl
 have mSa:=mk "_law_same" 363 (by kernel_rfl)
 have FWe:=fk (K:=Kf w.params) "_law_web" zGf 368 (qS "law_labelways_k67_parts" 637) (vR 367)
 have bWe:=FWe.binds (ps:=["_law_feed_here", "_law_most"]) fun _ _ _ _ _ _ us hl=>by obtain⟨u0,u1,rfl⟩:=zDn hl;rfl
 have mWe:=mk "_law_web" 368 (by kernel_rfl)
 have FRo:=fk (K:=Kf w.params) "_law_rows" zJq 373 (qS "law_labelways_k67_parts" 637) (vR 372)
 have bRo:=FRo.binds (ps:=["_law_web_here"]) fun _ _ _ _ _ _ us hl=>by obtain⟨u0,rfl⟩:=usl1 hl;rfl
 have mRo:=mk "_law_rows" 373 (by kernel_rfl)
 have FOd:=fk (K:=Kf w.params) "_law_order" zJt 380 (qS "law_labelways_k67_parts" 637) (vR 379)
 have bOd:=FOd.binds (ps:=["_law_feed_here", "_law_many"]) fun _ _ _ _ _ _ us hl=>by obtain⟨u0,u1,rfl⟩:=zDn hl;rfl
 have mOd:=mk "_law_order" 380 (by kernel_rfl)
 have FLa:=fk (K:=Kf w.params) "_law_lacks" zD4 385 (qS "law_labelways_k67_parts" 637) (vR 384)
 have bLa:=FLa.binds (ps:=["_law_rows_here", "_law_places"]) fun _ _ _ _ _ _ us hl=>by obtain⟨u0,u1,rfl⟩:=zDn hl;rfl
 have mLa:=mk "_law_lacks" 385 (by kernel_rfl)
 have FPt:=fk (K:=Kf w.params) "_law_part" zJs 390 (qS "law_labelways_k67_parts" 637) (vR 389)
 have bPt:=FPt.binds (ps:=["_law_feed_here", "_law_rows_here"]) fun _ _ _ _ _ _ us hl=>by obtain⟨u0,u1,rfl⟩:=zDn hl;rfl
 have mPt:=mk "_law_part" 390 (by kernel_rfl)
 have FTh:=fk (K:=Kf w.params) "_law_things" sThs 395 (qS "law_labelways_k67_parts" 637) (vR 394)
 have bTh:=FTh.binds (ps:=["_law_feed_here", "_law_many", "_law_part_here"]) fun _ _ _ _ _ _ us hl=>by obtain⟨u0,u1,u2,rfl⟩:=usl3 hl;rfl
 have mTh:=mk "_law_things" 395 (by kernel_rfl)
 have FLp:=fk (K:=Kf w.params) "_law_is_part" sLip 402 (qS "law_labelways_k67_parts" 637) (vR 401)
 have bLp:=FLp.binds (ps:=["_law_rows_here", "_law_thing"]) fun _ _ _ _ _ _ us hl=>by obtain⟨u0,u1,rfl⟩:=zDn hl;rfl
 have mLp:=mk "_law_is_part" 402 (by kernel_rfl)
 have FTl:=fk (K:=Kf w.params) "_law_told" sTol 409 (qS "law_labelways_k67_parts" 637) (vR 408)
 have bTl:=FTl.binds (ps:=["_law_web_here", "_law_thing"]) fun _ _ _ _ _ _ us hl=>by obtain⟨u0,u1,rfl⟩:=zDn hl;rfl
 have mTl:=mk "_law_told" 409 (by kernel_rfl)
 have FWd:=fk (K:=Kf w.params) "_law_web_due" zJp 416 (qS "law_labelways_k67_parts" 637) (vR 415)
 have bWd:=FWd.binds (ps:=["_law_web_here", "_law_part_here"]) fun _ _ _ _ _ _ us hl=>by obtain⟨u0,u1,rfl⟩:=zDn hl;rfl
 have mWd:=mk "_law_web_due" 416 (by kernel_rfl)
 have FCu:=fk (K:=Kf w.params) "_law_cut_due" zJw 423 (qS "law_labelways_k67_parts" 637) (vR 422)
 have bCu:=FCu.binds (ps:=["_law_labels", "_law_part_here"]) fun _ _ _ _ _ _ us hl=>by obtain⟨u0,u1,rfl⟩:=zDn hl;rfl
 have mCu:=mk "_law_cut_due" 423 (by kernel_rfl)
 have FNu:=fk (K:=Kf w.params) "is_number" sNum 206 (qS "labelways.kinds" 443) (vR 205)
 have bNu:=FNu.binds (ps:=["thing"]) fun _ _ _ _ _ _ us hl=>by obtain⟨u0,rfl⟩:=usl1 hl;rfl
 have mNu:=mk "is_number" 206 (by kernel_rfl)
 have FWi:=fk (K:=Kf w.params) "is_within" sWi 213 (qS "labelways.kinds" 443) (vR 212)
 have bWi:=FWi.binds (ps:=["thing", "least", "most"]) fun _ _ _ _ _ _ us hl=>by obtain⟨u0,u1,u2,rfl⟩:=usl3 hl;rfl
 have mWi:=mk "is_within" 213 (by kernel_rfl)
 have FTo:=fk (K:=Kf w.params) "is_tuple_of" sTof 220 (qS "labelways.kinds" 443) (vR 219)
 have bTo:=FTo.binds (ps:=["thing", "count"]) fun _ _ _ _ _ _ us hl=>by obtain⟨u0,u1,rfl⟩:=zDn hl;rfl
 have mTo:=mk "is_tuple_of" 220 (by kernel_rfl)
 have FRs:=fk (K:=Kf w.params) "is_rising" sRis 225 (qS "labelways.kinds" 443) (vR 224)
 have bRs:=FRs.binds (ps:=["things"]) fun _ _ _ _ _ _ us hl=>by obtain⟨u0,rfl⟩:=usl1 hl;rfl
 have mRs:=mk "is_rising" 225 (by kernel_rfl)
 have FPl:=fk (K:=Kf w.params) "is_place" sPl 232 (qS "labelways.kinds" 443) (vR 231)
 have bPl:=FPl.binds (ps:=["n", "thing"]) fun _ _ _ _ _ _ us hl=>by obtain⟨u0,u1,rfl⟩:=zDn hl;rfl
 have mPl:=mk "is_place" 232 (by kernel_rfl)
 have FAr:=fk (K:=Kf w.params) "are_places" sArp 237 (qS "labelways.kinds" 443) (vR 236)
 have bAr:=FAr.binds (ps:=["n", "thing"]) fun _ _ _ _ _ _ us hl=>by obtain⟨u0,u1,rfl⟩:=zDn hl;rfl
 have mAr:=mk "are_places" 237 (by kernel_rfl)
 have FT:=fk (K:=Kf w.params) "ties_at" zGg 244 (qS "labelways.webs" 489) (vR 243)
 have bT:=FT.binds (ps:=["web", "place"]) fun _ _ _ _ _ _ us hl=>by obtain⟨u0,u1,rfl⟩:=zDn hl;rfl
 have mT:=mk "ties_at" 244 (by kernel_rfl)
 have FNe:=fkC (K:=Kf w.params) "nearest" zIK 263 (qS "labelways.lengths" 503) 262
 have bNe:=FNe.fn.binds (ps:=["waiting"]) fun _ _ _ _ _ _ us hl=>by obtain⟨u0,rfl⟩:=usl1 hl;rfl
 have mNe:=mk "nearest" 263 (by kernel_rfl)
 have FF:=fk (K:=Kf w.params) "lengths_from" zIM 256 (qS "labelways.lengths" 503) (vR 255)
 have bF:=FF.binds (ps:=["web", "start"]) fun _ _ _ _ _ _ us hl=>by obtain⟨u0,u1,rfl⟩:=zDn hl;rfl
 have mF:=mk "lengths_from" 256 (by kernel_rfl)
 have FLe:=fk (K:=Kf w.params) "lengths" zHT 249 (qS "labelways.lengths" 503) (vR 248)
 have bLe:=FLe.binds (ps:=["web"]) fun _ _ _ _ _ _ us hl=>by obtain⟨u0,rfl⟩:=usl1 hl;rfl
 have mLe:=mk "lengths" 249 (by kernel_rfl)
 have FBw:=fk (K:=Kf w.params) "between_rows" sBwr 268 (qS "labelways.lengths" 503) (vR 267)
 have bBw:=FBw.binds (ps:=["here", "there", "other"]) fun _ _ _ _ _ _ us hl=>by obtain⟨u0,u1,u2,rfl⟩:=usl3 hl;rfl
 have mBw:=mk "between_rows" 268 (by kernel_rfl)
 have FNb:=fk (K:=Kf w.params) "next_by_row" sNbr 273 (qS "labelways.lengths" 503) (vR 272)
 have bNb:=FNb.binds (ps:=["web", "one", "there"]) fun _ _ _ _ _ _ us hl=>by obtain⟨u0,u1,u2,rfl⟩:=usl3 hl;rfl
 have mNb:=mk "next_by_row" 273 (by kernel_rfl)
 have FIp:=fk (K:=Kf w.params) "is_part" sIsP 278 (qS "labelways.parts" 545) (vR 277)
 have bIp:=FIp.binds (ps:=["web", "thing"]) fun _ _ _ _ _ _ us hl=>by obtain⟨u0,u1,rfl⟩:=zDn hl;rfl
 have mIp:=mk "is_part" 278 (by kernel_rfl)
 have FHw:=fk (K:=Kf w.params) "holds_ways_from" zIL 283 (qS "labelways.parts" 545) (vR 282)
 have bHw:=FHw.binds (ps:=["rows", "places", "one"]) fun _ _ _ _ _ _ us hl=>by obtain⟨u0,u1,u2,rfl⟩:=usl3 hl;rfl
 have mHw:=mk "holds_ways_from" 283 (by kernel_rfl)
 have FPw:=fk (K:=Kf w.params) "part_web" zGi 288 (qS "labelways.parts" 545) (vR 287)
 have bPw:=FPw.binds (ps:=["web", "thing"]) fun _ _ _ _ _ _ us hl=>by obtain⟨u0,u1,rfl⟩:=zDn hl;rfl
 have mPw:=mk "part_web" 288 (by kernel_rfl)
 have FNt:=fk (K:=Kf w.params) "new_tie" zII 295 (qS "labelways.parts" 545) (vR 294)
 have bNt:=FNt.binds (ps:=["places", "tie"]) fun _ _ _ _ _ _ us hl=>by obtain⟨u0,u1,rfl⟩:=zDn hl;rfl
 have mNt:=mk "new_tie" 295 (by kernel_rfl)
 have FPo:=fk (K:=Kf w.params) "part_order" zJr 300 (qS "labelways.parts" 545) (vR 299)
 have bPo:=FPo.binds (ps:=["order", "places"]) fun _ _ _ _ _ _ us hl=>by obtain⟨u0,u1,rfl⟩:=zDn hl;rfl
 have mPo:=mk "part_order" 300 (by kernel_rfl)
 have FCd:=fk (K:=Kf w.params) "cut_down" zJv 305 (qS "labelways.parts" 545) (vR 304)
 have bCd:=FCd.binds (ps:=["labels", "places"]) fun _ _ _ _ _ _ us hl=>by obtain⟨u0,u1,rfl⟩:=zDn hl;rfl
 have mCd:=mk "cut_down" 305 (by kernel_rfl)
 have FCl:=fk (K:=Kf w.params) "cut_label" zIN 310 (qS "labelways.parts" 545) (vR 309)
 have bCl:=FCl.binds (ps:=["label", "places"]) fun _ _ _ _ _ _ us hl=>by obtain⟨u0,u1,rfl⟩:=zDn hl;rfl
 have mCl:=mk "cut_label" 310 (by kernel_rfl)
 have FNn:=fk (K:=Kf w.params) "new_entry" zIJ 317 (qS "labelways.parts" 545) (vR 316)
 have bNn:=FNn.binds (ps:=["places", "entry"]) fun _ _ _ _ _ _ us hl=>by obtain⟨u0,u1,rfl⟩:=zDn hl;rfl
 have mNn:=mk "new_entry" 317 (by kernel_rfl)
 have FIo:=fk (K:=Kf w.params) "is_order" sOrd 322 (qS "labelways.orders" 599) (vR 321)
 have bIo:=FIo.binds (ps:=["web", "thing"]) fun _ _ _ _ _ _ us hl=>by obtain⟨u0,u1,rfl⟩:=zDn hl;rfl
 have mIo:=mk "is_order" 322 (by kernel_rfl)
 have FBy:=fk (K:=Kf w.params) "by_order" sByo 327 (qS "labelways.orders" 599) (vR 326)
 have bBy:=FBy.binds (ps:=["web", "order"]) fun _ _ _ _ _ _ us hl=>by obtain⟨u0,u1,rfl⟩:=zDn hl;rfl
 have mBy:=mk "by_order" 327 (by kernel_rfl)
 have FLb:=fk (K:=Kf w.params) "label_by_ranks" sLbr 332 (qS "labelways.orders" 599) (vR 331)
 have bLb:=FLb.binds (ps:=["web", "rows", "ranks", "place"]) fun _ _ _ _ _ _ us hl=>by obtain⟨u0,u1,u2,u3,rfl⟩:=usl4 hl;rfl
 have mLb:=mk "label_by_ranks" 332 (by kernel_rfl)
 have FIh:=fk (K:=Kf w.params) "is_hub" sIsh 337 (qS "labelways.orders" 599) (vR 336)
 have bIh:=FIh.binds (ps:=["rows", "ranks", "hub", "place"]) fun _ _ _ _ _ _ us hl=>by obtain⟨u0,u1,u2,u3,rfl⟩:=usl4 hl;rfl
 have mIh:=mk "is_hub" 337 (by kernel_rfl)
 have FEb:=fk (K:=Kf w.params) "entry_by_rows" sEbr 344 (qS "labelways.orders" 599) (vR 343)
 have bEb:=FEb.binds (ps:=["web", "rows", "place", "hub"]) fun _ _ _ _ _ _ us hl=>by obtain⟨u0,u1,u2,u3,rfl⟩:=usl4 hl;rfl
 have mEb:=mk "entry_by_rows" 344 (by kernel_rfl)
 have FZ:=fk (K:=Kf w.params) "law" sLaw 428 (qS "law_labelways_k67_parts" 637) (vR 427)
 have mb0:=mn "len" (by kernel_rfl)
 have mb1:=mn "range" (by kernel_rfl)
 have mb2:=mn "tuple" (by kernel_rfl)
 have mb3:=mn "sorted" (by kernel_rfl)
 have mb4:=mn "min" (by kernel_rfl)
 have mb5:=mn "max" (by kernel_rfl)
 have mb6:=mn "list" (by kernel_rfl)
 have mb7:=mn "isinstance" (by kernel_rfl)
 have mb8:=mn "int" (by kernel_rfl)
 have mb9:=mn "bool" (by kernel_rfl)
 have mb10:=mn "all" (by kernel_rfl)
 have mb11:=mn "set" (by kernel_rfl)
 have mb12:=mn "zip" (by kernel_rfl)
 have mb13:=mn "repr" (by kernel_rfl)
 have mb14:=mn "ValueError" (by kernel_rfl)
 have e:=hmg.symm.trans (mk "law" 428 (by kernel_rfl))
 cases e
 have EP:ErrG (Kf w.params) mg "NoPart" nsP 24 173 [44,63,113,82,149,137,185,101,161,125,197]:=⟨(mk "WayError" 24 (by kernel_rfl)),(mk "NoPart" 173 (by kernel_rfl)),by kernel_rfl,by kernel_rfl,by kernel_rfl,⟨by kernel_rfl,by kernel_rfl,by kernel_rfl,by kernel_rfl,by kernel_rfl,by kernel_rfl⟩,by show [mg "NoLabels",mg "NoLeast",mg "NoOrder",mg "NoPlan",mg "NoPosts",mg "NoRing",mg "NoRow",mg "NoText",mg "NoTie",mg "NoTree",mg "TooMany"]=_;rw[mk "NoLabels" 44 (by kernel_rfl),mk "NoLeast" 63 (by kernel_rfl),mk "NoOrder" 113 (by kernel_rfl),mk "NoPlan" 82 (by kernel_rfl),mk "NoPosts" 149 (by kernel_rfl),mk "NoRing" 137 (by kernel_rfl),mk "NoRow" 185 (by kernel_rfl),mk "NoText" 101 (by kernel_rfl),mk "NoTie" 161 (by kernel_rfl),mk "NoTree" 125 (by kernel_rfl),mk "TooMany" 197 (by kernel_rfl)];rfl,by kernel_rfl,by kernel_rfl,by kernel_rfl⟩
 exact⟨_,262,258,by kernel_rfl,by kernel_rfl,fun s v=>.of_eq rfl,fun base hb _ hbm=>ok_law FZ (PySem.W.codeHd_of_K hb (show PySem.W.codeHdIn (Kf w.params) 262 258=true by kernel_rfl)) hbm EP FFe bFe mFe FTk bTk mTk FSa bSa mSa FWe bWe mWe FRo bRo mRo FOd bOd mOd FLa bLa mLa FPt bPt mPt FTh bTh mTh FLp bLp mLp FTl bTl mTl FWd bWd mWd FCu bCu mCu FNu bNu mNu FWi bWi mWi FTo bTo mTo FRs bRs mRs FPl bPl mPl FAr bAr mAr FT bT mT FNe bNe mNe FF bF mF FLe bLe mLe FBw bBw mBw FNb bNb mNb FIp bIp mIp FHw bHw mHw FPw bPw mPw FNt bNt mNt FPo bPo mPo FCd bCd mCd FCl bCl mCl FNn bNn mNn FIo bIo mIo FBy bBy mBy FLb bLb mLb FIh bIh mIh FEb bEb mEb mb0 mb1 mb2 mb3 mb4 mb5 mb6 mb7 mb8 mb9 mb10 mb11 mb12 mb13 mb14⟩
end K67
open PySem PySem.W PyProof.Rows
set_option maxRecDepth 100000 in
set_option maxHeartbeats 0 in
theorem PySem.Challenge.cw_labelways_k67_parts_holds : PySem.Challenge.rw_labelways_k67_parts.Holds := by
 refine holds_law (by decide +kernel) fun said=>?_
 refine holds_open (q:=K67.V) (loose:=[]) (Xt:=fun s=>xlAt K67.V [] s && recOk (RowW.records K67.RR) s) (XP:=XL K67.V []) (Yf:=Hook.obs K67.HK) (Ya:=Hook.val K67.HK) (YP:=Hook.says K67.HK) (d:=K67.dL) (kwd:=[]) (N:=8238) K67.left (Hook.of K67.HK) (Hook.keeps K67.HK) (fun s e=>xl_of s (Bool.and_eq_true_iff.mp e).1) XL.keeps (by kernel_rfl) (by kernel_rfl) (by kernel_rfl) (fun s e=>recFacts_of (Bool.and_eq_true_iff.mp e).2) (by kernel_rfl) said (by decide +kernel) ⟨rfl,rfl,rfl,rfl,rfl,by decide +kernel⟩ ?hw ?hc
 case hw=>w_witness2
 case hc=>
  exact K67.walk (l:=PySem.Challenge.rw_labelways_k67_parts) (K:=K67.Kf) rfl rfl ⟨((PyProof.Rows.recsOf K67.V).find? (fun e=>e.name==("nearest" : Str))).get (by decide +kernel),by simp⟩ (fun w h Y=>PySem.W.kIn_of Y) K67.facts
