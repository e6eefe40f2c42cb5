import PyProof.Rows.All
import Wide.All
import OpenK.AllK
import Wide.FinOn
import Lean
import PyProof.EqAt
import PyProof.EqKinds
import PyProof.TupleCall
import PyProof.ListRange
import PyProof.Rows.StrKeys3
import PyProof.ZipIter
import PySem.Challenge.RW_labelways_k33_entries_that_can_go
set_option Elab.async false
set_option linter.all false
set_option maxRecDepth 100000
section
open PySem PySem.Spec PyProof.Rows
abbrev zA:=@List.getElem?_eq_getElem
abbrev zB:=@List.length_map
abbrev zC:=@wpAny_bind
abbrev zD:=@List.getD_eq_getElem?_getD
abbrev zE:=@List.getElem?_eq_some_iff
abbrev zH:=@wpAny_pure
abbrev zI:=@List.length_append
abbrev zK:=@Heap.get?_push_of_some
abbrev zL:=@Nat.le_refl
abbrev zM:=@List.getElem?_append_right
abbrev zN:=@List.getElem?_append_left
abbrev zO:=@List.getElem?_map
abbrev zP:=@List.size_toArray
abbrev zQ:=@List.map_append
abbrev zR:=@Option.some.inj
abbrev zS:=@List.mem_of_getElem?
abbrev zU:=@Heap.get?_push_size
abbrev zV:=@decide_eq_true
abbrev zX:=@Heap.lt_size
abbrev zY:=@Nat.ne_of_lt
abbrev zc:=@Nat.zero_le
abbrev zd:=@List.getElem_of_mem
abbrev ze:=@decide_eq_false
abbrev zf:=@List.take_of_length_le
abbrev zg:=@Bool.false_ne_true
abbrev zi:=@List.mem_map
abbrev zj:=@List.mem_append_right
abbrev zk:=@List.mem_singleton
abbrev zl:=@List.mem_cons_self
abbrev zm:=@List.mem_cons
abbrev zq:=@List.length_filter_le
abbrev zt:=@Nat.lt_of_lt_of_le
abbrev zu:=@List.mem_append
abbrev zv:=@List.mem_cons_of_mem
abbrev zw:=@List.length_take
abbrev zy:=@Nat.le_trans
abbrev zAB:=@List.append_nil
abbrev zAC:=@List.pairwise_iff_getElem
abbrev zAD:=@Nat.lt_of_le_of_lt
abbrev zAE:=@List.mem_append_left
abbrev zAG:=@List.length_cons
abbrev zAI:=@List.take_add_one
abbrev zAM:=@Nat.ne_of_gt
abbrev zAS:=@List.map_cons
abbrev zAW:=@List.pairwise_map
abbrev zAX:=@List.getElem_mem
abbrev zAY:=@wpAny_holding
abbrev zAZ:=@List.map_map
abbrev zAa:=@List.length_replicate
abbrev zAe:=@Heap.size_push
abbrev zAg:=@List.length_set
abbrev zAh:=@List.filter_append
abbrev zAi:=@Int.zero_add
abbrev zAk:=@wpAny_callSpecial?_slot
abbrev zAn:=@List.length_range
abbrev zAo:=@Classical.byContradiction
abbrev zAp:=@Nat.sub_self
abbrev zAs:=@Option.map_some
abbrev zAt:=@Nat.lt_trans
abbrev zAu:=@List.mem_filter
abbrev zAv:=@List.getElem?_toArray
abbrev zAw:=@List.getElem?_eq_none
abbrev zAx:=@wpAny_call_entry
abbrev zAy:=@List.all_eq_true
abbrev zAz:=@wpAny_newObj_type
abbrev zA0:=@Nat.lt_succ_of_lt
abbrev zA2:=@List.getElem?_set_self
abbrev zA3:=@List.nodup_cons
abbrev zA4:=@Option.isSome_iff_exists
abbrev zA6:=@wpAny_seqItems
abbrev zA8:=@wpAny_field
abbrev zA9:=@List.mem_filterMap
abbrev zBB:=@List.lookup_cons
abbrev zBH:=@Int.toNat_natCast
abbrev zBL:=@wpAny_isInstance
abbrev zBO:=@List.getElem?_set_ne
abbrev zBS:=@List.getElem?_replicate
abbrev zBT:=@List.filter_cons_of_pos
abbrev zBU:=@List.filter_cons_of_neg
abbrev zBV:=@wpAny_truthy_bool
abbrev zBW:=@wpAny_mono
abbrev zBX:=@List.Pairwise.nil
abbrev zBa:=@List.replicate_succ
abbrev zBb:=@List.map_congr_left
abbrev zBn:=@List.filter_cons
abbrev zBo:=@wpAny_typeOf
abbrev zBp:=@wpAny_pyIter_tuple
abbrev zBq:=@Nat.le_of_lt
abbrev zBr:=@Bool.false_eq_true
abbrev zBt:=@Nat.le_succ
abbrev zBw:=@Nat.not_lt_zero
abbrev zBx:=@List.filter_nil
abbrev zB3:=@Nat.lt_irrefl
abbrev zB4:=@List.filter_sublist
abbrev zB5:=@Int.le_refl
abbrev zB7:=@wpAny_typeNameOfWhole_keyiter
abbrev zB8:=@Nat.lt_succ_self
abbrev zB9:=@wpAny_rule
abbrev zCC:=@List.nodup_nil
abbrev zCD:=@List.mem_range
end
namespace L2
open PySem PySem.Spec PyProof.Rows
noncomputable abbrev Key:=Sum Int Str
noncomputable def zHB:Key->Value->Bool
 | .inl k,v=>Value.isInt k v
 | .inr x,v=>Value.isStrOf x v
noncomputable def keyH (w:World):Key->Int
 | .inl k=>hashInt k
 | .inr x=>hashStr w x
theorem zBZ:∀{k:Key}{v:Value},zHB k v=true->(∃i t,k=Sum.inl i/\v=Value.int i t)\/(∃x t,k=Sum.inr x/\v=Value.str x t)
 | .inl i,v,h=>by
  obtain⟨t,e⟩:=Value.isInt_shape (k:=i) (v:=v) h
  exact .inl ⟨i,t,rfl,e⟩
 | .inr x,v,h=>by
  obtain⟨t,e⟩:=Value.isStrOf_shape (x:=x) (v:=v) h
  exact .inr ⟨x,t,rfl,e⟩
theorem zIP (i:Int)(t:Tok):zHB (.inl i) (.int i t)=true:=by simp[zHB,Value.isInt]
theorem zIO (x:Str)(t:Tok):zHB (.inr x) (.str x t)=true:=by simp[zHB,Value.isStrOf]
theorem key_ll (a b:Int):decide ((Sum.inl a:Key)=Sum.inl b)=(a==b):=by
 by_cases e:a=b
 . subst e;simp
 . have h:¬ (Sum.inl a:Key)=Sum.inl b:=fun q=>e (Sum.inl.inj q)
   rw[ze h]
   exact (beq_eq_false_iff_ne.mpr e).symm
theorem key_rr (a b:Str):decide ((Sum.inr a:Key)=Sum.inr b)=decide (a=b):=by
 by_cases e:a=b
 . subst e;simp
 . have h:¬ (Sum.inr a:Key)=Sum.inr b:=fun q=>e (Sum.inr.inj q)
   rw[ze h,ze e]
theorem key_lr (a:Int)(b:Str):decide ((Sum.inl a:Key)=Sum.inr b)=false:=ze (fun q=>nomatch q)
theorem key_rl (a:Str)(b:Int):decide ((Sum.inr a:Key)=Sum.inl b)=false:=ze (fun q=>nomatch q)
noncomputable def zAj (prog:Program)(w:World):PySem.KeyKind prog w Key where
 is:=zHB
 hash:=keyH w
 inj:=fun v a b ha hb=>by
  rcases zBZ ha with ⟨i,t,rfl,rfl⟩ | ⟨x,t,rfl,rfl⟩
  . rcases zBZ hb with ⟨j,u,rfl,e⟩ | ⟨y,u,rfl,e⟩
    . injection e with e1 _;rw[e1]
    . exact nomatch e
  . rcases zBZ hb with ⟨j,u,rfl,e⟩ | ⟨y,u,rfl,e⟩
    . exact nomatch e
    . injection e with e1 _;rw[e1]
 byValue:=fun k v h=>by
  rcases zBZ h with ⟨i,t,rfl,rfl⟩ | ⟨x,t,rfl,rfl⟩ <;> rfl
 pyHash:=fun hv h=>by
  rcases zBZ hv with ⟨i,t,rfl,rfl⟩ | ⟨x,t,rfl,rfl⟩
  . exact wpAny_pyHash_int h
  . exact wpAny_pyHash_str h
 eqBool:=fun hu hv h=>by
  rcases zBZ hu with ⟨i,t,rfl,rfl⟩ | ⟨x,t,rfl,rfl⟩
  . rcases zBZ hv with ⟨j,u,rfl,rfl⟩ | ⟨y,u,rfl,rfl⟩
    . rw[key_ll] at h;exact wpAny_eqBool_int h
    . rw[key_lr] at h;exact SeqAt.EqAt.int_str i t y u _ _ _ _ h
  . rcases zBZ hv with ⟨j,u,rfl,rfl⟩ | ⟨y,u,rfl,rfl⟩
    . rw[key_rl] at h;exact SeqAt.EqAt.str_int x t j u _ _ _ _ h
    . rw[key_rr] at h;exact wpAny_eqBool_str h
 «strs» := fun k x t v h=>by
  rcases zBZ h with ⟨i,u,rfl,e⟩ | ⟨y,u,rfl,e⟩
  . exact nomatch e
  . injection e with e1 _
    subst e1
    cases v <;> rfl
theorem zF4 (prog:Program)(w:World)(i:Int)(t:Tok):(zAj prog w).is (.inl i) (.int i t)=true:=zIP i t
theorem zF3 (prog:Program)(w:World)(x:Str)(t:Tok):(zAj prog w).is (.inr x) (.str x t)=true:=zIO x t
end L2
namespace L2
open PySem PySem.Spec PyProof.Rows
inductive V where
 | non | bl (b:Bool) | int (i:Int) | str (x:Str) | byt (b:Array UInt8) | flt (b:UInt64) | ref (a:Addr) | ty (n:String)
 deriving DecidableEq
noncomputable def zBi:V->Value->Prop
 | .non,u=>u=Value.none
 | .bl b,u=>u=Value.bool b
 | .int i,u=>∃t,u=Value.int i t
 | .str x,u=>∃t,u=Value.str x t
 | .byt b,u=>∃t,u=Value.bytes b t
 | .flt b,u=>∃t,u=Value.float b t
 | .ref a,u=>u=Value.ref a
 | .ty n,u=>u=Value.type n
noncomputable abbrev zBR:List V->List Value->Prop:=Paired zBi
theorem zBR.length {xs:List V}{us:List Value}(r:zBR xs us):xs.length=us.length:=Paired.length r
theorem zBR.get:∀{xs:List V}{us:List Value}{i:Nat}{x:V},zBR xs us->xs[i]? = some x->∃u,us[i]? = some u/\zBi x u
 | _,_,_,_,.nil,e=>by simp at e
 | _,_,0,_,.cons r _,e=>by simp at e;subst e;exact⟨_,rfl,r⟩
 | _,_,i+1,x,.cons _ t,e=>by
  obtain⟨u,h1,h2⟩:=zBR.get (i:=i) (x:=x) t (by simpa using e)
  exact⟨u,by simpa using h1,h2⟩
theorem zBR.set {x:V}{u:Value}(r:zBi x u):∀{xs:List V}{us:List Value}(i:Nat),zBR xs us->zBR (xs.set i x) (us.set i u)
 | _,_,_,.nil=>.nil
 | _,_,0,.cons _ t=>.cons r t
 | _,_,i+1,.cons q t=>.cons q (zBR.set r i t)
theorem zBR.append:∀{xs ys:List V}{us ws:List Value},zBR xs us->zBR ys ws->zBR (xs++ys) (us++ws)
 | _,_,_,_,.nil,s=>s
 | _,_,_,_,.cons r t,s=>.cons r (zBR.append t s)
theorem zBR.take:∀{xs:List V}{us:List Value}(n:Nat),zBR xs us->zBR (xs.take n) (us.take n)
 | _,_,0,_=>.nil
 | _,_,_+1,.nil=>.nil
 | _,_,n+1,.cons r t=>.cons r (zBR.take n t)
theorem zBR.drop:∀{xs:List V}{us:List Value}(n:Nat),zBR xs us->zBR (xs.drop n) (us.drop n)
 | _,_,0,r=>r
 | _,_,_+1,.nil=>.nil
 | _,_,n+1,.cons _ t=>zBR.drop n t
noncomputable def zGG:Option V->Option Value->Prop
 | some v,some u=>zBi v u
 | none,none=>True
 | _,_=>False
noncomputable def KV {κ:Type}:List (κ×V)->List (κ×Value)->Prop:=Paired fun (p:κ×V)(q:κ×Value)=>p.1=q.1/\zBi p.2 q.2
noncomputable def kV:Key->V
 | .inl i=>.int i
 | .inr x=>.str x
inductive HO where
 /-- a list -/
 | lst (xs:List V)
 /-- a tuple (never changes) -/
 | tup (xs:List V)
 /-- a dict whose keys are ints and texts;one whose keys are tuples of ints and texts (the empty one is both) -/
 | dK (kvs:List (Key×V)) | dT (kvs:List (List Key×V))
 /-- a set of ints: its members,its size -/
 | set (S:Int->Bool)(n:Nat)
 /-- an instance of the class at C,its dict at dx,its attributes -/
 | ins (C dx:Addr)(fs:List (Str×V))
 /-- the dict of the instance at x -/
 | own (x:Addr)
 /-- the dict of an exception -/
 | xd (fs:List (Str×V))
 /-- a bound method,f of x -/
 | met (f x:Addr)
 /-- a range object lo,lo+1,.. below hi -/
 | rng (lo hi:Int)
 /-- a thing that is known to the object (the script;a dict while a loop walks it): read,never written while it is so -/
 | frz (o:Obj)(u:HO)
 /-- a code object's table -/
 | tbl (ps:Array Value)
 /-- any other thing,by what is true of its one object (a def of one's own: SetO a S n:=HO.ext fun h=>..) -/
 | ext (φ:Heap->Prop)
noncomputable abbrev Hp:=Addr->Option HO
noncomputable def upd (H:Hp)(a:Addr)(o:HO):Hp:=fun b=>if b=a then some o else H b
variable {H:Hp}{a:Addr}{o:HO}
theorem zJ:upd H a o a=some o:=by unfold upd;rw[if_pos rfl]
variable {b:Addr}
theorem zZ (h:b≠a):upd H a o b=H b:=by unfold upd;rw[if_neg h]
variable {u:HO}
theorem zCW:upd (upd H a o) a u=upd H a u:=by
 funext b;unfold upd;split <;> rfl
theorem zA5 (h:H a=some o)(h':H b=some u)(d:o≠u):a≠b:=by
 intro e;subst e;rw[h] at h';exact d (zR h')
theorem zh (h:H a=some o)(h':H b=none):a≠b:=by
 intro e;subst e;rw[h] at h';cases h'
section
variable (P:Program)(w:World)
noncomputable def zBs (H:Hp)(h:Heap)(a:Addr):HO->Prop
 | .lst xs=>xs.length<=sizeLine/\∃(its:List Value)(n:Nat),zBR xs its/\h.get? a=some { cls:=.type "list",data:=.seq its.toArray n }
 | .tup xs=>(xs.length<=sizeLine/\∃o,h.get? a=some o/\o.dict=none)/\∃its:List Value,zBR xs its/\IsTup h a its.toArray
 | .dK kvs=>kvs.length<=sizeLine/\(a==sysModules)=false/\∃vs,KV kvs vs/\h.DictOf (zAj P w) a vs
 | .dT kvs=>kvs.length<=sizeLine/\(a==sysModules)=false/\∃xs:List (List Key×Addr×Value),
  Paired (fun (p:List Key×V)(q:List Key×Addr×Value)=>p.1=q.1/\H q.2.1=some (.tup (p.1.map kV))/\zBi p.2 q.2.2) kvs xs /\
  ∃o es ep,h.get? a=some o/\o.ExactDict/\o.data = .dict es ep/\es.toList=xs.map (entryOfKey (tupleKind (zAj P w)))/\(xs.map (·.1)).Nodup
 | .set S n=>h.SetOf (intKind P w) a S n
 | .ins C dx fs=>H dx=some (.own a)/\fs.length<=1000/\dx≠a/\h.get? a=some (PySem.W.instObj C dx) /\
  ∃mA,h.Ns1 dx mA/\(∀f,zGG (fs.lookup f) (mA f))/\PySem.Within mA (fs.map (·.1))
 | .own _=>∃o,h.get? a=some o
 | .xd fs=>∃mA,h.Ns1 a mA/\∀f,zGG (fs.lookup f) (mA f)
 | .rng lo hi=>∃t u v,h.get? a=some { cls:=.type "range",data:=.fields #[.int lo t,.int hi u,.int 1 v] }
 | .frz o u=>h.get? a=some o/\zBs H h a u
 | .tbl ps=>h.get? a=some { cls:=.none,data:=.fields ps }
 | .met f x=>h.get? a=some (PySem.W.methodObj (.ref f) (.ref x))
 | .ext φ=>φ h/\(∃o,h.get? a=some o)/\∀h1 h2:Heap,φ h1->(∀o,h1.get? a=some o->h2.get? a=some o)->φ h2
noncomputable def HOk (H:Hp)(h:Heap):Prop:=∀a o,H a=some o->zBs P w H h a o
end
section
variable {P:Program}{w:World}{H H':Hp}{h h':Heap}{a:Addr}{o:HO}
theorem zBs.lt (x:zBs P w H h a o):a<h.objs.size:=by
 cases o with
 | lst xs=>obtain⟨_,_,_,_,e⟩:=x;exact zX e
 | tup xs=>obtain⟨_,_,_,p⟩:=x;exact p.lt
 | dK kvs=>obtain⟨_,_,_,_,o,_,_,e,_⟩:=x;exact zX e
 | dT kvs=>obtain⟨_,_,_,_,o,_,_,e,_⟩:=x;exact zX e
 | set S n=>obtain⟨o,_,_,_,e,_⟩:=x;exact zX e
 | ins C dx fs=>obtain⟨_,_,_,e,_⟩:=x;exact zX e
 | own y=>obtain⟨_,e⟩:=x;exact zX e
 | xd fs=>obtain⟨_,⟨_,_,_,e,_⟩,_⟩:=x;exact zX e
 | rng lo hi=>obtain⟨_,_,_,e⟩:=x;exact zX e
 | frz ob u=>obtain⟨e,_⟩:=x;exact zX e
 | tbl ps=>exact zX (show h.get? a=some _ from x)
 | met f y=>exact zX (show h.get? a=some _ from x)
 | ext φ=>obtain⟨_,⟨_,e⟩,_⟩:=x;exact zX e
theorem Paired.mapP {α β:Type}{F G:α->β->Prop}:∀{l₁:List α}{l₂:List β},Paired F l₁ l₂->(∀a b,F a b->G a b)->Paired G l₁ l₂
 | _,_,.nil,_=>.nil
 | _,_,.cons r t,f=>.cons (f _ _ r) (Paired.mapP t f)
theorem zBs.stay (x:zBs P w H h a o)(k:∀b u,(b=a\/H b=some (.own a))->h.get? b=some u->h'.get? b=some u)
 (ho:∀b,H b=some (.own a)->H' b=some (.own a))(ht:∀b xs,H b=some (.tup xs)->H' b=some (.tup xs)):zBs P w H' h' a o:=by
 induction o with
 | lst xs=>obtain⟨z,its,n,r,e⟩:=x;exact⟨z,its,n,r,k _ _ (.inl rfl) e⟩
 | tup xs=>obtain⟨⟨z,o2,e2,d2⟩,its,r,ob,e,c⟩:=x;exact⟨⟨z,o2,k _ _ (.inl rfl) e2,d2⟩,its,r,ob,k _ _ (.inl rfl) e,c⟩
 | dK kvs=>obtain⟨z,y,vs,r,ob,es,ep,e,c⟩:=x;exact⟨z,y,vs,r,ob,es,ep,k _ _ (.inl rfl) e,c⟩
 | dT kvs=>
  obtain⟨z,y,xs,r,ob,es,ep,e,c⟩:=x
  exact⟨z,y,xs,Paired.mapP r fun p q z=>⟨z.1,ht _ _ z.2.1,z.2.2⟩,ob,es,ep,k _ _ (.inl rfl) e,c⟩
 | set S n=>obtain⟨ob,es,ep,t,e,c⟩:=x;exact⟨ob,es,ep,t,k _ _ (.inl rfl) e,c⟩
 | ins C dx fs=>
  obtain⟨d,z,ne,e,mA,⟨od,es,ep,e2,c⟩,r⟩:=x
  exact⟨ho _ d,z,ne,k _ _ (.inl rfl) e,mA,⟨od,es,ep,k _ _ (.inr d) e2,c⟩,r⟩
 | own y=>obtain⟨ob,e⟩:=x;exact⟨ob,k _ _ (.inl rfl) e⟩
 | xd fs=>obtain⟨mA,⟨od,es,ep,e,c⟩,r⟩:=x;exact⟨mA,⟨od,es,ep,k _ _ (.inl rfl) e,c⟩,r⟩
 | rng lo hi=>obtain⟨t,u,v,e⟩:=x;exact⟨t,u,v,k _ _ (.inl rfl) e⟩
 | frz ob u ih=>obtain⟨e,q⟩:=x;exact⟨k _ _ (.inl rfl) e,ih q⟩
 | tbl ps=>
  have e:h.get? a=some { cls:=.none,data:=.fields ps }:=x
  show h'.get? a=some { cls:=.none,data:=.fields ps }
  exact k a _ (.inl rfl) e
 | met f y=>
  have e:h.get? a=some (PySem.W.methodObj (.ref f) (.ref y)):=x
  show h'.get? a=some (PySem.W.methodObj (.ref f) (.ref y))
  exact k a _ (.inl rfl) e
 | ext φ=>obtain⟨p,⟨o,e⟩,st⟩:=x;exact⟨st _ _ p fun o q=>k _ _ (.inl rfl) q,⟨o,k _ _ (.inl rfl) e⟩,st⟩
theorem HOk.lt (x:HOk P w H h)(e:H a=some o):a<h.objs.size:=(x a o e).lt
theorem HOk.fresh (x:HOk P w H h)(e:h.objs.size<=a):H a=none:=by
 cases q:H a with
 | none=>rfl
 | some u=>exact absurd (zt (x.lt q) e) (zB3 _)
theorem HOk.kept (x:HOk P w H h)(k:∀b u,h.get? b=some u->h'.get? b=some u):HOk P w H h':=fun a o e=>
 (x a o e).stay (fun b u _ q=>k b u q) (fun _ q=>q) fun _ _ q=>q
theorem HOk.laid (x:HOk P w H h)(k:∀b u,h.get? b=some u->h'.get? b=some u)(hp:h.objs.size<=a)(new:zBs P w (upd H a o) h' a o):HOk P w (upd H a o) h':=fun b u e=>by
 have hn:=x.fresh hp
 by_cases hb:b=a
 . subst hb;rw[zJ] at e;cases e;exact new
 . rw[zZ hb] at e
   exact (x b u e).stay (fun c v _ q=>k c v q) (fun c q=>by rw[zZ (zh q hn)];exact q) fun c xs q=>by rw[zZ (zh q hn)];exact q
end
noncomputable def Rd (H:Hp)(a:Addr)(u:HO):Prop:=H a=some u\/∃o,H a=some (.frz o u)
variable {h:Heap}
theorem Rd.ok {P:Program}{w:World}(r:Rd H a u)(x:HOk P w H h):zBs P w H h a u:=by
 rcases r with r | ⟨o,r⟩
 . exact x a u r
 . obtain⟨_,q⟩:=x a _ r
   exact q
noncomputable def Mut:Option HO->Prop
 | some (.lst _)=>True
 | some (.dK _)=>True
 | some (.dT _)=>True
 | some (.set _ _)=>True
 | some (.ins _ _ _)=>True
 | some (.ext _)=>True
 | _=>False
section
variable {P:Program}{w:World}{H:Hp}{h h':Heap}{x e:Addr}{o':HO}
theorem HOk.write (ok:HOk P w H h)(mu:Mut (H x))(he:e=x\/H e=some (.own x))(k:∀b u,b≠e->h.get? b=some u->h'.get? b=some u)(heo:∃u,h'.get? e=some u)
 (new:zBs P w (upd H x o') h' x o'):HOk P w (upd H x o') h':=fun b u q=>by
 have nown:∀c y,H c=some (.own y)->c≠x:=fun c y r z=>by subst z;rw[r] at mu;exact mu
 have ntup:∀c xs,H c=some (.tup xs)->c≠x:=fun c xs r z=>by subst z;rw[r] at mu;exact mu
 by_cases hb:b=x
 . subst hb;rw[zJ] at q;cases q;exact new
 . rw[zZ hb] at q
   by_cases hbe:b=e
   . have q':H b=some (.own x):=by
      rcases he with z | z
      . exact absurd (hbe.trans z) hb
      . rw[hbe];exact z
     rw[q] at q';cases q'
     obtain⟨v,hv⟩:=heo
     exact⟨v,by rw[hbe];exact hv⟩
   . refine (ok b u q).stay (fun c v hc r=>k c v ?_ r) (fun c r=>by rw[zZ (nown c b r)];exact r) fun c xs r=>by rw[zZ (ntup c xs r)];exact r
     rcases hc with rfl | hc
     . exact hbe
     . rintro rfl
       rcases he with z | z
       . exact nown c b hc z
       . rw[hc] at z;cases z;exact hb rfl
end
structure Un (fs ex:List Addr)(H H':Hp)(h h':Heap):Prop where
 keep:∀b o,h.get? b=some o->H b=none->b∉fs->b∉ex->h'.get? b=some o
 slot:∀b o,h.get? b=some o->H b=none->b∈fs->b∉ex->∃sl,h'.get? b=some { o with slots:=sl }
 free:∀b o,h.get? b=some o->H b=none->b∉ex->H' b=none
 there:∀b o,h.get? b=some o->b∉ex->∃o',h'.get? b=some o'
 tups:∀b xs,H b=some (.tup xs)->H' b=some (.tup xs)
 frzs:∀b o u,H b=some (.frz o u)->H' b=some (.frz o u)
 tbls:∀b ps,H b=some (.tbl ps)->∃more,H' b=some (.tbl (ps++more))
section
variable {fs fs' ex ex':List Addr}{H H1 H2:Hp}{h h1 h2 h':Heap}{a x e:Addr}{o:HO}
theorem Un.any (u:Un fs ex H H1 h h1){ob:Obj}(q:h.get? b=some ob)(n:H b=none)(hx:b∉ex):∃sl,h1.get? b=some { ob with slots:=sl }:=by
 by_cases hb:b∈fs
 . exact u.slot b ob q n hb hx
 . exact⟨ob.slots,u.keep b ob q n hb hx⟩
theorem Un.kept (k:∀b u,h.get? b=some u->h'.get? b=some u):Un fs ex H H h h':=
 ⟨fun b ob q _ _ _=>k b ob q,fun b ob q _ _ _=>⟨ob.slots,k b ob q⟩,fun _ _ _ n _=>n,fun b ob q _=>⟨ob,k b ob q⟩,fun _ _ q=>q,fun _ _ _ q=>q,fun _ ps q=>⟨#[],by rw[q];simp⟩⟩
theorem Un.refl:Un fs ex H H h h:=Un.kept fun _ _ q=>q
theorem Un.laid (k:∀b u,h.get? b=some u->h'.get? b=some u)(hp:h.objs.size<=a)(hn:H a=none):Un fs ex H (upd H a o) h h' where
 keep:=fun b u q _ _ _=>k b u q
 slot:=fun b u q _ _ _=>⟨u.slots,k b u q⟩
 free:=fun b u q n _=>by rw[zZ (zY (zt (zX q) hp))];exact n
 there:=fun b u q _=>⟨u,k b u q⟩
 tups:=fun b xs q=>by rw[zZ (zh q hn)];exact q
 frzs:=fun b u xs q=>by rw[zZ (zh q hn)];exact q
 tbls:=fun b ps q=>⟨#[],by rw[zZ (zh q hn),q];simp⟩
theorem Un.write (mu:Mut (H x))(he:e=x\/H e=some (.own x))(k:∀b u,b≠e->h.get? b=some u->h'.get? b=some u)(heo:∃u,h'.get? e=some u):Un fs ex H (upd H x o) h h':=by
 have hx:∀b,H b=none->b≠x:=fun b n z=>by subst z;rw[n] at mu;exact mu
 have hb:∀b,H b=none->b≠e:=fun b n z=>by
  subst z
  rcases he with r | r
  . exact hx b n r
  . rw[n] at r;cases r
 have hm:∀b u,H b=some u->¬ Mut (some u)->b≠x:=fun b u q nm z=>by subst z;rw[q] at mu;exact nm mu
 refine⟨fun b u q n _ _=>k b u (hb b n) q,fun b u q n _ _=>⟨u.slots,k b u (hb b n) q⟩,fun b u q n _=>by rw[zZ (hx b n)];exact n,fun b u q _=>?_,
  fun b xs q=>by rw[zZ (hm b _ q fun z=>z)];exact q,fun b u xs q=>by rw[zZ (hm b _ q fun z=>z)];exact q,fun b ps q=>⟨#[],by rw[zZ (hm b _ q fun z=>z),q];simp⟩⟩
 by_cases hbe:b=e
 . subst hbe;exact heo
 . exact⟨u,k b u hbe q⟩
end
noncomputable def trk (h:Heap)(H:Hp):List Addr:=(List.range h.objs.size).filter fun a=>(H a).isSome
noncomputable def zI5 (h:Heap)(H:Hp):Heap:=PySem.W.hideAll h (trk h H)
theorem zIW (h:Heap)(H:Hp):(zI5 h H).objs.size=h.objs.size:=PySem.W.hideAll_size _ _
theorem zJn {o:Obj}(e:h.get? b=some o)(n:H b=none):(zI5 h H).get? b=some o:=
 PySem.W.hideAll_get _ e fun hm=>by
  have q:(H b).isSome=true:=(zAu.mp hm).2
  rw[n] at q;simp at q
theorem zLL {o:Obj}(e:(zI5 h H).get? b=some o):h.get? b=some o/\H b=none:=by
 have e':h.get? b=some o:=PySem.W.of_hideAll (trk h H) e
 refine⟨e',?_⟩
 cases q:H b with
 | none=>rfl
 | some x=>
  have hm:b∈trk h H:=zAu.mpr ⟨zCD.mpr (zX e'),by simp[q]⟩
  have z:(zI5 h H).get? b=none:=PySem.W.hideAll_none (trk h H) hm
  rw[z] at e;cases e
noncomputable def zD5 (g h:Heap)(L:Addr):List (Addr×Obj):=(List.range h.objs.size).filterMap fun a=>if a=L\/(g.get? a).isSome=true then none else (h.get? a).map fun o=>(a,o)
variable {g:Heap}{L:Addr}
theorem zF5 {o:Obj}(h1:a≠L)(h2:g.get? a=none)(h3:h.get? a=some o):(a,o)∈zD5 g h L:=
 zA9.mpr ⟨a,zCD.mpr (zX h3),by simp[h1,h2,h3]⟩
theorem zEC {p:Addr×Obj}(hp:p∈zD5 g h L):p.1≠L/\g.get? p.1=none/\h.get? p.1=some p.2:=by
 obtain⟨b,_,e⟩:=zA9.mp hp
 split at e
 . cases e
 . rename_i hn
   cases q:h.get? b with
   | none=>rw[q] at e;simp at e
   | some u=>
    rw[q] at e
    simp only[zAs,Option.some.injEq] at e
    subst e
    refine⟨fun z=>hn (.inl z),?_,q⟩
    show g.get? b=none
    cases r:g.get? b with
    | none=>rfl
    | some v=>exact (hn (.inr (by simp[r]))).elim
theorem zJh:News g L h (zD5 g h L):=fun p hp=>let ⟨a,b,c⟩:=zEC hp;⟨c,a,b⟩
end L2
namespace L2
open PySem PySem.Spec PyProof.Rows
structure Mod (K:PySem.W.Frag)(mg:Str->Option Value)(base:Heap):Prop where
 kin:K.In base
 glob:base.Ns mainGlobals mg
 blt:∃mb,base.Ns builtinsNs mb/\∀x:Str,x ≠ "__name__" -> mb x=bootBuiltins x
 nolimit:base.NoLimit
structure Cx where
 prog:Program
 w:World
 K:PySem.W.Frag
 mg:Str->Option Value
 base:Heap
 A:Around
 N:List Str
 s₀:Shared
 H₀:Hp
 env:Env
 outer:List Env
 stack:List Env
 ex:List Addr
 fn:Str->Bool
 calm:Bool
 pn:List (Addr×Obj)
 xe:Value->Shared->Prop
noncomputable def frs (l:List Env):List Addr:=l.filterMap (·.frame)
noncomputable abbrev Cx.fs (X:Cx):List Addr:=frs X.outer
noncomputable def Vis (sc:Scope)(x:Str):Prop:=sc.names.lookup x=some .local\/sc.names.lookup x=some .cell\/sc.names.lookup x=some .free
noncomputable def Loc (sc:Scope)(x:Str):Prop:=sc.names.lookup x=some .local\/sc.names.lookup x=some .cell
noncomputable def zI0 (env:Env)(h:Heap)(m:Str->Option Value)(x:Str)(u:Value):Prop:=
 (env.kindOf x=some .local/\m x=some u)\/((env.kindOf x=some .cell\/env.kindOf x=some .free)/\∃c,env.cells.lookup x=some c/\h.IsCell c (some u))
structure Cx.Ok (X:Cx):Prop where
 mod:Mod X.K X.mg X.base
 kind:X.env.scope.kind = .function
 glob:X.env.globals=mainGlobals
 blt:X.env.builtins=builtinsNs
 above:X.s₀.heap.objs.size<=X.env.locals
 inj:∀x y c,X.env.cells.lookup x=some c->X.env.cells.lookup y=some c->x=y
 has:∀x,(X.env.kindOf x=some .cell\/X.env.kindOf x=some .free)->∃c,X.env.cells.lookup x=some c
 cab:∀x c,X.fn x=true->X.env.cells.lookup x=some c->X.s₀.heap.objs.size<=c
 hd:X.calm=true->X.A.handled=none
 frames:X.A.frames=some X.stack
 stk:X.stack=X.outer\/(X.stack=X.env::X.outer/\X.env.frame=some X.env.locals)
 exf:∀b∈X.ex,b≠X.env.locals/\∀x c,X.env.cells.lookup x=some c->c≠b
 bs:∀b o,X.base.get? b=some o->X.s₀.heap.get? b=some o/\X.H₀ b=none
 bsz:X.base.objs.size<=X.s₀.heap.objs.size
 noex:∀b o,X.base.get? b=some o->b∉X.ex
 exfs:∀b∈X.ex,b∉X.fs
 funs:X.s₀.heap.FunFrames X.base X.outer
 frf:∀b∈X.fs,X.H₀ b=none
structure Inv (X:Cx)(pins:List (Addr×Obj))(σ:List (Option V))(H:Hp)(s:Shared):Prop where
 ok:X.Ok
 os:s.os=X.s₀.os
 bare:AllBare s.gens
 base:Un X.fs X.ex X.H₀ H X.s₀.heap s.heap
 loc:∃m,s.heap.Ns X.env.locals m/\∀(i:Nat)(x:Str)(v:V),X.N[i]? = some x->σ[i]? = some (some v)->Vis X.env.scope x->∃u,zBi v u/\zI0 X.env s.heap m x u
 cell:∀x c,X.env.cells.lookup x=some c->∃v,s.heap.IsCell c v
 free:H X.env.locals=none
 freeC:∀x c,X.env.cells.lookup x=some c->H c=none
 pin:∀p∈X.pn++pins,s.heap.get? p.1=some p.2/\H p.1=none/\p.1≠X.env.locals/\p.1∉X.fs/\∀v,p.2.data ≠ .cell v
 hok:HOk X.prog X.w H s.heap
 len:σ.length=X.N.length
variable {t' i:Nat}{x:Str}{M:Model}{A:Around}{E:Value->Shared->Prop}
section
variable {X:Cx}{pins:List (Addr×Obj)}{σ:List (Option V)}{H H':Hp}{s:Shared}{h':Heap}
theorem Cx.Ok.nofr (ok:X.Ok){b:Addr}{o:Obj}(e:X.base.get? b=some o):b∉X.fs:=fun hb=>by
 have:=(ok.funs.mem hb).1
 rw[e] at this;cases this
theorem Inv.bs (I:Inv X pins σ H s):∀b o,X.base.get? b=some o->s.heap.get? b=some o/\H b=none:=fun b o e=>
 ⟨I.base.keep b o (I.ok.bs b o e).1 (I.ok.bs b o e).2 (I.ok.nofr e) (I.ok.noex b o e),I.base.free b o (I.ok.bs b o e).1 (I.ok.bs b o e).2 (I.ok.noex b o e)⟩
theorem Inv.bk (I:Inv X pins σ H s):∀b o,X.base.get? b=some o->s.heap.get? b=some o:=fun b o e=>(I.bs b o e).1
theorem Inv.mod (I:Inv X pins σ H s):Mod X.K X.mg X.base:=I.ok.mod
theorem Inv.kIn (I:Inv X pins σ H s):X.K.In s.heap:=I.ok.mod.kin.keeps I.bk
theorem Inv.fr (I:Inv X pins σ H s):∃m,Fr X.base X.env.locals s.heap m:=
 let ⟨m,hn,_⟩:=I.loc
 ⟨m,hn,I.bk,zy I.ok.bsz I.ok.above⟩
theorem Inv.lt (I:Inv X pins σ H s):X.env.locals<s.heap.objs.size:=let ⟨_,hn,_⟩:=I.loc;hn.lt
theorem Inv.sz (I:Inv X pins σ H s):X.s₀.heap.objs.size<=s.heap.objs.size:=zy I.ok.above (zBq I.lt)
theorem Inv.nofs (I:Inv X pins σ H s){a:Addr}(h:s.heap.objs.size<=a):a∉X.fs:=fun hb=>by
 obtain⟨_,o,ho,_⟩:=I.ok.funs.mem hb
 exact absurd (zt (zX ho) (zy I.sz h)) (zB3 _)
theorem Inv.cne (I:Inv X pins σ H s):∀x c,X.env.cells.lookup x=some c->c≠X.env.locals:=fun x c e z=>by
 obtain⟨v,o,ho,hd⟩:=I.cell x c e
 obtain⟨m,⟨o',es,ep,ho',hd',_⟩,_⟩:=I.loc
 rw[z,ho'] at ho;cases ho;rw[hd'] at hd;cases hd
theorem Inv.funs (I:Inv X pins σ H s):s.heap.FunFrames X.base X.outer:=by
 have all:∀(l:List Env),(∀b∈frs l,b∈X.fs)->X.s₀.heap.FunFrames X.base l->s.heap.FunFrames X.base l:=by
  intro l
  induction l with
  | nil=>intro _ _;trivial
  | cons env r ih=>
   intro hs hl
   obtain⟨hk,⟨L,o,hf,hn,ho,hd⟩,hr⟩:=hl
   have hL:L∈X.fs:=hs L (by unfold frs;rw[List.filterMap_cons,hf];exact zl)
   obtain⟨sl,e⟩:=I.base.slot L o ho (I.ok.frf L hL) hL fun z=>I.ok.exfs L z hL
   exact⟨hk,⟨L,_,hf,hn,e,hd⟩,ih (fun b hb=>hs b (by unfold frs;rw[List.filterMap_cons,hf];exact zv _ hb)) hr⟩
 exact all X.outer (fun _ hb=>hb) I.ok.funs
theorem Inv.stack (I:Inv X pins σ H s):s.heap.FunFrames X.base X.stack:=by
 rcases I.ok.stk with e | ⟨e,hf⟩
 . rw[e];exact I.funs
 . rw[e]
   obtain⟨m,hn,_⟩:=I.loc
   refine .cons (by rw[I.ok.kind];decide) hf hn ?_ I.funs
   exact Heap.get?_none_of_le (zy I.ok.bsz I.ok.above)
theorem Inv.stkSub (I:Inv X pins σ H s):∀b∈frs X.stack,b∈X.env.locals::X.fs:=fun b hb=>by
 rcases I.ok.stk with e | ⟨e,hf⟩
 . rw[e] at hb;exact zv _ hb
 . rw[e] at hb
   unfold frs at hb
   rw[List.filterMap_cons,hf] at hb
   exact hb
theorem Inv.stkFree (I:Inv X pins σ H s):∀b∈frs X.stack,H b=none:=fun b hb=>by
 rcases zm.mp (I.stkSub b hb) with e | hb
 . rw[e];exact I.free
 . obtain⟨_,o,ho,_⟩:=I.ok.funs.mem hb
   exact I.base.free b o ho (I.ok.frf b hb) fun z=>I.ok.exfs b z hb
theorem Inv.step {g':Array GenState}{t':Nat}{d':Drawn}{ch:List Addr}(I:Inv X pins σ H s)
 (hch:∀b∈ch,(b∈X.ex\/X.s₀.heap.objs.size<=b)/\b≠X.env.locals/\(∀x c,X.env.cells.lookup x=some c->c≠b)/\∀p∈X.pn++pins,p.1≠b)
 (keep:∀b o,b≠X.env.locals->b∉X.fs->b∉ch->s.heap.get? b=some o->H b=none->h'.get? b=some o)
 (slot:∀b o,b≠X.env.locals->b∈X.fs->b∉ch->s.heap.get? b=some o->H b=none->∃sl,h'.get? b=some { o with slots:=sl })(free:∀b o,b∉ch->s.heap.get? b=some o->H b=none->H' b=none)
 (there:∀b o,b∉ch->s.heap.get? b=some o->∃o',h'.get? b=some o')
 (tups:∀b xs,H b=some (.tup xs)->H' b=some (.tup xs))(frzs:∀b o u,H b=some (.frz o u)->H' b=some (.frz o u))(tbls:∀b ps,H b=some (.tbl ps)->∃more,H' b=some (.tbl (ps++more)))
 (ns:∀m,s.heap.Ns X.env.locals m->h'.Ns X.env.locals m)(hok:HOk X.prog X.w H' h')(hg:AllBare g') :
 Inv X pins σ H' { s with heap:=h',gens:=g',drawn:=d',toks:=t' }:=by
 have neL:∀b o,X.s₀.heap.get? b=some o->b≠X.env.locals:=fun b o e=>zY (zt (zX e) I.ok.above)
 have neC:∀b o,X.s₀.heap.get? b=some o->b∉X.ex->b∉ch:=fun b o e hx hb=>by
  rcases (hch b hb).1 with z | z
  . exact hx z
  . exact absurd (zt (zX e) z) (zB3 _)
 have cellK:∀x c,X.env.cells.lookup x=some c->∀v,s.heap.IsCell c v->h'.IsCell c v:=fun x c e v ⟨o,ho,hd⟩=>by
  have nch:c∉ch:=fun z=>(hch c z).2.2.1 x c e rfl
  by_cases hc:c∈X.fs
  . obtain⟨sl,q⟩:=slot c o (I.cne x c e) hc nch ho (I.freeC x c e)
    exact⟨_,q,hd⟩
  . exact⟨o,keep c o (I.cne x c e) hc nch ho (I.freeC x c e),hd⟩
 refine⟨I.ok,I.os,hg,⟨fun b o e n hb hx=>?_,fun b o e n hb hx=>?_,fun b o e n hx=>?_,fun b o e hx=>?_,fun b xs e=>tups b xs (I.base.tups b xs e),fun b o xs e=>frzs b o xs (I.base.frzs b o xs e),fun b ps e=>?_⟩,?_,fun x c e=>?_,?_,fun x c e=>?_,fun p hp=>?_,hok,I.len⟩
 . exact keep b o (neL b o e) hb (neC b o e hx) (I.base.keep b o e n hb hx) (I.base.free b o e n hx)
 . obtain⟨sl,e1⟩:=I.base.slot b o e n hb hx
   obtain⟨sl',e2⟩:=slot b _ (neL b o e) hb (neC b o e hx) e1 (I.base.free b o e n hx)
   exact⟨sl',e2⟩
 . obtain⟨o',e1⟩:=I.base.there b o e hx
   exact free b o' (neC b o e hx) e1 (I.base.free b o e n hx)
 . obtain⟨o',e1⟩:=I.base.there b o e hx
   exact there b o' (neC b o e hx) e1
 . obtain⟨m1,e1⟩:=I.base.tbls b ps e
   obtain⟨m2,e2⟩:=tbls b _ e1
   exact⟨m1++m2,by rw[e2,Array.append_assoc]⟩
 . obtain⟨m,hn,hl⟩:=I.loc
   refine⟨m,ns m hn,fun i x v e1 e2 e3=>?_⟩
   obtain⟨u,r,l⟩:=hl i x v e1 e2 e3
   refine⟨u,r,?_⟩
   rcases l with l | ⟨k,c,e,z⟩
   . exact .inl l
   . exact .inr ⟨k,c,e,cellK x c e _ z⟩
 . obtain⟨v,z⟩:=I.cell x c e
   exact⟨v,cellK x c e v z⟩
 . obtain⟨m,⟨o,_,_,ho,_⟩,_⟩:=I.loc
   exact free _ o (fun z=>(hch _ z).2.1 rfl) ho I.free
 . obtain⟨v,o,ho,hd⟩:=I.cell x c e
   exact free c o (fun z=>(hch c z).2.2.1 x c e rfl) ho (I.freeC x c e)
 . obtain⟨e,n,ne,nf,d⟩:=I.pin p hp
   have nch:p.1∉ch:=fun z=>(hch p.1 z).2.2.2 p hp rfl
   exact⟨keep p.1 p.2 ne nf nch e n,free p.1 p.2 nch e n,ne,nf,d⟩
theorem Inv.un (I:Inv X pins σ H s)(u:Un X.fs [] H H' s.heap h')(hok:HOk X.prog X.w H' h'):Inv X pins σ H' { s with heap:=h',toks:=t' }:=by
 obtain⟨m,⟨o,es,ep,ho,r⟩,_⟩:=id I.loc
 obtain⟨sl,hL⟩:=u.any ho I.free (by simp)
 exact I.step (g':=s.gens) (d':=s.drawn) (ch:=[]) (fun _ z=>nomatch z) (fun b o _ hb _ e n=>u.keep b o e n hb (by simp)) (fun b o _ hb _ e n=>u.slot b o e n hb (by simp)) (fun b o _ e n=>u.free b o e n (by simp)) (fun b o _ e=>u.there b o e (by simp)) u.tups u.frzs u.tbls (fun m' hm=>by
  obtain⟨o',es',ep',ho',r'⟩:=hm
  rw[ho] at ho';cases ho'
  exact⟨_,es',ep',hL,r'⟩) hok I.bare
theorem Inv.call {g':Array GenState}{d':Drawn}{ch:List Addr}(I:Inv X pins σ H s)(u:Un (frs X.stack) ch H H' s.heap h')(hok:HOk X.prog X.w H' h')(hg:AllBare g')
 (hch:∀b∈ch,(b∈X.ex\/X.s₀.heap.objs.size<=b)/\b≠X.env.locals/\(∀x c,X.env.cells.lookup x=some c->c≠b)/\∀p∈X.pn++pins,p.1≠b) :
 Inv X pins σ H' { s with heap:=h',gens:=g',drawn:=d',toks:=t' }:=by
 obtain⟨m,⟨o,es,ep,ho,r⟩,_⟩:=id I.loc
 obtain⟨sl,hL⟩:=u.any ho I.free fun z=>(hch _ z).2.1 rfl
 exact I.step (ch:=ch) hch (fun b o hL hb hc e n=>u.keep b o e n (fun z=>(zm.mp (I.stkSub b z)).elim hL hb) hc) (fun b o _ _ hc e n=>u.any e n hc) (fun b o hc e n=>u.free b o e n hc) (fun b o hc e=>u.there b o e hc) u.tups u.frzs u.tbls (fun m' hm=>by
  obtain⟨o',es',ep',ho',r'⟩:=hm
  rw[ho] at ho';cases ho'
  exact⟨_,es',ep',hL,r'⟩) hok hg
theorem Inv.turned {it:Addr}(I:Inv X pins σ H s)(k:∀b o,b≠it->s.heap.get? b=some o->h'.get? b=some o)(hn:H it=none)(hL:it≠X.env.locals)
 (h1:it∈X.ex\/X.s₀.heap.objs.size<=it)(h2:∀x c,X.env.cells.lookup x=some c->c≠it)(h3:∀p∈X.pn++pins,p.1≠it):Inv X pins σ H { s with heap:=h',toks:=t' }:=by
 have nit:∀b u,H b=some u->b≠it:=fun b u e z=>by rw[z,hn] at e;cases e
 refine I.step (g':=s.gens) (d':=s.drawn) (ch:=[it]) (fun b hb=>?_) (fun b o _ _ hc e _=>k b o (fun z=>hc (by simp[z])) e) (fun b o _ _ hc e _=>⟨o.slots,k b o (fun z=>hc (by simp[z])) e⟩) (fun _ _ _ _ n=>n)
  (fun b o hc e=>⟨o,k b o (fun z=>hc (by simp[z])) e⟩) (fun _ _ e=>e) (fun _ _ _ e=>e) (fun b ps e=>⟨#[],by rw[e];simp⟩) (fun m hm=>?_) (fun b u e=>?_) I.bare
 . have e:b=it:=by simpa using hb
   subst e
   exact⟨h1,hL,h2,h3⟩
 . obtain⟨o,es,ep,ho,r⟩:=hm
   exact⟨o,es,ep,k _ o (Ne.symm hL) ho,r⟩
 . refine (I.hok b u e).stay (fun c v hc q=>k c v ?_ q) (fun _ q=>q) fun _ _ q=>q
   rcases hc with z | z
   . rw[z];exact nit b u e
   . exact nit c _ z
theorem Inv.tok (I:Inv X pins σ H s)(t:Nat):Inv X pins σ H { s with toks:=t }:=I.un (h':=s.heap) (t':=t) Un.refl I.hok
theorem Inv.kept (I:Inv X pins σ H s)(k:∀b u,s.heap.get? b=some u->h'.get? b=some u):Inv X pins σ H { s with heap:=h',toks:=t' }:=I.un (Un.kept k) (I.hok.kept k)
theorem Inv.laid {a:Addr}{o:HO}{t':Nat}(I:Inv X pins σ H s)(k:∀b u,s.heap.get? b=some u->h'.get? b=some u)(hp:s.heap.objs.size<=a)(new:zBs X.prog X.w (upd H a o) h' a o) :
 Inv X pins σ (upd H a o) { s with heap:=h',toks:=t' }:=I.un (Un.laid k hp (I.hok.fresh hp)) (I.hok.laid k hp new)
theorem Inv.write {x e:Addr}{o:HO}{t':Nat}(I:Inv X pins σ H s)(mu:Mut (H x))(he:e=x\/H e=some (.own x))(k:∀b u,b≠e->s.heap.get? b=some u->h'.get? b=some u)(heo:∃u,h'.get? e=some u)
 (new:zBs X.prog X.w (upd H x o) h' x o):Inv X pins σ (upd H x o) { s with heap:=h',toks:=t' }:=I.un (Un.write mu he k heo) (I.hok.write mu he k heo new)
theorem Inv.weak {σ':List (Option V)}(I:Inv X pins σ H s)(hl:σ'.length=σ.length)(w:∀(i:Nat) v,σ'[i]? = some (some v)->σ[i]? = some (some v)):Inv X pins σ' H s:=
 ⟨I.ok,I.os,I.bare,I.base,let ⟨m,hn,hl'⟩:=I.loc;⟨m,hn,fun i x v e1 e2 e3=>hl' i x v e1 (w i v e2) e3⟩,I.cell,I.free,I.freeC,I.pin,I.hok,hl.trans I.len⟩
theorem Inv.pins_of {pins':List (Addr×Obj)}(I:Inv X pins σ H s)(h:∀p∈pins',s.heap.get? p.1=some p.2/\H p.1=none/\p.1≠X.env.locals/\p.1∉X.fs/\∀v,p.2.data ≠ .cell v):Inv X pins' σ H s:=
 ⟨I.ok,I.os,I.bare,I.base,I.loc,I.cell,I.free,I.freeC,fun p hp=>(zu.mp hp).elim (fun z=>I.pin p (zAE _ z)) (h p),I.hok,I.len⟩
theorem zGd {N:List Str}(hN:N.Nodup){j:Nat}(a:N[i]? = some x)(b:N[j]? = some x):i=j:=by
 obtain⟨h1,e1⟩:=zE.mp a
 obtain⟨h2,e2⟩:=zE.mp b
 exact (List.getElem_inj hN).mp (e1.trans e2.symm)
theorem zHX {v:V}{u:Value}{Q:Unit->Shared->Prop}(I:Inv X pins σ H s)(hN:X.N.Nodup)(hi:X.N[i]? = some x)(hx:Loc X.env.scope x)(r:zBi v u)
 (h:∀s',Inv X pins (σ.set i (some v)) H s'->(∃a,Heap.SameBut a s.heap s'.heap/\(a=X.env.locals\/X.env.cells.lookup x=some a))->Q () s')(hf:X.fn x=true\/X.env.scope.names.lookup x=some .local:=by first | exact .inl rfl | exact .inr rfl | assumption):wpAny M A (storeName X.env x u) Q E s:=by
 obtain⟨m,hn,hl⟩:=id I.loc
 have hcls:(X.env.scope.kind == .class || (X.env.scope.kind == .module && X.env.locals != X.env.globals))=false:=by rw[I.ok.kind];rfl
 have hiσ:i<σ.length:=by rw[I.len];exact (zE.mp hi).1
 have cne:=I.cne
 have tracked:∀{a:Addr}{h':Heap},(∃o,s.heap.get? a=some o/\H a=none)->Heap.SameBut a s.heap h'->HOk X.prog X.w H h':=fun {a h'} ha hs b ob e=>by
  obtain⟨_,_,hfree⟩:=ha
  refine (I.hok b ob e).stay (fun c w' hc q=>(hs.2 c ?_).trans q) (fun _ q=>q) fun _ _ q=>q
  rintro rfl
  rcases hc with rfl | hc
  . rw[hfree] at e;cases e
  . rw[hfree] at hc;cases hc
 rcases hx with hk | hk
 . refine wpAny_storeName_local hk hn (fun h' hn' hs=>?_) hcls
   obtain⟨oL,_,_,hoL,_⟩:=id hn
   refine h _ ⟨I.ok,I.os,I.bare,⟨fun b o e n hb hx=>?_,fun b o e n hb hx=>?_,I.base.free,fun b o e hx=>?_,I.base.tups,I.base.frzs,I.base.tbls⟩,⟨_,hn',fun j y v' e1 e2 e3=>?_⟩,fun y c e=>?_,I.free,I.freeC,fun p hp=>?_,tracked ⟨oL,hoL,I.free⟩ hs,by simpa using I.len⟩ ⟨_,hs,.inl rfl⟩
   . exact (hs.2 b (zY (zt (zX e) I.ok.above))).trans (I.base.keep b o e n hb hx)
   . obtain⟨sl,e1⟩:=I.base.slot b o e n hb hx
     exact⟨sl,(hs.2 b (zY (zt (zX e) I.ok.above))).trans e1⟩
   . obtain⟨o',e1⟩:=I.base.there b o e hx
     exact⟨o',(hs.2 b (zY (zt (zX e) I.ok.above))).trans e1⟩
   . by_cases hj:j=i
     . subst hj
       rw[hi] at e1;cases e1
       rw[zA2 hiσ] at e2
       cases e2
       exact⟨u,r,.inl ⟨hk,by simp⟩⟩
     . rw[zBO (Ne.symm hj)] at e2
       obtain⟨u',r',q⟩:=hl j y v' e1 e2 e3
       refine⟨u',r',?_⟩
       rcases q with ⟨k,e⟩ | ⟨k,c,e,z⟩
       . refine .inl ⟨k,?_⟩
         have:y≠x:=fun e=>hj (zGd hN e1 (e ▸ hi))
         simp[this,e]
       . exact .inr ⟨k,c,e,z.sameBut hs (cne y c e)⟩
   . obtain⟨w',z⟩:=I.cell y c e
     exact⟨w',z.sameBut hs (cne y c e)⟩
   . obtain⟨e,n,ne,nf,d⟩:=I.pin p hp
     exact⟨(hs.2 p.1 ne).trans e,n,ne,nf,d⟩
 . have hfn:X.fn x=true:=by
    rcases hf with z | z
    . exact z
    . rw[z] at hk;cases hk
   obtain⟨c,hc⟩:=I.ok.has x (.inl hk)
   obtain⟨w',z⟩:=I.cell x c hc
   refine wpAny_storeName_cell I.ok.kind hk hc z (fun h' hc' hs=>?_)
   obtain⟨oc,hoc,hocd⟩:=id z
   refine h { s with heap:=h' } ⟨I.ok,I.os,I.bare,⟨fun b o e n hb hx=>?_,fun b o e n hb hx=>?_,I.base.free,fun b o e hx=>?_,I.base.tups,I.base.frzs,I.base.tbls⟩,⟨m,hn.sameBut hs (Ne.symm (cne x c hc)),fun j y v' e1 e2 e3=>?_⟩,fun y c' e=>?_,I.free,I.freeC,fun p hp=>?_,tracked ⟨oc,hoc,I.freeC x c hc⟩ hs,by simpa using I.len⟩ ⟨c,hs,.inr hc⟩
   . exact (hs.2 b (zY (zt (zX e) (I.ok.cab x c hfn hc)))).trans (I.base.keep b o e n hb hx)
   . obtain⟨sl,e1⟩:=I.base.slot b o e n hb hx
     exact⟨sl,(hs.2 b (zY (zt (zX e) (I.ok.cab x c hfn hc)))).trans e1⟩
   . obtain⟨o',e1⟩:=I.base.there b o e hx
     exact⟨o',(hs.2 b (zY (zt (zX e) (I.ok.cab x c hfn hc)))).trans e1⟩
   . by_cases hj:j=i
     . subst hj
       rw[hi] at e1;cases e1
       rw[zA2 hiσ] at e2
       cases e2
       exact⟨u,r,.inr ⟨.inl hk,c,hc,hc'⟩⟩
     . rw[zBO (Ne.symm hj)] at e2
       obtain⟨u',r',q⟩:=hl j y v' e1 e2 e3
       refine⟨u',r',?_⟩
       rcases q with q | ⟨k,c',e,z'⟩
       . exact .inl q
       . refine .inr ⟨k,c',e,z'.sameBut hs ?_⟩
         rintro rfl
         exact hj (zGd hN e1 (I.ok.inj _ _ _ e hc ▸ hi))
   . by_cases hcc:c'=c
     . subst hcc;exact⟨_,hc'⟩
     . obtain⟨w2,z2⟩:=I.cell y c' e
       exact⟨w2,z2.sameBut hs hcc⟩
   . obtain⟨e,n,ne,nf,d⟩:=I.pin p hp
     refine⟨(hs.2 p.1 ?_).trans e,n,ne,nf,d⟩
     intro q
     rw[q,hoc] at e
     have q':oc=p.2:=zR e
     exact d w' (by rw[<-q'];exact hocd)
theorem zDR {v:V}{u:Value}{Q:Unit->Shared->Prop}(I:Inv X pins σ H s)(hN:X.N.Nodup)(hi:X.N[i]? = some x)(hx:Loc X.env.scope x)(r:zBi v u)
 (h:∀s',Inv X pins (σ.set i (some v)) H s'->Q () s')(hf:X.fn x=true\/X.env.scope.names.lookup x=some .local:=by first | exact .inl rfl | exact .inr rfl | assumption):wpAny M A (storeName X.env x u) Q E s:=
 zHX I hN hi hx r (fun s' I' _=>h s' I') hf
theorem Inv.call' {s':Shared}{ch:List Addr}(I:Inv X pins σ H s)(ho:s'.os=s.os)(u:Un (frs X.stack) ch H H' s.heap s'.heap)(hok:HOk X.prog X.w H' s'.heap)(hg:AllBare s'.gens)
 (hch:∀b∈ch,(b∈X.ex\/X.s₀.heap.objs.size<=b)/\b≠X.env.locals/\(∀x c,X.env.cells.lookup x=some c->c≠b)/\∀p∈X.pn++pins,p.1≠b):Inv X pins σ H' s':=by
 obtain⟨h',g',d',t',o'⟩:=s'
 have e:o'=s.os:=ho
 subst e
 exact I.call (g':=g') (t':=t') (d':=d') u hok hg hch
end
noncomputable abbrev XK:=Value->Option Addr->Hp->Prop
noncomputable abbrev St:=List (Option V)
noncomputable abbrev VK:=V->Hp->Prop
noncomputable abbrev TE:=St->Hp->VK->Prop
noncomputable abbrev TT:=St->Hp->(Bool->Hp->Prop)->Prop
noncomputable abbrev TA:=St->Hp->(List V->Hp->Prop)->Prop
structure zJ2 where
 nx:St->Hp->Prop
 rt:VK
 bk:St->Hp->Prop:=fun _ _=>False
 ct:St->Hp->Prop:=fun _ _=>False
noncomputable abbrev TS:=zJ2->St->Hp->Prop
noncomputable def EP (X:Cx)(pins:List (Addr×Obj))(σ:St)(Q:VK)(u:Value)(s':Shared):Prop:=∃v H',Inv X pins σ H' s'/\zBi v u/\Q v H'
noncomputable def TP (X:Cx)(pins:List (Addr×Obj))(σ:St)(Q:Bool->Hp->Prop)(b:Bool)(s':Shared):Prop:=∃H',Inv X pins σ H' s'/\Q b H'
noncomputable def AP (X:Cx)(pins:List (Addr×Obj))(σ:St)(Q:List V->Hp->Prop)(us:List Value)(s':Shared):Prop:=∃vs H',Inv X pins σ H' s'/\zBR vs us/\Q vs H'
noncomputable def SP (X:Cx)(pins:List (Addr×Obj))(D:zJ2)(f:Flow)(s':Shared):Prop:=
 match f with
 | .next=>∃ σ' H',Inv X pins σ' H' s'/\D.nx σ' H'
 | .brk=>∃ σ' H',Inv X pins σ' H' s'/\D.bk σ' H'
 | .cont=>∃ σ' H',Inv X pins σ' H' s'/\D.ct σ' H'
 | .ret u=>∃v σ' H',Inv X pins σ' H' s'/\zBi v u/\D.rt v H'
noncomputable def PE (X:Cx)(e:Expr)(t:TE):Prop:=
 ∀(pins:List (Addr×Obj))(s:Shared)(σ:St)(H:Hp)(Q:VK),Inv X pins σ H s->t σ H Q->wpAny (model X.prog X.w) X.A (eval e X.env) (EP X pins σ Q) X.xe s
noncomputable def PT (X:Cx)(e:Expr)(t:TT):Prop:=
 ∀(pins:List (Addr×Obj))(s:Shared)(σ:St)(H:Hp)(Q:Bool->Hp->Prop),Inv X pins σ H s->t σ H Q->wpAny (model X.prog X.w) X.A (isTrue e X.env (eval e X.env)) (TP X pins σ Q) X.xe s
noncomputable def PW (X:Cx)(e:Expr)(t:TT):Prop:=
 ∀(whole:Sem Value)(pins:List (Addr×Obj))(s:Shared)(σ:St)(H:Hp)(Q:Bool->Hp->Prop),Inv X pins σ H s->t σ H Q->wpAny (model X.prog X.w) X.A (isTrue e X.env whole) (TP X pins σ Q) X.xe s
theorem PW.pt {X:Cx}{e:Expr}{t:TT}(h:PW X e t):PT X e t:=h _
noncomputable def PA (X:Cx)(es:List Expr)(t:TA):Prop:=
 ∀(pos:Pos)(pins:List (Addr×Obj))(s:Shared)(σ:St)(H:Hp)(Q:List V->Hp->Prop),Inv X pins σ H s->t σ H Q->wpAny (model X.prog X.w) X.A (spliced (backTo pos (starEach es X.env))) (AP X pins σ Q) X.xe s
noncomputable def PS (X:Cx)(st:Stmt)(t:TS):Prop:=
 ∀(pins:List (Addr×Obj))(s:Shared)(σ:St)(H:Hp)(D:zJ2),Inv X pins σ H s->t D σ H->wpAny (model X.prog X.w) X.A (exec st X.env) (SP X pins D) X.xe s
noncomputable def PSs (X:Cx)(st:List Stmt)(t:TS):Prop:=
 ∀(pins:List (Addr×Obj))(s:Shared)(σ:St)(H:Hp)(D:zJ2),Inv X pins σ H s->t D σ H->wpAny (model X.prog X.w) X.A (execs st X.env) (SP X pins D) X.xe s
theorem thn {α:Type}{t:Sem α}{Q Q':α->Shared->Prop}{s:Shared}(h:wpAny M A t Q E s)(hQ:∀a s,Q a s->Q' a s):wpAny M A t Q' E s:=zBW h hQ fun _ _ x=>x
end L2
namespace L2
open PySem PySem.Spec PyProof.Rows
variable {pins:List (Addr×Obj)}{s:Shared}{σ:St}{H:Hp}{x:Str}{pos:Pos}
section
variable {X:Cx}
theorem bin {a b:Expr}{ta tb:TE}(ha:PE X a ta)(hb:PE X b tb){R:V->V->Hp->Prop}(I:Inv X pins σ H s)(h:ta σ H fun x H1=>tb σ H1 fun y H2=>R x y H2)
 {α:Type}{Q:α->Shared->Prop}{f:Value->Value->Sem α}
 (hf:∀v u s2 x y H2,Inv X pins σ H2 s2->zBi x v->zBi y u->R x y H2->wpAny (model X.prog X.w) X.A (f v u) Q X.xe s2) :
 wpAny (model X.prog X.w) X.A (eval a X.env) (fun v s₁=>wpAny (model X.prog X.w) X.A (eval b X.env) (fun u s₂=>wpAny (model X.prog X.w) X.A (f v u) Q X.xe s₂) X.xe s₁) X.xe s:=by
 refine thn (ha pins s σ H _ I h) fun v s1 ⟨x,H1,I1,r1,q1⟩=>?_
 refine thn (hb pins s1 σ H1 _ I1 q1) fun u s2 ⟨y,H2,I2,r2,q2⟩=>?_
 exact hf v u s2 x y H2 I2 r1 r2 q2
noncomputable def tVar (i:Nat):TE:=fun σ H Q=>∃v,σ[i]? = some (some v)/\Q v H
noncomputable def tC (v:V):TE:=fun _ H Q=>Q v H
theorem pe_var {i:Nat}(hN:X.N[i]? = some x)(hv:Vis X.env.scope x)(hd:(x==("__debug__" : Str))=false:=by decide) (hcd:(x==("__classdict__" : Str))=false:=by decide):PE X (.Name x pos) (tVar i):=by
 intro pins s σ H Q I h
 obtain⟨v,e,h⟩:=h
 obtain⟨m,hn,hl⟩:=I.loc
 obtain⟨u,r,l⟩:=hl i x v hN e hv
 have fin:EP X pins σ Q u s:=⟨v,H,I,r,h⟩
 rcases l with ⟨hk,hm⟩ | ⟨hk,c,hc,hcell⟩
 . exact wpAny_Name (wpAny_loadName_local I.ok.kind hk hn hm fin) hd
 . rcases hk with hk | hk
   . exact wpAny_Name (wpAny_loadName_cell I.ok.kind hk hc hcell fin) hd
   . exact wpAny_Name (wpAny_loadName_free I.ok.kind hk hc hcell fin hcd) hd
theorem zAA {i j pos}:PE X (.Constant (.int i) j pos) (tC (.int i)):=fun _ _ _ H _ I h=>wpAny_Constant_int ⟨.int i,H,I.tok _,⟨_,rfl⟩,h⟩
theorem zH4 {b j pos}:PE X (.Constant (.bool b) j pos) (tC (.bl b)):=fun _ _ _ H _ I h=>Constant_bool ⟨.bl b,H,I,rfl,h⟩
theorem zBl {j pos}:PE X (.Constant .none j pos) (tC .non):=fun _ _ _ H _ I h=>Constant_none ⟨.non,H,I,rfl,h⟩
noncomputable def Gl (X:Cx)(x:Str):Prop:=X.env.kindOf x=some .globalImplicit
theorem zLP {E:Value->Shared->Prop}{u:Value}{Q:Value->Shared->Prop}(I:Inv X pins σ H s)(hg:Gl X x)(hm:X.mg x=some u)(h:Q u s)
 (hd:(x==("__debug__" : Str))=false:=by decide):wpAny (model X.prog X.w) X.A (eval (.Name x pos) X.env) Q E s:=
 Calls.Name_function_global I.ok.kind hg (Calls.loadGlobal_global (by rw[I.ok.glob];exact I.mod.glob.keeps I.bk) hm h) hd
theorem zCh {E:Value->Shared->Prop}{u:Value}{Q:Value->Shared->Prop}(I:Inv X pins σ H s)(hg:Gl X x)(hm:X.mg x=none)(hv:bootBuiltins x=some u)(h:Q u s)
 (hn:x ≠ "__name__" := by decide) (hd:(x==("__debug__" : Str))=false:=by decide):wpAny (model X.prog X.w) X.A (eval (.Name x pos) X.env) Q E s:=by
 obtain⟨mb,h1,h2⟩:=I.mod.blt
 exact Calls.Name_function_global I.ok.kind hg (Calls.loadGlobal_builtin (by rw[I.ok.glob];exact I.mod.glob.keeps I.bk) hm (by rw[I.ok.blt];exact h1.keeps I.bk) ((h2 x hn).trans hv) h) hd
variable {a b:Expr}{ta tb:TE}{pos:Pos}
noncomputable def PC (X:Cx)(op:CmpOp)(a b:Expr)(t:TE):Prop:=
 ∀(pins:List (Addr×Obj))(s:Shared)(σ:St)(H:Hp)(Q:VK),Inv X pins σ H s->t σ H Q ->
  wpAny (model X.prog X.w) X.A (eval a X.env) (fun v s₁=>wpAny (model X.prog X.w) X.A (eval b X.env) (fun u s₂=>wpAny (model X.prog X.w) X.A (compareOp op v u) (EP X pins σ Q) X.xe s₂) X.xe s₁) X.xe s
noncomputable def tB (t:TE):TT:=fun σ H Q=>t σ H fun x H1=>∃c,x = .bl c/\Q c H1
theorem zFR {op:CmpOp}{t:TE}(h:PC X op a b t)(h1:behindInMarks op b=false:=by first | exact nobehind _ (by decide) (by decide) | rfl):PT X (.Compare a [op] [b] pos) (tB t):=by
 intro pins s σ H Q I hw
 refine wpAny_isTrue_Compare1 (thn (h pins s σ H _ I hw) fun v s1 h1=>thn h1 fun u s2 h2=>thn h2 fun c s3 ⟨x,H1,I1,r1,q1⟩=>?_) h1
 obtain⟨d,rfl,q⟩:=q1
 cases r1
 exact zBV ⟨H1,I1,q⟩
theorem zDh {e:Expr}{t:TE}(h:PE X e t)(he:∀whole,isTrue e X.env whole=(do let v <-whole;standAt e.pos;holding [v] (truthy v)):=by intro _;rfl):PT X e (tB t):=by
 intro pins s σ H Q I hw
 refine isTrue_plain (thn (h pins s σ H _ I hw) fun v s1 ⟨x,H1,I1,r1,q1⟩=>?_) (he _)
 obtain⟨d,rfl,q⟩:=q1
 cases r1
 exact zBV ⟨H1,I1,q⟩
variable {tA tB':TT}{rest:List Expr}
noncomputable def tAnd (t u:TT):TT:=fun σ H Q=>t σ H fun c H1=>if c=true then u σ H1 Q else Q false H1
noncomputable def tOr (t u:TT):TT:=fun σ H Q=>t σ H fun c H1=>if c=true then Q true H1 else u σ H1 Q
noncomputable def tNot (t:TT):TT:=fun σ H Q=>t σ H fun c H1=>Q (!c) H1
theorem zDf (ha:PT X a tA):PW X (.BoolOp .And [a] pos) tA:=by
 intro wh pins s σ H Q I h
 refine isTrue_and (thn (ha pins s σ H Q I h) fun c s1 e=>?_)
 cases c with
 | true=>exact isTrue_and_nil e
 | false=>exact e
theorem zFO (ha:PT X a tA):PW X (.BoolOp .Or [a] pos) tA:=by
 intro wh pins s σ H Q I h
 refine isTrue_or (thn (ha pins s σ H Q I h) fun c s1 e=>?_)
 cases c with
 | false=>exact isTrue_or_nil e
 | true=>exact e
theorem zEK (ha:PT X a tA)(hb:PW X (.BoolOp .And (b::rest) pos) tB'):PW X (.BoolOp .And (a::b::rest) pos) (tAnd tA tB'):=by
 intro wh pins s σ H Q I h
 refine isTrue_and (thn (ha pins s σ H _ I h) fun c s1 ⟨H1,I1,q1⟩=>?_)
 cases c with
 | true=>exact hb wh pins s1 σ H1 Q I1 q1
 | false=>exact⟨H1,I1,q1⟩
theorem zG1 (ha:PT X a tA)(hb:PW X (.BoolOp .Or (b::rest) pos) tB'):PW X (.BoolOp .Or (a::b::rest) pos) (tOr tA tB'):=by
 intro wh pins s σ H Q I h
 refine isTrue_or (thn (ha pins s σ H _ I h) fun c s1 ⟨H1,I1,q1⟩=>?_)
 cases c with
 | true=>exact⟨H1,I1,q1⟩
 | false=>exact hb wh pins s1 σ H1 Q I1 q1
theorem zGW (ha:PT X a tA):PT X (.UnaryOp .Not a pos) (tNot tA):=by
 intro pins s σ H Q I h
 exact isTrue_not (ha pins s σ H (fun c H1=>Q (!c) H1) I h)
noncomputable def tAndV (ta tb:TE):TE:=fun σ H Q=>ta σ H fun x H1=>∃c,x = .bl c/\if c=true then tb σ H1 Q else Q (.bl false) H1
noncomputable def tNotV (ta:TE):TE:=fun σ H Q=>ta σ H fun x H1=>∃c,x = .bl c/\Q (.bl (!c)) H1
theorem zGY {op} {t:TE}(h:PE X a t):PE X (.BoolOp op [a] pos) t:=fun pins s σ H Q I hw=>BoolOp_one (h pins s σ H Q I hw)
theorem zFS (ha:PE X a ta)(hb:PE X (.BoolOp .And (b::rest) pos) tb):PE X (.BoolOp .And (a::b::rest) pos) (tAndV ta tb):=by
 intro pins s σ H Q I h
 refine BoolOp_and (thn (ha pins s σ H _ I h) fun v s1 ⟨x,H1,I1,r1,q1⟩=>?_)
 obtain⟨c,rfl,q1⟩:=q1
 cases r1
 refine zBV ?_
 cases c with
 | true=>exact hb pins s1 σ H1 Q I1 q1
 | false=>exact⟨.bl false,H1,I1,rfl,q1⟩
theorem pe_not (ha:PE X a ta):PE X (.UnaryOp .Not a pos) (tNotV ta):=by
 intro pins s σ H Q I h
 refine UnaryOp_ (thn (ha pins s σ H _ I h) fun v s1 ⟨x,H1,I1,r1,q1⟩=>?_)
 obtain⟨c,rfl,q1⟩:=q1
 cases r1
 exact not_of (zBV ⟨.bl (!c),H1,I1,rfl,q1⟩)
noncomputable def tIf (t:TT)(ta tb:TE):TE:=fun σ H Q=>t σ H fun c H1=>if c=true then ta σ H1 Q else tb σ H1 Q
theorem zC0 {c:Expr}(hc:PT X c tA)(ha:PE X a ta)(hb:PE X b tb):PE X (.IfExp c a b pos) (tIf tA ta tb):=by
 intro pins s σ H Q I h
 refine wpAny_IfExp (thn (hc pins s σ H _ I h) fun d s1 ⟨H1,I1,q1⟩=>?_)
 cases d with
 | true=>exact ha pins s1 σ H1 Q I1 q1
 | false=>exact hb pins s1 σ H1 Q I1 q1
end
end L2
namespace L2
open PySem PySem.Spec PyProof.Rows
noncomputable def SqL (K:PySem.W.Frag)(H:Hp)(a:Addr)(xs:List V):Prop:=
 Rd H a (.lst xs) \/
  ∃(o:Obj)(its:Array Value)(n:Nat),K.lookup a=some o/\o.cls = .type "list" /\ o.dict=none/\o.data = .seq its n/\its.size<=sizeLine/\zBR xs its.toList
noncomputable def SqT (K:PySem.W.Frag)(H:Hp)(a:Addr)(xs:List V):Prop:=
 Rd H a (.tup xs) \/
  ∃(o:Obj)(its:Array Value)(n:Nat),K.lookup a=some o/\o.cls = .type "tuple" /\ o.data = .seq its n/\its.size<=sizeLine/\zBR xs its.toList
noncomputable def absV:Value->Option V
 | .none=>some .non
 | .bool b=>some (.bl b)
 | .int i _=>some (.int i)
 | .str x _=>some (.str x)
 | .bytes b _=>some (.byt b)
 | .float b _=>some (.flt b)
 | .ref a=>some (.ref a)
 | .type n=>some (.ty n)
 | _=>none
variable {u:Value}
theorem zBi.abs {x:V}(r:zBi x u):absV u=some x:=by
 cases x with
 | non=>cases r;rfl
 | bl _=>cases r;rfl
 | int _=>obtain⟨t,rfl⟩:=r;rfl
 | str _=>obtain⟨t,rfl⟩:=r;rfl
 | byt _=>obtain⟨t,rfl⟩:=r;rfl
 | flt _=>obtain⟨t,rfl⟩:=r;rfl
 | ref _=>cases r;rfl
 | ty _=>cases r;rfl
theorem zBi.inj {x y:V}(r:zBi x u)(q:zBi y u):x=y:=zR (r.abs.symm.trans q.abs)
theorem zBR.inj:∀{xs ys:List V}{us:List Value},zBR xs us->zBR ys us->xs=ys
 | _,_,_,.nil,.nil=>rfl
 | _,_,_,.cons r t,.cons r' t'=>by rw[r.inj r',zBR.inj t t']
variable {K:PySem.W.Frag}
section
variable {X:Cx}{pins:List (Addr×Obj)}{σ:St}{H:Hp}{s:Shared}{a:Addr}{xs ys:List V}
theorem SqL.of (h:H a=some (.lst xs)):SqL K H a xs:=.inl (.inl h)
theorem SqT.of (h:H a=some (.tup xs)):SqT K H a xs:=.inl (.inl h)
theorem Inv.list (I:Inv X pins σ H s)(h:SqL X.K H a xs):∃its:List Value,zBR xs its/\PlainL s.heap a its.toArray/\xs.length<=sizeLine:=by
 rcases h with h | ⟨o,its,n,hk,hc,hd,hs,hz,r⟩
 . obtain⟨z,its,n,r,e⟩:=h.ok I.hok
   exact⟨its,r,⟨_,n,e,rfl,rfl,rfl⟩,z⟩
 . refine⟨its.toList,r,⟨o,n,I.kIn a o hk,hc,hd,by simpa using hs⟩,?_⟩
   have e:=r.length
   simp only[Array.length_toList] at e
   omega
theorem Inv.tuple (I:Inv X pins σ H s)(h:SqT X.K H a xs):∃its:List Value,zBR xs its/\IsTup s.heap a its.toArray/\xs.length<=sizeLine:=by
 rcases h with h | ⟨o,its,n,hk,hc,hs,hz,r⟩
 . obtain⟨⟨z,_⟩,its,r,p⟩:=h.ok I.hok
   exact⟨its,r,p,z⟩
 . refine⟨its.toList,r,⟨o,I.kIn a o hk,hc,n,by simpa using hs⟩,?_⟩
   have e:=r.length
   simp only[Array.length_toList] at e
   omega
theorem Inv.list_inj (I:Inv X pins σ H s)(h:SqL X.K H a xs)(h':SqL X.K H a ys):xs=ys:=by
 obtain⟨its,r,⟨o,n,e,_,_,d⟩,_⟩:=I.list h
 obtain⟨its',r',⟨o',n',e',_,_,d'⟩,_⟩:=I.list h'
 rw[e] at e';cases e'
 rw[d] at d'
 injection d' with d1 _
 have:its=its':=by simpa using congrArg Array.toList d1
 subst this
 exact r.inj r'
theorem Inv.tuple_inj (I:Inv X pins σ H s)(h:SqT X.K H a xs)(h':SqT X.K H a ys):xs=ys:=by
 obtain⟨its,r,⟨o,e,_,n,d⟩,_⟩:=I.tuple h
 obtain⟨its',r',⟨o',e',_,n',d'⟩,_⟩:=I.tuple h'
 rw[e] at e';cases e'
 rw[d] at d'
 injection d' with d1 _
 have:its=its':=by simpa using congrArg Array.toList d1
 subst this
 exact r.inj r'
end
noncomputable abbrev Cx.wish (X:Cx)(E:Value->Shared->Prop):Cx:={ X with xe:=E }
noncomputable abbrev Cx.nox (X:Cx):Cx:=X.wish fun _ _=>False
variable {X:Cx}
theorem Cx.Ok.wish (ok:X.Ok)(E:Value->Shared->Prop):(X.wish E).Ok:=
 ⟨ok.mod,ok.kind,ok.glob,ok.blt,ok.above,ok.inj,ok.has,ok.cab,ok.hd,ok.frames,ok.stk,ok.exf,ok.bs,ok.bsz,ok.noex,ok.exfs,ok.funs,ok.frf⟩
theorem Cx.Ok.unwish {E:Value->Shared->Prop}(ok:(X.wish E).Ok):X.Ok:=
 ⟨ok.mod,ok.kind,ok.glob,ok.blt,ok.above,ok.inj,ok.has,ok.cab,ok.hd,ok.frames,ok.stk,ok.exf,ok.bs,ok.bsz,ok.noex,ok.exfs,ok.funs,ok.frf⟩
section
variable {X:Cx}{pins:List (Addr×Obj)}{σ:St}{H:Hp}{s:Shared}{E:Value->Shared->Prop}
theorem Inv.wish (I:Inv X pins σ H s)(E:Value->Shared->Prop):Inv (X.wish E) pins σ H s:=⟨I.ok.wish E,I.os,I.bare,I.base,I.loc,I.cell,I.free,I.freeC,I.pin,I.hok,I.len⟩
theorem Inv.unwish (I:Inv (X.wish E) pins σ H s):Inv X pins σ H s:=⟨I.ok.unwish,I.os,I.bare,I.base,I.loc,I.cell,I.free,I.freeC,I.pin,I.hok,I.len⟩
theorem SP.unwish {D:zJ2}{f:Flow}{s':Shared}(h:SP (X.wish E) pins D f s'):SP X pins D f s':=by
 cases f with
 | next=>obtain⟨σ',H',I,q⟩:=h;exact⟨σ',H',I.unwish,q⟩
 | brk=>obtain⟨σ',H',I,q⟩:=h;exact⟨σ',H',I.unwish,q⟩
 | cont=>obtain⟨σ',H',I,q⟩:=h;exact⟨σ',H',I.unwish,q⟩
 | ret u=>obtain⟨v,σ',H',I,r,q⟩:=h;exact⟨v,σ',H',I.unwish,r,q⟩
theorem PSs.nox {st:List Stmt}{t:TS}(h:PSs X.nox st t):PSs X st t:=fun pins s σ H D I hw=>
 zBW (h pins s σ H D (I.wish _) hw) (fun _ _ q=>q.unwish) fun _ _ z=>False.elim z
end
variable {s:Shared}
section
variable {X:Cx}{st:Stmt}{rest:List Stmt}{t u:TS}{e:Expr}{te:TE}{pos:Pos}
noncomputable def tNext:TS:=fun D σ H=>D.nx σ H
noncomputable def tSeq (t u:TS):TS:=fun D σ H=>t { D with nx:=u D } σ H
theorem zA7:PSs X [] tNext:=fun _ _ σ H _ I h=>wpAny_execs_nil ⟨σ,H,I,h⟩
theorem zW (h1:PS X st t)(h2:PSs X rest u):PSs X (st::rest) (tSeq t u):=by
 intro pins s σ H D I h
 refine wpAny_execs_cons (thn (h1 pins s σ H { D with nx:=u D } I h) fun f s1 q=>?_)
 cases f with
 | next=>
  obtain⟨σ',H',I',q⟩:=q
  exact h2 pins s1 σ' H' D I' q
 | ret v=>exact q
 | brk=>exact q
 | cont=>exact q
theorem zn (h1:PS X st t):PSs X [st] t:=by
 intro pins s σ H D I h
 refine wpAny_execs_cons (thn (h1 pins s σ H D I h) fun f s1 q=>?_)
 cases f with
 | next=>exact wpAny_execs_nil q
 | ret v=>exact q
 | brk=>exact q
 | cont=>exact q
theorem Inv.quiet {pins:List (Addr×Obj)}{σ:St}{H:Hp}(I:Inv X pins σ H s):interactive X.env=false:=by simp[interactive,I.ok.kind]
noncomputable def tDrop (te:TE):TS:=fun D σ H=>te σ H fun _ H1=>D.nx σ H1
theorem zCL (he:PE X e te)(hs:swapsWith e none pos.line X.env=pure false:=by rfl):PS X (.Expr e pos) (tDrop te):=by
 intro pins s σ H D I h
 exact wpAny_Expr_any (thn (he pins s σ H _ I h) fun v s1 ⟨x,H1,I1,r1,q1⟩=>⟨σ,H1,I1,q1⟩) I.quiet hs
noncomputable def tRet (te:TE):TS:=fun D σ H=>te σ H D.rt
theorem zAb (he:PE X e te):PS X (.Return (some e) pos) (tRet te):=by
 intro pins s σ H D I h
 exact wpAny_Return_some (thn (he pins s σ H _ I h) fun v s1 ⟨x,H1,I1,r1,q1⟩=>⟨x,σ,H1,I1,r1,q1⟩)
noncomputable def tIfS (c:TT)(t u:TS):TS:=fun D σ H=>c σ H fun b H1=>if b=true then t D σ H1 else u D σ H1
theorem zCK {c:Expr}{a b:List Stmt}{tc:TT}(hc:PT X c tc)(ha:PSs X a t)(hb:PSs X b u):PS X (.If c a b pos) (tIfS tc t u):=by
 intro pins s σ H D I h
 refine wpAny_If (thn (hc pins s σ H _ I h) fun d s1 ⟨H1,I1,q1⟩=>?_)
 cases d with
 | true=>exact ha pins s1 σ H1 D I1 q1
 | false=>exact hb pins s1 σ H1 D I1 q1
end
noncomputable abbrev TG:=V->St->Hp->(St->Hp->Prop)->Prop
noncomputable abbrev TGs:=List V->St->Hp->(St->Hp->Prop)->Prop
noncomputable def PG (X:Cx)(target:Expr)(t:TG):Prop:=
 ∀(pins:List (Addr×Obj))(s:Shared)(σ:St)(H:Hp)(v:V)(u:Value)(Q:St->Hp->Prop),Inv X pins σ H s->zBi v u->t v σ H Q ->
  wpAny (model X.prog X.w) X.A (assign target X.env u) (fun _ s'=>∃ σ' H',Inv X pins σ' H' s'/\Q σ' H') X.xe s
noncomputable def PGs (X:Cx)(ts:List Expr)(t:TGs):Prop:=
 ∀(pins:List (Addr×Obj))(s:Shared)(σ:St)(H:Hp)(vs:List V)(us:List Value)(Q:St->Hp->Prop),Inv X pins σ H s->zBR vs us->t vs σ H Q ->
  wpAny (model X.prog X.w) X.A (assignInOrder ((assignEach ts X.env).map (·.2)) us) (fun _ s'=>∃ σ' H',Inv X pins σ' H' s'/\Q σ' H') X.xe s
noncomputable abbrev TSet:=V->V->V->Hp->(Hp->Prop)->Prop
noncomputable def PSet (X:Cx)(t:TSet):Prop:=
 ∀(pins:List (Addr×Obj))(s:Shared)(σ:St)(H:Hp)(o i v:V)(ov iv u:Value)(Q:Hp->Prop),Inv X pins σ H s->zBi o ov->zBi i iv->zBi v u->t o i v H Q ->
  wpAny (model X.prog X.w) X.A (setItem ov iv u) (fun _ s'=>∃H',Inv X pins σ H' s'/\Q H') X.xe s
section
variable {X:Cx}{pos:Pos}
noncomputable def zJo (i:Nat):TG:=fun v σ H Q=>Q (σ.set i (some v)) H
theorem zr {i:Nat}{x:Str}(hN:X.N.Nodup)(hi:X.N[i]? = some x)(hx:Loc X.env.scope x)(hf:X.fn x=true\/X.env.scope.names.lookup x=some .local:=by first | exact .inl rfl | exact .inr rfl | assumption):PG X (.Name x pos) (zJo i):=by
 intro pins s σ H v u Q I r h
 exact wpAny_assign_Name (zDR I hN hi hx r (fun s' I'=>⟨_,H,I',h⟩) hf)
noncomputable def gNil:TGs:=fun vs σ H Q=>vs=[]/\Q σ H
noncomputable def gCons (t:TG)(u:TGs):TGs:=fun vs σ H Q=>∃v r,vs=v::r/\t v σ H fun σ' H'=>u r σ' H' Q
theorem zCB:PGs X [] gNil:=by
 intro pins s σ H vs us Q I r h
 obtain⟨e,h⟩:=h
 subst e
 cases r
 exact assignInOrder_nil ⟨σ,H,I,h⟩
theorem zAK {e:Expr}{es:List Expr}{t:TG}{u:TGs}(h1:PG X e t)(h2:PGs X es u)
 (hs:(assignEach (e::es) X.env).map (·.2)=assign e X.env::(assignEach es X.env).map (·.2):=by rfl):PGs X (e::es) (gCons t u):=by
 intro pins s σ H vs us Q I r h
 obtain⟨v,vr,e1,h⟩:=h
 subst e1
 cases r with
 | cons r rr=>
  rw[hs]
  refine assignInOrder_cons (thn (h1 pins s σ H _ _ _ I r h) fun _ s1 ⟨σ1,H1,I1,q1⟩=>?_)
  exact h2 pins s1 σ1 H1 _ _ Q I1 rr q1
noncomputable def gTup (K:PySem.W.Frag)(n:Nat)(t:TGs):TG:=fun v σ H Q=>∃a xs,v = .ref a/\SqT K H a xs/\xs.length=n/\t xs σ H Q
theorem zCf {es:List Expr}{k:Nat}{t:TGs}{n:Nat}(hc:X.calm=true)(h:PGs X es t)
 (hn:(assignEach es X.env).length=n:=by rfl)(hst:(assignEach es X.env).findIdx? (·.1)=none:=by rfl):PG X (.Tuple es k pos) (gTup X.K n t):=by
 intro pins s σ H v u Q I r hw
 obtain⟨a,xs,e1,hq,hl,hw⟩:=hw
 subst e1
 cases r
 obtain⟨its,rv,ht,hz⟩:=I.tuple hq
 refine assign_Tuple_tuple (I.ok.hd hc) ht (by simp[hn,<-hl,rv.length]) hst fun h' hx=>?_
 have I1:Inv X pins σ H { s with heap:=h' }:=I.kept (t':=s.toks) fun b o e=>hx b o (zY (zX e)) e
 exact h pins _ σ H xs _ Q I1 (by simpa using rv) hw
noncomputable def gSub (to ti:TE)(t:TSet):TG:=fun v σ H Q=>to σ H fun o H1=>ti σ H1 fun i H2=>t o i v H2 fun H3=>Q σ H3
theorem zDj {o i:Expr}{to ti:TE}{t:TSet}(ho:PE X o to)(hi:PE X i ti)(hs:PSet X t)
 (ha:∀v,assign (.Subscript o i pos) X.env v=(do
  let ov <-holding [v] (eval o X.env)
  let iv <-holding [v,ov] (eval i X.env)
  standAt pos
  holding [v,ov,iv] (setItem ov iv v)
  release [v,ov,iv] []):=by intro _;rfl):PG X (.Subscript o i pos) (gSub to ti t):=by
 intro pins s σ H v u Q I r h
 rw[ha]
 refine zC (zAY (thn (ho pins s σ H _ I h) fun ov s1 ⟨x,H1,I1,r1,q1⟩=>?_))
 refine zC (zAY (thn (hi pins s1 σ H1 _ I1 q1) fun iv s2 ⟨y,H2,I2,r2,q2⟩=>?_))
 refine zC (wpAny_standAt (zC (zAY (thn (hs pins s2 σ H2 x y v ov iv u _ I2 r1 r2 r q2) fun _ s3 ⟨H3,I3,q3⟩=>?_))))
 exact wpAny_release ⟨σ,H3,I3,q3⟩
noncomputable def tAsg (te:TE)(g:TG):TS:=fun D σ H=>te σ H fun x H1=>g x σ H1 D.nx
theorem zDJ {tg e:Expr}{te:TE}{g:TG}(he:PE X e te)(hg:PG X tg g)(hs:swapsWithSole [tg] e pos.line X.env=pure false:=by rfl)(hw:swappedStores [tg] e X.env=pure none:=by rfl)
 (h1:(assignEach [tg] X.env).map (·.2)=[assign tg X.env]:=by rfl):PS X (.Assign [tg] e pos) (tAsg te g):=by
 intro pins s σ H D I h
 refine wpAny_Assign_stores (thn (he pins s σ H _ I h) fun v s1 ⟨x,H1,I1,r1,q1⟩=>?_) hs hw
 rw[h1]
 exact thn (hg pins s1 σ H1 x v _ I1 r1 q1) fun _ s2 q=>q
theorem zAN {i:Nat}{x:Str}{e:Expr}{te:TE}{pos':Pos}(hN:X.N.Nodup)(hi:X.N[i]? = some x)(hx:Loc X.env.scope x)(he:PE X e te)(hs:swapsWith e (some (.Name x pos')) pos.line X.env=pure false:=by rfl)(hf:X.fn x=true\/X.env.scope.names.lookup x=some .local:=by first | exact .inl rfl | exact .inr rfl | assumption) :
 PS X (.Assign [.Name x pos'] e pos) (tAsg te (zJo i)):=by
 intro pins s σ H D I h
 refine wpAny_Assign_Name (thn (he pins s σ H _ I h) fun v s1 ⟨y,H1,I1,r1,q1⟩=>?_) hs
 exact zDR I1 hN hi hx r1 (fun s2 I2=>⟨_,H1,I2,q1⟩) hf
end
section
variable {X:Cx}{pos:Pos}
noncomputable def tWhile (c:TT)(tb:TS):TS:=fun D σ H=>∃W:Nat->St->Hp->Prop,(∃m,W m σ H)/\∀m σ H,W m σ H ->
 c σ H fun b H1=>if b=true then ∃N:St->Hp->Prop,(∀ σ' H',N σ' H'->∃m',m'<m/\W m' σ' H')/\tb { D with nx:=N,ct:=N,bk:=D.nx } σ H1 else D.nx σ H1
theorem zJS {c:Expr}{body:List Stmt}{tc:TT}{tb:TS}(hp:PassesOwn (model X.prog X.w) X.A X.env X.xe)(hc:PT X c tc)(hb:PSs X body tb):PS X (.While c body [] pos) (tWhile tc tb):=by
 intro pins s σ H D I h
 obtain⟨W,⟨m0,w0⟩,turn⟩:=h
 refine wpAny_While (codeAny_whileLoop (fun n s'=>∃ σ' H',Inv X pins σ' H' s'/\W n σ' H') ?_ m0 ⟨σ,H,I,w0⟩)
 rintro n s1 ⟨σ1,H1,I1,w1⟩
 refine wpAny_passesOwn hp (thn (hc pins s1 σ1 H1 _ I1 (turn n σ1 H1 w1)) fun b s2 ⟨H2,I2,q2⟩=>?_)
 cases b with
 | true=>
  obtain⟨N,hN,q2⟩:=q2
  rw[if_pos rfl]
  refine wpAny_passesOwn hp (thn (hb pins s2 σ1 H2 _ I2 q2) fun f s3 q3=>?_)
  cases f with
  | next=>
   obtain⟨σ3,H3,I3,n3⟩:=q3
   obtain⟨m',hm,w3⟩:=hN σ3 H3 n3
   exact⟨m',hm,σ3,H3,I3,w3⟩
  | cont=>
   obtain⟨σ3,H3,I3,n3⟩:=q3
   obtain⟨m',hm,w3⟩:=hN σ3 H3 n3
   exact⟨m',hm,σ3,H3,I3,w3⟩
  | brk=>exact q3
  | ret v=>exact q3
 | false=>
  rw[if_neg zg]
  exact wpAny_execs_nil ⟨σ1,H2,I2,q2⟩
end
structure It where
 go:Nat->Hp->Prop
 yld:Nat->Hp->V->Hp->Prop
 stop:Nat->Hp->Prop
noncomputable def zFv (X:Cx)(pins:List (Addr×Obj))(H:Hp)(b:Addr):Prop:=
 H b=none/\b≠X.env.locals/\b∉X.fs/\(b∈X.ex\/X.s₀.heap.objs.size<=b)/\(∀x c,X.env.cells.lookup x=some c->c≠b)/\∀p∈X.pn++pins,p.1≠b
theorem Inv.fpOk {pins:List (Addr×Obj)}{σ:St}{H H':Hp}{b:Addr}(I:Inv X pins σ H s)(hb:s.heap.objs.size<=b)(hn:H' b=none):zFv X pins H' b:=by
 refine⟨hn,zAM (zt I.lt hb),I.nofs hb,.inr (zy I.sz hb),fun x c e z=>?_,fun p hp z=>?_⟩
 . obtain⟨v,q⟩:=I.cell x c e
   exact absurd (zt q.lt (by rw[z];exact hb)) (zB3 _)
 . exact absurd (zt (zX (I.pin p hp).1) (by rw[z];exact hb)) (zB3 _)
structure Turn (P:Program)(w:World)(K:PySem.W.Frag)(tg:Expr)(J:It)(fp:List Addr)(it:Addr)(tn:Nat->Heap->Prop):Prop where
 mem:it∈fp
 obj:∀i h,tn i h->∀b∈fp,∃o,h.get? b=some o/\∀v,o.data ≠ .cell v
 keep:∀i h h',tn i h->(∀b∈fp,∀o,h.get? b=some o->h'.get? b=some o)->tn i h'
 item:∀(X:Cx),X.prog=P->X.w=w->X.K=K->X.calm=true->∀(i:Nat)(pins:List (Addr×Obj))(s:Shared)(σ:St)(H:Hp)(E:Value->Shared->Prop),Inv X pins σ H s->(∀b∈fp,zFv X pins H b)->tn i s.heap->J.go i H ->
  wpAny (model P w) X.A (pyNext (.ref it)) (fun r s1=>∃u,r=some u /\
   wpAny (model P w) X.A (letOwnedTupleGo tg (.ref it) u) (fun _ s2=>∃x H',Inv X pins σ H' s2/\zBi x u/\J.yld i H x H'/\tn (i+1) s2.heap/\∀b∈fp,H' b=none) E s1) E s
 done:∀(X:Cx),X.prog=P->X.w=w->X.K=K->X.calm=true->∀(i:Nat)(pins:List (Addr×Obj))(s:Shared)(σ:St)(H:Hp)(E:Value->Shared->Prop),Inv X pins σ H s->(∀b∈fp,zFv X pins H b)->tn i s.heap->J.stop i H ->
  wpAny (model P w) X.A (pyNext (.ref it)) (fun r s1=>r=none/\Inv X pins σ H s1) E s
 self:∀(A:Around)(i:Nat)(s:Shared)(Q:Value->Shared->Prop)(E:Value->Shared->Prop),tn i s.heap->Q (.ref it) s->wpAny (model P w) A (pyIter (.ref it)) Q E s
noncomputable abbrev TI:=St->Hp->(It->Hp->Prop)->Prop
noncomputable def PIE (X:Cx)(pins:List (Addr×Obj))(σ:St)(tg:Expr)(R:It->Hp->Prop)(itv:Value)(s2:Shared):Prop:=
 ∃(it:Addr)(fp:List Addr)(tn:Nat->Heap->Prop)(J:It)(H':Hp),itv = .ref it/\Inv X pins σ H' s2/\Turn X.prog X.w X.K tg J fp it tn/\tn 0 s2.heap/\(∀b∈fp,zFv X pins H' b)/\R J H'
noncomputable def PI (X:Cx)(tg iter:Expr)(wi:TI):Prop:=
 ∀(pins:List (Addr×Obj))(s:Shared)(σ:St)(H:Hp)(R:It->Hp->Prop),Inv X pins σ H s->wi σ H R ->
  wpAny (model X.prog X.w) X.A (eval iter X.env) (fun v s1=>wpAny (model X.prog X.w) X.A (pyIter v) (PIE X pins σ tg R) X.xe s1) X.xe s
variable {tg:Expr}
theorem zLU {M:Model}{A:Around}{E:Value->Shared->Prop}{it:Addr}{o:Obj}{n:String}{vs:Array Value}{Q:Unit->Shared->Prop}(ho:s.heap.get? it=some o)(hc:o.cls = .type n)(hd:o.data = .fields vs)
 (hn:["enumerate", "zip", "dict_itemiterator", "dict_reverseitemiterator", "odict_iterator", "itertools.zip_longest", "itertools.pairwise"].contains n=false) (hQ:Q () s):wpAny M A (letOwnedTupleGo tg (.ref it) u) Q E s:=by
 unfold letOwnedTupleGo
 cases tg <;> first
  | exact zH hQ
  | (cases u <;> first
   | exact zH hQ
   | (refine zC (wpAny_load ho ?_)
      rw[hc,hd]
      show wpAny M A (if (["enumerate", "zip", "dict_itemiterator", "dict_reverseitemiterator", "odict_iterator", "itertools.zip_longest", "itertools.pairwise"].contains n && vs[0]? == some (rawInt _))=true then _ else _) Q E s
      rw[if_neg (by intro h;rw[hn,Bool.false_and] at h;cases h)]
      exact zH hQ))
noncomputable def Itl (K:PySem.W.Frag)(a:Addr):It:=
 ⟨fun i H=>∃xs x,SqL K H a xs/\xs[i]? = some x,fun i H x H'=>H'=H/\∀xs,SqL K H a xs->xs[i]? = some x,fun i H=>∃xs,SqL K H a xs/\xs.length<=i⟩
noncomputable def Itt (K:PySem.W.Frag)(a:Addr):It:=
 ⟨fun i H=>∃xs x,SqT K H a xs/\xs[i]? = some x,fun i H x H'=>H'=H/\∀xs,SqT K H a xs->xs[i]? = some x,fun i H=>∃xs,SqT K H a xs/\xs.length<=i⟩
noncomputable def Itr (lo:Int)(n:Nat):It:=⟨fun i _=>i<n,fun i H x H'=>H'=H/\x = .int (lo+i),fun i _=>n<=i⟩
variable {P:Program}{w:World}
theorem zHS (a it:Addr):Turn P w K tg (Itl K a) [it] it (fun i h=>h.IsListIter it a i) where
 mem:=by simp
 obj:=fun i h st b hb=>by
  have e:b=it:=by simpa using hb
  subst e
  obtain⟨o,e,c,d⟩:=st
  exact⟨o,e,fun v z=>by rw[d] at z;cases z⟩
 keep:=fun i h h' st k=>st.at fun o e=>k it (by simp) o e
 item:=by
  intro X hP hw hK hc i pins s σ H E I hf st hg
  subst hP hw hK
  obtain⟨xs,x,hq,hx⟩:=hg
  obtain⟨its,rv,p,hz⟩:=I.list hq
  obtain⟨u,hu,ru⟩:=rv.get hx
  obtain⟨f0,f1,f2,f3,f4,f5⟩:=hf it (by simp)
  refine wpAny_pyNext_list_item st p.isList (x:=u) (by simpa using hu) fun h' st' sb=>?_
  have I1:Inv X pins σ H { s with heap:=h' }:=I.turned (t':=s.toks) (fun b o hb e=>(sb.2 b hb).trans e) f0 f1 f3 f4 f5
  obtain⟨o,e,c,d⟩:=id st'
  exact⟨u,rfl,zLU (s:={ s with heap:=h' }) e c d (by decide) ⟨x,H,I1,ru,⟨rfl,fun ys hy=>by rw[I.list_inj hy hq];exact hx⟩,st',fun b hb=>(hf b hb).1⟩⟩
 done:=by
  intro X hP hw hK hc i pins s σ H E I hf st hg
  subst hP hw hK
  obtain⟨xs,hq,hx⟩:=hg
  obtain⟨its,rv,p,hz⟩:=I.list hq
  obtain⟨f0,f1,f2,f3,f4,f5⟩:=hf it (by simp)
  have hl:=rv.length
  exact wpAny_pyNext_list_end (I.ok.hd hc) st p.isList (by simp;omega) fun h' eb=>⟨rfl,I.turned (t':=s.toks) (fun b o hb e=>eb b o hb e) f0 f1 f3 f4 f5⟩
 self:=fun _ _ _ _ _ st h=>wpAny_pyIter_listiter st h
theorem zGt (a it:Addr):Turn P w K tg (Itt K a) [it] it (fun i h=>h.IsTupleIter it a i) where
 mem:=by simp
 obj:=fun i h st b hb=>by
  have e:b=it:=by simpa using hb
  subst e
  obtain⟨o,e,c,d⟩:=st
  exact⟨o,e,fun v z=>by rw[d] at z;cases z⟩
 keep:=fun i h h' st k=>st.at fun o e=>k it (by simp) o e
 item:=by
  intro X hP hw hK hc i pins s σ H E I hf st hg
  subst hP hw hK
  obtain⟨xs,x,hq,hx⟩:=hg
  obtain⟨its,rv,p,hz⟩:=I.tuple hq
  obtain⟨u,hu,ru⟩:=rv.get hx
  obtain⟨f0,f1,f2,f3,f4,f5⟩:=hf it (by simp)
  refine wpAny_pyNext_tuple_item st (show s.heap.IsTuple a its.toArray from p) (x:=u) (by simpa using hu) fun h' st' sb=>?_
  have I1:Inv X pins σ H { s with heap:=h' }:=I.turned (t':=s.toks) (fun b o hb e=>(sb.2 b hb).trans e) f0 f1 f3 f4 f5
  obtain⟨o,e,c,d⟩:=id st'
  exact⟨u,rfl,zLU (s:={ s with heap:=h' }) e c d (by decide) ⟨x,H,I1,ru,⟨rfl,fun ys hy=>by rw[I.tuple_inj hy hq];exact hx⟩,st',fun b hb=>(hf b hb).1⟩⟩
 done:=by
  intro X hP hw hK hc i pins s σ H E I hf st hg
  subst hP hw hK
  obtain⟨xs,hq,hx⟩:=hg
  obtain⟨its,rv,p,hz⟩:=I.tuple hq
  obtain⟨f0,f1,f2,f3,f4,f5⟩:=hf it (by simp)
  have hl:=rv.length
  exact wpAny_pyNext_tuple_end (I.ok.hd hc) st (show s.heap.IsTuple a its.toArray from p) (by simp;omega) fun h' eb=>⟨rfl,I.turned (t':=s.toks) (fun b o hb e=>eb b o hb e) f0 f1 f3 f4 f5⟩
 self:=fun _ _ _ _ _ st h=>wpAny_pyIter_tupleiter st h
theorem zGu (it:Addr)(lo:Int)(n:Nat):Turn P w K tg (Itr lo n) [it] it (fun i h=>IsRangeIter h it (lo+(i:Nat)*1) ((n:Int)-(i:Nat)) 1) where
 mem:=by simp
 obj:=fun i h st b hb=>by
  have e:b=it:=by simpa using hb
  subst e
  exact⟨_,st,fun v z=>by
   have z':Data.fields _=Data.cell v:=z
   cases z'⟩
 keep:=fun i h h' st k=>k it (by simp) _ st
 item:=by
  intro X hP hw hK hc i pins s σ H E I hf st hg
  subst hP hw hK
  obtain⟨f0,f1,f2,f3,f4,f5⟩:=hf it (by simp)
  have W:=Walks.range (prog:=X.prog) (w:=X.w) (I.ok.hd hc) it lo 1 n
  refine W.item i s _ _ hg st fun v h' tk hv st' kk=>?_
  obtain⟨t,rfl⟩:=hv
  have I1:Inv X pins σ H { s with heap:=h',toks:=tk }:=I.turned (fun b o hb e=>kk b o (by simpa using hb) e) f0 f1 f3 f4 f5
  refine⟨_,rfl,zLU (s:={ s with heap:=h',toks:=tk }) (n := "range_iterator") st' rfl rfl (by decide) ⟨.int (lo+i),H,I1,⟨t,?_⟩,⟨rfl,rfl⟩,st',fun b hb=>(hf b hb).1⟩⟩
  rw[Int.mul_one]
 done:=by
  intro X hP hw hK hc i pins s σ H E I hf st hg
  subst hP hw hK
  obtain⟨f0,f1,f2,f3,f4,f5⟩:=hf it (by simp)
  exact wpAny_pyNext_range_end (I.ok.hd hc) st (by have:n<=i:=hg;omega) fun h' eb=>⟨rfl,I.turned (t':=s.toks) (fun b o hb e=>eb b o hb e) f0 f1 f3 f4 f5⟩
 self:=fun _ _ _ _ _ st h=>wpAny_pyIter_rangeiter st h
end L2
namespace L2
open PySem PySem.Spec PyProof.Rows
variable {pins:List (Addr×Obj)}{σ:St}{H:Hp}{s:Shared}{fp:List Addr}{g:TG}{tb:TS}
section
variable {X:Cx}{tg:Expr}
noncomputable def iList (K:PySem.W.Frag)(tl:TE):TI:=fun σ H R=>tl σ H fun x H1=>∃a,x = .ref a/\(∃xs,SqL K H1 a xs)/\R (Itl K a) H1
noncomputable def iTup (K:PySem.W.Frag)(tl:TE):TI:=fun σ H R=>tl σ H fun x H1=>∃a,x = .ref a/\(∃xs,SqT K H1 a xs)/\R (Itt K a) H1
theorem zCE {l:Expr}{tl:TE}(hl:PE X l tl):PI X tg l (iList X.K tl):=by
 intro pins s σ H R I h
 refine thn (hl pins s σ H _ I h) fun v s1 ⟨x,H1,I1,r1,q1⟩=>?_
 obtain⟨a,e,⟨xs,hq⟩,q⟩:=q1
 subst e
 cases r1
 obtain⟨its,rv,p,hz⟩:=I1.list hq
 refine wpAny_pyIter_list p.isList ?_
 refine⟨s1.heap.objs.size,[s1.heap.objs.size],_,_,H1,rfl,I1.kept (t':=s1.toks) fun b o e=>zK _ e,zHS a _,⟨_,zU _ rfl,rfl,rfl⟩,fun b hb=>?_,q⟩
 have e:b=s1.heap.objs.size:=by simpa using hb
 subst e
 exact I1.fpOk (zL _) (I1.hok.fresh (zL _))
theorem zBu {l:Expr}{tl:TE}(hl:PE X l tl):PI X tg l (iTup X.K tl):=by
 intro pins s σ H R I h
 refine thn (hl pins s σ H _ I h) fun v s1 ⟨x,H1,I1,r1,q1⟩=>?_
 obtain⟨a,e,⟨xs,hq⟩,q⟩:=q1
 subst e
 cases r1
 obtain⟨its,rv,p,hz⟩:=I1.tuple hq
 refine zBp (show s1.heap.IsTuple a its.toArray from p) ?_
 refine⟨s1.heap.objs.size,[s1.heap.objs.size],_,_,H1,rfl,I1.kept (t':=s1.toks) fun b o e=>zK _ e,zGt a _,⟨_,zU _ rfl,rfl,rfl⟩,fun b hb=>?_,q⟩
 have e:b=s1.heap.objs.size:=by simpa using hb
 subst e
 exact I1.fpOk (zL _) (I1.hok.fresh (zL _))
theorem zGT {R:It->Hp->Prop}{E:Value->Shared->Prop}{lo hi:Int}{t u v:Tok}{tk:Nat}(I:Inv X pins σ H s)(h1 : -(2 ^ 62)<=lo)(h2:lo<2 ^ 62)(h3 : -(2 ^ 62)<=hi)(h4:hi<2 ^ 62)
 (q:R (Itr lo (hi-lo).toNat) H):wpAny (model X.prog X.w) X.A (pyIter (.ref s.heap.objs.size)) (PIE X pins σ tg R) E { s with heap:=s.heap.push { cls:=.type "range",data:=.fields #[.int lo t,.int hi u,.int 1 v] },toks:=tk }:=by
 refine wpAny_pyIter_range (IsRange.new ..) (small_one h1 h2 h3 h4) ?_
 have I1:Inv X pins σ H { s with heap:=s.heap.push { cls:=.type "range",data:=.fields #[.int lo t,.int hi u,.int 1 v] },toks:=tk }:=I.kept fun b o e=>zK _ e
 refine⟨(s.heap.push { cls:=.type "range",data:=.fields #[.int lo t,.int hi u,.int 1 v] }).objs.size,[(s.heap.push { cls:=.type "range",data:=.fields #[.int lo t,.int hi u,.int 1 v] }).objs.size],_,_,H,rfl,
  I1.kept (t':=tk) fun b o e=>zK _ e,zGu _ lo (hi-lo).toNat,?_,fun b hb=>?_,q⟩
 . have e1:lo+((0:Nat):Int)*1=lo:=by simp
   have e2:(((hi-lo).toNat:Nat):Int)-((0:Nat):Int)=Builtin.Range.rangeSize lo hi 1:=by rw[rangeSize_one];split <;> omega
   show IsRangeIter _ _ (lo+((0:Nat):Int)*1) ((((hi-lo).toNat:Nat):Int)-((0:Nat):Int)) 1
   rw[e1,e2]
   exact zU _ rfl
 . have e:b=(s.heap.push { cls:=.type "range",data:=.fields #[.int lo t,.int hi u,.int 1 v] }).objs.size:=by simpa using hb
   subst e
   exact I1.fpOk (zL _) (I1.hok.fresh (zL _))
noncomputable def iRng1 (ta:TA):TI:=fun σ H R=>ta σ H fun vs H1=>∃j:Int,vs=[.int j] /\ -(2 ^ 62)<=j/\j<2 ^ 62/\R (Itr 0 j.toNat) H1
noncomputable def iRng2 (ta:TA):TI:=fun σ H R=>ta σ H fun vs H1=>∃i j:Int,vs=[.int i,.int j]/\(-(2 ^ 62)<=i/\i<2 ^ 62 /\ -(2 ^ 62)<=j/\j<2 ^ 62)/\R (Itr i (j-i).toNat) H1
theorem zAm {a:Expr}{ta:TA}{p pos:Pos}(hg:Gl X "range") (hm:X.mg "range" = none) (ha:PA X [a] ta)(hs:starEach [a] X.env=[(false,eval a X.env)]:=by rfl):PI X tg (.Call (.Name "range" p) [a] [] pos) (iRng1 ta):=by
 intro pins s σ H R I h
 refine Call_ (zCh I hg hm boot_range (PyProof.Rows.callWith_type1 (thn (ha pos pins s σ H _ I h) fun us s1 ⟨vs,H1,I1,r1,q1⟩=>?_) hs rfl))
 obtain⟨j,e,q1,q2,q⟩:=q1
 subst e
 cases r1 with
 | cons r rr=>
  cases rr
  obtain⟨t,rfl⟩:=r
  exact call_range_1 (zGT I1 (by omega) (by omega) q1 q2 (by simpa using q))
theorem zH0 {a b:Expr}{ta:TA}{p pos:Pos}(hg:Gl X "range") (hm:X.mg "range" = none) (ha:PA X [a,b] ta)(hs:starEach [a,b] X.env=[(false,eval a X.env),(false,eval b X.env)]:=by rfl)(hs2:starEach [b] X.env=[(false,eval b X.env)]:=by rfl) :
 PI X tg (.Call (.Name "range" p) [a,b] [] pos) (iRng2 ta):=by
 intro pins s σ H R I h
 refine Call_ (zCh I hg hm boot_range (PyProof.Rows.callWith_type1 (thn (ha pos pins s σ H _ I h) fun us s1 ⟨vs,H1,I1,r1,q1⟩=>?_) (by rw[hs,hs2]) (by rw[hs2];rfl)))
 obtain⟨i,j,e,⟨q1,q2,q3,q4⟩,q⟩:=q1
 subst e
 cases r1 with
 | cons r rr=>
  cases rr with
  | cons r' rr=>
   cases rr
   obtain⟨t,rfl⟩:=r
   obtain⟨t',rfl⟩:=r'
   exact call_range_2 (zGT I1 q1 q2 q3 q4 q)
noncomputable def tFor (wi:TI)(g:TG)(tb:TS):TS:=fun D σ H=>wi σ H fun J H1=>∃W:Nat->Nat->St->Hp->Prop,(∃m,W 0 m σ H1)/\∀i m σ H,W i m σ H ->
 (J.stop i H/\D.nx σ H)\/(J.go i H/\∃N:St->Hp->Prop,(∀ σ' H',N σ' H'->∃m',m'<m/\W (i+1) m' σ' H')/\∀x H',J.yld i H x H'->g x σ H' fun σ2 H2=>tb { D with nx:=N,ct:=N,bk:=D.nx } σ2 H2)
noncomputable def zEM (fp:List Addr)(h:Heap):List (Addr×Obj):=fp.filterMap fun b=>(h.get? b).map fun o=>(b,o)
theorem zCN {h:Heap}{b:Addr}{o:Obj}(hb:b∈fp)(e:h.get? b=some o):(b,o)∈zEM fp h:=zA9.mpr ⟨b,hb,by rw[e];rfl⟩
theorem zID {h:Heap}{p:Addr×Obj}(hp:p∈zEM fp h):p.1∈fp/\h.get? p.1=some p.2:=by
 obtain⟨b,hb,e⟩:=zA9.mp hp
 cases q:h.get? b with
 | none=>rw[q] at e;cases e
 | some o=>
  rw[q] at e
  have e':(b,o)=p:=zR e
  subst e'
  exact⟨hb,q⟩
theorem Inv.pinned (I:Inv X pins σ H s)(hf:∀b∈fp,zFv X pins H b)(ho:∀b∈fp,∃o,s.heap.get? b=some o/\∀v,o.data ≠ .cell v):Inv X (pins++zEM fp s.heap) σ H s:=
 I.pins_of fun p hp=>(zu.mp hp).elim (fun z=>I.pin p (zj _ z)) fun z=>by
  obtain⟨hb,e⟩:=zID z
  obtain⟨f0,f1,f2,_⟩:=hf p.1 hb
  obtain⟨o,e',d⟩:=ho p.1 hb
  rw[e] at e';cases e'
  exact⟨e,f0,f1,f2,d⟩
theorem Inv.unpinned {pl:List (Addr×Obj)}(I:Inv X (pins++pl) σ H s):Inv X pins σ H s:=I.pins_of fun p hp=>I.pin p (zj _ (zAE _ hp))
theorem zBk {iter:Expr}{body:List Stmt}{wi:TI}{pos:Pos}(hp:PassesOwn (model X.prog X.w) X.A X.env X.xe)(hc:X.calm=true)(hi:PI X tg iter wi)(hg:PG X tg g)(hb:PSs X body tb)
 (hs:∀x,foldedSetIterable iter X.env x=pure x:=by intro _;rfl):PS X (.For tg iter body [] pos) (tFor wi g tb):=by
 intro pins s σ H D I h
 refine wpAny_For (thn (hi pins s σ H _ I h) fun v s1 h1=>thn h1 fun itv s2 h2=>?_) hs
 obtain⟨it,fp,tn,J,H2,e,I2,T,st2,f2,W,⟨m0,w0⟩,turn⟩:=h2
 subst e
 have stat:∀{H':Hp},(∀b∈fp,H' b=none)->∀b∈fp,zFv X pins H' b:=fun hn b hb=>⟨hn b hb,(f2 b hb).2⟩
 refine codeAny_forLoop_any (fun n s'=>∃i σ' H',Inv X pins σ' H' s'/\tn i s'.heap/\(∀b∈fp,H' b=none)/\W i n σ' H') ?_ m0 ⟨0,σ,H2,I2,st2,fun b hb=>(f2 b hb).1,w0⟩
 rintro n s3 ⟨i,σ3,H3,I3,st3,fr3,w3⟩
 rcases turn i n σ3 H3 w3 with ⟨stop,qn⟩ | ⟨go,N,hN,step⟩
 . refine wpAny_passesOwn hp (thn (T.done X rfl rfl rfl hc i pins s3 σ3 H3 X.xe I3 (stat fr3) st3 stop) fun r s4 ⟨hr,I4⟩=>?_)
   subst hr
   exact wpAny_execs_nil ⟨σ3,H3,I4,qn⟩
 . refine wpAny_passesOwn hp (thn (T.item X rfl rfl rfl hc i pins s3 σ3 H3 X.xe I3 (stat fr3) st3 go) fun r s4 ⟨u,hr,h4⟩=>?_)
   subst hr
   refine wpAny_passesOwn hp (thn h4 fun _ s5 ⟨x,H5,I5,r5,y5,st5,fr5⟩=>?_)
   have I5':=I5.pinned (stat fr5) (T.obj _ _ st5)
   refine wpAny_passesOwn hp (thn (hg _ s5 σ3 H5 x u _ I5' r5 (step x H5 y5)) fun _ s6 ⟨σ6,H6,I6,q6⟩=>?_)
   refine wpAny_passesOwn hp (thn (hb _ s6 σ6 H6 _ I6 q6) fun f s7 q7=>?_)
   have again:∀{σ7:St}{H7:Hp},Inv X (pins++zEM fp s5.heap) σ7 H7 s7->N σ7 H7->∃m,m<n/\∃i σ' H',Inv X pins σ' H' s7/\tn i s7.heap/\(∀b∈fp,H' b=none)/\W i m σ' H':=fun {σ7 H7} I7 n7=>by
    obtain⟨m',hm,w7⟩:=hN σ7 H7 n7
    refine⟨m',hm,i+1,σ7,H7,I7.unpinned,T.keep _ _ _ st5 fun b hb o e=>(I7.pin (b,o) (zj _ (zj _ (zCN hb e)))).1,fun b hb=>?_,w7⟩
    obtain⟨o,e,d⟩:=T.obj _ _ st5 b hb
    exact (I7.pin (b,o) (zj _ (zj _ (zCN hb e)))).2.1
   cases f with
   | next=>obtain⟨σ7,H7,I7,n7⟩:=q7;exact again I7 n7
   | cont=>obtain⟨σ7,H7,I7,n7⟩:=q7;exact again I7 n7
   | brk=>obtain⟨σ7,H7,I7,q7⟩:=q7;exact⟨σ7,H7,I7.unpinned,q7⟩
   | ret v=>obtain⟨x7,σ7,H7,I7,r7,q7⟩:=q7;exact⟨x7,σ7,H7,I7.unpinned,r7,q7⟩
end
variable {D:zJ2}
theorem zEz {K:PySem.W.Frag}{a:Addr}{xs:List V}(Pv:Nat->St->Hp->Prop)(h0:Pv 0 σ H)(hl:∀i σ H,i<=xs.length->Pv i σ H->SqL K H a xs)
 (hs:∀i x σ H,xs[i]? = some x->Pv i σ H->g x σ H fun σ2 H2=>tb { D with nx:=Pv (i+1),ct:=Pv (i+1),bk:=D.nx } σ2 H2)(hd:∀ σ H,Pv xs.length σ H->D.nx σ H) :
 ∃W:Nat->Nat->St->Hp->Prop,(∃m,W 0 m σ H)/\∀i m σ H,W i m σ H ->
  ((Itl K a).stop i H/\D.nx σ H)\/((Itl K a).go i H/\∃N:St->Hp->Prop,(∀ σ' H',N σ' H'->∃m',m'<m/\W (i+1) m' σ' H')/\∀x H',(Itl K a).yld i H x H'->g x σ H' fun σ2 H2=>tb { D with nx:=N,ct:=N,bk:=D.nx } σ2 H2):=by
 refine⟨fun i m σ H=>m=xs.length-i/\i<=xs.length/\Pv i σ H,⟨xs.length,by simp,zc _,h0⟩,?_⟩
 rintro i m σ H ⟨rfl,hi,p⟩
 have q:=hl i σ H hi p
 by_cases hlt:i<xs.length
 . refine .inr ⟨⟨xs,xs[i],q,by simp[hlt]⟩,Pv (i+1),fun σ' H' p'=>⟨xs.length-(i+1),by omega,rfl,hlt,p'⟩,fun x H' y=>?_⟩
   obtain⟨e,y⟩:=y
   subst e
   exact hs i x σ _ (y xs q) p
 . have e:i=xs.length:=by omega
   subst e
   exact .inl ⟨⟨xs,q,zL _⟩,hd σ H p⟩
theorem zDD {K:PySem.W.Frag}{a:Addr}{xs:List V}(Pv:Nat->St->Hp->Prop)(h0:Pv 0 σ H)(hl:∀i σ H,i<=xs.length->Pv i σ H->SqT K H a xs)
 (hs:∀i x σ H,xs[i]? = some x->Pv i σ H->g x σ H fun σ2 H2=>tb { D with nx:=Pv (i+1),ct:=Pv (i+1),bk:=D.nx } σ2 H2)(hd:∀ σ H,Pv xs.length σ H->D.nx σ H) :
 ∃W:Nat->Nat->St->Hp->Prop,(∃m,W 0 m σ H)/\∀i m σ H,W i m σ H ->
  ((Itt K a).stop i H/\D.nx σ H)\/((Itt K a).go i H/\∃N:St->Hp->Prop,(∀ σ' H',N σ' H'->∃m',m'<m/\W (i+1) m' σ' H')/\∀x H',(Itt K a).yld i H x H'->g x σ H' fun σ2 H2=>tb { D with nx:=N,ct:=N,bk:=D.nx } σ2 H2):=by
 refine⟨fun i m σ H=>m=xs.length-i/\i<=xs.length/\Pv i σ H,⟨xs.length,by simp,zc _,h0⟩,?_⟩
 rintro i m σ H ⟨rfl,hi,p⟩
 have q:=hl i σ H hi p
 by_cases hlt:i<xs.length
 . refine .inr ⟨⟨xs,xs[i],q,by simp[hlt]⟩,Pv (i+1),fun σ' H' p'=>⟨xs.length-(i+1),by omega,rfl,hlt,p'⟩,fun x H' y=>?_⟩
   obtain⟨e,y⟩:=y
   subst e
   exact hs i x σ _ (y xs q) p
 . have e:i=xs.length:=by omega
   subst e
   exact .inl ⟨⟨xs,q,zL _⟩,hd σ H p⟩
theorem zBQ {lo:Int}{n:Nat}(Pv:Nat->St->Hp->Prop)(h0:Pv 0 σ H)
 (hs:∀i σ H,i<n->Pv i σ H->g (.int (lo+i)) σ H fun σ2 H2=>tb { D with nx:=Pv (i+1),ct:=Pv (i+1),bk:=D.nx } σ2 H2)(hd:∀ σ H,Pv n σ H->D.nx σ H) :
 ∃W:Nat->Nat->St->Hp->Prop,(∃m,W 0 m σ H)/\∀i m σ H,W i m σ H ->
  ((Itr lo n).stop i H/\D.nx σ H)\/((Itr lo n).go i H/\∃N:St->Hp->Prop,(∀ σ' H',N σ' H'->∃m',m'<m/\W (i+1) m' σ' H')/\∀x H',(Itr lo n).yld i H x H'->g x σ H' fun σ2 H2=>tb { D with nx:=N,ct:=N,bk:=D.nx } σ2 H2):=by
 refine⟨fun i m σ H=>m=n-i/\i<=n/\Pv i σ H,⟨n,by simp,zc _,h0⟩,?_⟩
 rintro i m σ H ⟨rfl,hi,p⟩
 by_cases hlt:i<n
 . refine .inr ⟨hlt,Pv (i+1),fun σ' H' p'=>⟨n-(i+1),by omega,rfl,hlt,p'⟩,fun x H' y=>?_⟩
   obtain⟨e,y⟩:=y
   subst e y
   exact hs i σ _ hlt p
 . have e:i=n:=by omega
   subst e
   exact .inl ⟨zL _,hd σ H p⟩
end L2
namespace L2
open PySem PySem.Spec PyProof.Rows
noncomputable abbrev R2:=V->V->Hp->VK->Prop
noncomputable def OpR (X:Cx)(f:Value->Value->Sem Value)(r:R2):Prop:=
 ∀(pins:List (Addr×Obj))(s:Shared)(σ:St)(H:Hp)(x y:V)(v u:Value)(Q:VK),Inv X pins σ H s->zBi x v->zBi y u->r x y H Q ->
  wpAny (model X.prog X.w) X.A (f v u) (EP X pins σ Q) X.xe s
noncomputable def zCn (X:Cx)(f:Value)(r:List V->Hp->VK->Prop):Prop:=
 ∀(pins:List (Addr×Obj))(s:Shared)(σ:St)(H:Hp)(xs:List V)(us:List Value)(Q:VK),Inv X pins σ H s->zBR xs us->r xs H Q ->
  wpAny (model X.prog X.w) X.A (call f us) (EP X pins σ Q) X.xe s
noncomputable def TruR (X:Cx)(r:V->Hp->(Bool->Hp->Prop)->Prop):Prop:=
 ∀(pins:List (Addr×Obj))(s:Shared)(σ:St)(H:Hp)(x:V)(v:Value)(Q:Bool->Hp->Prop),Inv X pins σ H s->zBi x v->r x H Q ->
  wpAny (model X.prog X.w) X.A (truthy v) (TP X pins σ Q) X.xe s
noncomputable def tOp (r:R2)(ta tb:TE):TE:=fun σ H Q=>ta σ H fun x H1=>tb σ H1 fun y H2=>r x y H2 Q
noncomputable def rI (C:Int->Int->Prop)(g:Int->Int->V):R2:=fun x y H Q=>∃i j,x = .int i/\y = .int j/\C i j/\Q (g i j) H
noncomputable def rI0 (g:Int->Int->V):R2:=fun x y H Q=>∃i j,x = .int i/\y = .int j/\Q (g i j) H
variable {f:Value->Value->Sem Value}{r:R2}
section
variable {X:Cx}{a b c:Expr}{ta tb tc:TE}{pos:Pos}
theorem binT (ha:PE X a ta)(hb:PE X b tb){pins:List (Addr×Obj)}{s:Shared}{σ:St}{H:Hp}{R:V->V->Hp->Prop}(I:Inv X pins σ H s)
 (h:ta σ H fun x H1=>tb σ H1 fun y H2=>R x y H2){Q:Value->Shared->Prop}
 (hf:∀v u s2 x y H2,Inv X pins σ H2 s2->zBi x v->zBi y u->R x y H2->wpAny (model X.prog X.w) X.A (f v u) Q X.xe s2) :
 wpAny (model X.prog X.w) X.A (eval a X.env) (fun v s₁=>wpAny (model X.prog X.w) X.A (eval b X.env) (fun u s₂=>wpAny (model X.prog X.w) X.A (f v u) Q X.xe s₂) X.xe s₁) X.xe s:=by
 refine thn (ha pins s σ H _ I h) fun v s1 ⟨x,H1,I1,r1,q1⟩=>?_
 refine thn (hb pins s1 σ H1 _ I1 q1) fun u s2 ⟨y,H2,I2,r2,q2⟩=>?_
 exact hf v u s2 x y H2 I2 r1 r2 q2
theorem zBc {op:Operator}(ho:OpR X (binaryOp op) r)(ha:PE X a ta)(hb:PE X b tb):PE X (.BinOp a op b pos) (tOp r ta tb):=by
 intro pins s σ H Q I h
 exact wpAny_BinOp (binT ha hb I h fun v u s2 x y H2 I2 rx ry q=>ho pins s2 σ H2 x y v u Q I2 rx ry q)
theorem opI {C:Int->Int->Prop}{g:Int->Int->Int}
 (rule:∀(i j:Int)(t u:Tok)(s:Shared)(Q:Value->Shared->Prop)(E:Value->Shared->Prop),C i j->Q (.int (g i j) s.toks) { s with toks:=s.toks+1 }->wpAny (model X.prog X.w) X.A (f (.int i t) (.int j u)) Q E s) :
 OpR X f (rI C fun i j=>.int (g i j)):=by
 intro pins s σ H x y v u Q I rx ry h
 obtain⟨i,j,rfl,rfl,hc,q⟩:=h
 obtain⟨t,rfl⟩:=rx
 obtain⟨t',rfl⟩:=ry
 exact rule i j t t' s _ _ hc ⟨.int (g i j),H,I.tok _,⟨_,rfl⟩,q⟩
theorem opI0 {g:Int->Int->Int}
 (rule:∀(i j:Int)(t u:Tok)(s:Shared)(Q:Value->Shared->Prop)(E:Value->Shared->Prop),Q (.int (g i j) s.toks) { s with toks:=s.toks+1 }->wpAny (model X.prog X.w) X.A (f (.int i t) (.int j u)) Q E s) :
 OpR X f (rI0 fun i j=>.int (g i j)):=by
 intro pins s σ H x y v u Q I rx ry h
 obtain⟨i,j,rfl,rfl,q⟩:=h
 obtain⟨t,rfl⟩:=rx
 obtain⟨t',rfl⟩:=ry
 exact rule i j t t' s _ _ ⟨.int (g i j),H,I.tok _,⟨_,rfl⟩,q⟩
theorem opB0 {g:Int->Int->Bool}
 (rule:∀(i j:Int)(t u:Tok)(s:Shared)(Q:Value->Shared->Prop)(E:Value->Shared->Prop),Q (.bool (g i j)) s->wpAny (model X.prog X.w) X.A (f (.int i t) (.int j u)) Q E s) :
 OpR X f (rI0 fun i j=>.bl (g i j)):=by
 intro pins s σ H x y v u Q I rx ry h
 obtain⟨i,j,rfl,rfl,q⟩:=h
 obtain⟨t,rfl⟩:=rx
 obtain⟨t',rfl⟩:=ry
 exact rule i j t t' s _ _ ⟨.bl (g i j),H,I,rfl,q⟩
noncomputable def CDiv (i j:Int):Prop:=0<j/\j<1073741824
noncomputable def CPow (i j:Int):Prop:=0<=j/\j<=1000000/\i.natAbs<2 ^ 64
noncomputable def CMul (i j:Int):Prop:=(-(2 ^ 64)<i/\i<2 ^ 64)\/(-(2 ^ 64)<j/\j<2 ^ 64)
theorem CMul.ok {i j:Int}(h:CMul i j):IntMulOk i j:=by
 rcases h with ⟨h1,h2⟩ | ⟨h1,h2⟩
 . exact .of_left (intBits_le_64 h1 h2)
 . exact .of_right (intBits_le_64 h1 h2)
theorem zCO:OpR X (binaryOp .Add) (rI0 fun i j=>.int (i+j)):=opI0 fun _ _ _ _ _ _ _ q=>add_int q
theorem zKD:OpR X (binaryOp .Sub) (rI0 fun i j=>.int (i-j)):=opI0 fun _ _ _ _ _ _ _ q=>sub_int q
theorem zFT:OpR X (binaryOp .Mult) (rI CMul fun i j=>.int (i*j)):=opI fun _ _ _ _ _ _ _ hc q=>mul_int q hc.ok
theorem zEs:OpR X (binaryOp .FloorDiv) (rI CDiv fun i j=>.int (i/j)):=opI fun i j _ _ _ _ _ hc q=>by
 have h1:(0:Int)<j:=hc.1
 have h2:j<1073741824:=hc.2
 exact floordiv_int (by omega) (by rw[Int.fdiv_eq_ediv_of_nonneg i (by omega)];exact q) (.inl (PyProof.noPylong_small (by omega)))
theorem zDk:OpR X (binaryOp .Mod) (rI (fun _ j=>0<j) fun i j=>.int (i%j)):=opI fun i j _ _ _ _ _ hc q=>by
 have h1:(0:Int)<j:=hc
 exact mod_int' (by omega) (by rw[Int.fmod_eq_emod_of_nonneg i (by omega)];exact q)
theorem op_pow:OpR X (binaryOp .Pow) (rI CPow fun i j=>.int (i ^ j.toNat)):=opI fun _ _ _ _ _ _ _ hc q=>pow_int_small hc.1 hc.2.1 hc.2.2 q
end
noncomputable def scal:V->V->Bool
 | .non,.non=>true | .non,.int _=>true | .int _,.non=>true | .non,.bl _=>true | .bl _,.non=>true | .non,.str _=>true | .str _,.non=>true
 | .int _,.int _=>true | .bl _,.bl _=>true | .str _,.str _=>true | .byt _,.byt _=>true
 | .int _,.str _=>true | .str _,.int _=>true | .bl _,.str _=>true | .str _,.bl _=>true
 | _,_=>false
noncomputable def rEq:R2:=fun x y H Q=>scal x y=true/\Q (.bl (decide (x=y))) H
noncomputable def rNe:R2:=fun x y H Q=>scal x y=true/\Q (.bl (!decide (x=y))) H
theorem zIi {i j:Int}:decide (V.int i=V.int j)=(i==j):=by
 rw[Bool.eq_iff_iff]
 simp
theorem zKO {i j:Bool}:decide (V.bl i=V.bl j)=(i==j):=by
 rw[Bool.eq_iff_iff]
 simp
theorem zIh {i j:Str}:decide (V.str i=V.str j)=(i==j):=by
 rw[Bool.eq_iff_iff]
 simp
theorem zIj {i j:Array UInt8}:decide (V.byt i=V.byt j)=(i.toList==j.toList):=by
 rw[Bool.eq_iff_iff]
 cases i
 cases j
 simp
variable {op:CmpOp}
section
variable {X:Cx}{a b c:Expr}{ta tb tc:TE}{pos:Pos}
theorem zBD {pins:List (Addr×Obj)}{σ:St}{H:Hp}{s:Shared}{Q:VK}{k k':Bool}(I:Inv X pins σ H s)(q:Q (.bl k) H)(e:k=k'):EP X pins σ Q (.bool k') s:=by
 subst e
 exact⟨.bl k,H,I,rfl,q⟩
theorem zCv:OpR X (compareOp .Eq) rEq:=by
 intro pins s σ H x y v u Q I rx ry h
 obtain⟨hs,q⟩:=h
 cases x with
 | non=>
  cases rx
  cases y with
  | non=>cases ry;exact PySem.EqNone.eq_none_none (zBD I q (by simp))
  | bl j=>cases ry;exact PySem.EqNone.eq_none_bool (zBD I q (by simp))
  | int j=>obtain⟨t',rfl⟩:=ry;exact PySem.EqNone.eq_none_int (zBD I q (by simp))
  | str j=>obtain⟨t',rfl⟩:=ry;exact PySem.EqNone.eq_none_str (zBD I q (by simp))
  | _=>exact absurd (show false=true from hs) zg
 | bl i=>
  cases rx
  cases y with
  | non=>cases ry;exact PySem.EqNone.eq_bool_none (zBD I q (by simp))
  | bl j=>cases ry;exact eq_bool (zBD I q zKO)
  | str j=>obtain⟨t',rfl⟩:=ry;exact PySem.EqMixed.eq_bool_str (zBD I q (by simp))
  | _=>exact absurd (show false=true from hs) zg
 | int i=>
  obtain⟨t,rfl⟩:=rx
  cases y with
  | non=>cases ry;exact PySem.EqNone.eq_int_none (zBD I q (by simp))
  | int j=>obtain⟨t',rfl⟩:=ry;exact eq_int (zBD I q zIi)
  | str j=>obtain⟨t',rfl⟩:=ry;exact PySem.EqMixed.eq_int_str (zBD I q (by simp))
  | _=>exact absurd (show false=true from hs) zg
 | str i=>
  obtain⟨t,rfl⟩:=rx
  cases y with
  | non=>cases ry;exact PySem.EqNone.eq_str_none (zBD I q (by simp))
  | bl j=>cases ry;exact PySem.EqMixed.eq_str_bool (zBD I q (by simp))
  | int j=>obtain⟨t',rfl⟩:=ry;exact PySem.EqMixed.eq_str_int (zBD I q (by simp))
  | str j=>obtain⟨t',rfl⟩:=ry;exact eq_str (zBD I q zIh)
  | _=>exact absurd (show false=true from hs) zg
 | byt i=>
  obtain⟨t,rfl⟩:=rx
  cases y with
  | byt j=>obtain⟨t',rfl⟩:=ry;exact PySem.W.eq_bytes (zBD I q zIj)
  | _=>exact absurd (show false=true from hs) zg
 | _=>cases y <;> exact absurd (show false=true from hs) zg
theorem zH8:OpR X (compareOp .NotEq) rNe:=by
 intro pins s σ H x y v u Q I rx ry h
 obtain⟨hs,q⟩:=h
 cases x with
 | non=>
  cases rx
  cases y with
  | non=>cases ry;exact PySem.EqNone.ne_none_none (zBD I q (by simp))
  | bl j=>cases ry;exact PySem.EqNone.ne_none_bool (zBD I q (by simp))
  | int j=>obtain⟨t',rfl⟩:=ry;exact PySem.EqNone.ne_none_int (zBD I q (by simp))
  | str j=>obtain⟨t',rfl⟩:=ry;exact PySem.EqNone.ne_none_str (zBD I q (by simp))
  | _=>exact absurd (show false=true from hs) zg
 | bl i=>
  cases rx
  cases y with
  | non=>cases ry;exact PySem.EqNone.ne_bool_none (zBD I q (by simp))
  | bl j=>cases ry;exact ne_bool (zBD I q (congrArg not zKO))
  | str j=>obtain⟨t',rfl⟩:=ry;exact PySem.EqMixed.ne_bool_str (zBD I q (by simp))
  | _=>exact absurd (show false=true from hs) zg
 | int i=>
  obtain⟨t,rfl⟩:=rx
  cases y with
  | non=>cases ry;exact PySem.EqNone.ne_int_none (zBD I q (by simp))
  | int j=>obtain⟨t',rfl⟩:=ry;exact ne_int (zBD I q (congrArg not zIi))
  | str j=>obtain⟨t',rfl⟩:=ry;exact PySem.EqMixed.ne_int_str (zBD I q (by simp))
  | _=>exact absurd (show false=true from hs) zg
 | str i=>
  obtain⟨t,rfl⟩:=rx
  cases y with
  | non=>cases ry;exact PySem.EqNone.ne_str_none (zBD I q (by simp))
  | bl j=>cases ry;exact PySem.EqMixed.ne_str_bool (zBD I q (by simp))
  | int j=>obtain⟨t',rfl⟩:=ry;exact PySem.EqMixed.ne_str_int (zBD I q (by simp))
  | str j=>obtain⟨t',rfl⟩:=ry;exact ne_str (zBD I q (congrArg not zIh))
  | _=>exact absurd (show false=true from hs) zg
 | byt i=>
  obtain⟨t,rfl⟩:=rx
  cases y with
  | byt j=>obtain⟨t',rfl⟩:=ry;exact PySem.W.ne_bytes (zBD I q (congrArg not zIj))
  | _=>exact absurd (show false=true from hs) zg
 | _=>cases y <;> exact absurd (show false=true from hs) zg
theorem op_lt:OpR X (compareOp .Lt) (rI0 fun i j=>.bl (decide (i<j))):=opB0 fun _ _ _ _ _ _ _ q=>lt_int q
theorem zK4:OpR X (compareOp .LtE) (rI0 fun i j=>.bl (decide (i<=j))):=opB0 fun _ _ _ _ _ _ _ q=>le_int q
theorem zF1:OpR X (compareOp .Gt) (rI0 fun i j=>.bl (decide (j<i))):=opB0 fun _ _ _ _ _ _ _ q=>gt_int q
theorem op_ge:OpR X (compareOp .GtE) (rI0 fun i j=>.bl (decide (j<=i))):=opB0 fun _ _ _ _ _ _ _ q=>ge_int q
theorem zCr:OpR X (compareOp .Is) (fun x y H Q=>y = .non/\Q (.bl (decide (x = .non))) H):=by
 intro pins s σ H x y v u Q I rx ry h
 obtain⟨rfl,q⟩:=h
 cases ry
 refine is_none_gen (zBD I q ?_)
 cases x <;> first
  | (cases rx;rfl)
  | (obtain⟨t,rfl⟩:=rx;rfl)
theorem zEr:OpR X (compareOp .IsNot) (fun x y H Q=>y = .non/\Q (.bl (!decide (x = .non))) H):=by
 intro pins s σ H x y v u Q I rx ry h
 obtain⟨rfl,q⟩:=h
 cases ry
 refine isnot_none_gen (zBD I q ?_)
 cases x <;> first
  | (cases rx;rfl)
  | (obtain⟨t,rfl⟩:=rx;rfl)
theorem zAc (b:Expr)(h:op ≠ .In:=by decide)(h2:op ≠ .NotIn:=by decide):behindInMarks op b=false:=by
 have e1:(op==CmpOp.In)=false:=by cases op <;> first | rfl | exact absurd rfl h
 have e2:(op==CmpOp.NotIn)=false:=by cases op <;> first | rfl | exact absurd rfl h2
 cases b <;> simp[behindInMarks,e1,e2]
theorem zCg (ho:OpR X (compareOp op) r)(ha:PE X a ta)(hb:PE X b tb)(hm:behindInMarks op b=false):PE X (.Compare a [op] [b] pos) (tOp r ta tb):=by
 intro pins s σ H Q I h
 exact wpAny_Compare1 (binT ha hb I h fun v u s2 x y H2 I2 rx ry q=>ho pins s2 σ H2 x y v u Q I2 rx ry q) hm
noncomputable def tTest (t:TE):TT:=fun σ H Q=>t σ H fun x H'=>∃k,x = .bl k/\Q k H'
theorem zAQ (ho:OpR X (compareOp op) r)(ha:PE X a ta)(hb:PE X b tb)(hm:behindInMarks op b=false):PT X (.Compare a [op] [b] pos) (tTest (tOp r ta tb)):=by
 intro pins s σ H Q I h
 refine wpAny_isTrue_Compare1 (thn (ha pins s σ H _ I h) fun v s1 ⟨x,H1,I1,r1,q1⟩=>thn (hb pins s1 σ H1 _ I1 q1) fun u s2 ⟨y,H2,I2,r2,q2⟩=>
  thn (ho pins s2 σ H2 x y v u _ I2 r1 r2 q2) fun c s3 ⟨z,H3,I3,r3,k,e,q3⟩=>?_) hm
 subst e
 cases r3
 exact zBV ⟨H3,I3,q3⟩
noncomputable def TruV (K:PySem.W.Frag)(x:V)(H:Hp)(k:Bool):Prop:=
 match x with
 | .non=>k=false
 | .bl b=>k=b
 | .int i=>k=(i != 0)
 | .str y=>y.length<=sizeLine/\k=((y.length:Int) != 0)
 | .byt y=>y.size<=sizeLine/\k=((y.size:Int) != 0)
 | .ref p=>(∃xs,SqL K H p xs/\k = !xs.isEmpty)\/(∃xs,SqT K H p xs/\k = !xs.isEmpty)\/∃kvs,H p=some (.dK kvs)/\k = !kvs.isEmpty
 | _=>False
theorem zHC {κ:Type}{kvs:List (κ×V)}{vs:List (κ×Value)}(r:KV kvs vs):(!vs.isEmpty) = !kvs.isEmpty:=by
 cases r <;> rfl
theorem zEU {xs:List V}{its:List Value}(r:zBR xs its):(!its.toArray.isEmpty) = !xs.isEmpty:=by
 cases r <;> simp
theorem zFW:(sizeLine:Nat)<2 ^ 63:=by rw[sizeLine_eq];decide
theorem tru_ok:TruR X (fun x H Q=>∃k,TruV X.K x H k/\Q k H):=by
 intro pins s σ H x v Q I rx h
 obtain⟨k,e,q⟩:=h
 have hl:=zFW
 have hs:sizeLine=16777216:=sizeLine_eq
 cases x with
 | non=>
  cases rx
  have e':k=false:=e
  subst e'
  exact truthy_none ⟨H,I,q⟩
 | bl b=>
  cases rx
  have e':k=b:=e
  subst e'
  exact zBV ⟨H,I,q⟩
 | int i=>
  obtain⟨t,rfl⟩:=rx
  have e':k=(i != 0):=e
  subst e'
  exact PySem.P.truthy_int ⟨H,I,q⟩
 | str y=>
  obtain⟨t,rfl⟩:=rx
  obtain⟨hy,e'⟩:y.length<=sizeLine/\k=((y.length:Int) != 0):=e
  subst e'
  exact PySem.P.truthy_str (by omega) ⟨H,I.tok _,q⟩
 | byt y=>
  obtain⟨t,rfl⟩:=rx
  obtain⟨hy,e'⟩:y.size<=sizeLine/\k=((y.size:Int) != 0):=e
  subst e'
  exact PySem.W.truthy_bytes (by omega) ⟨H,I.tok _,q⟩
 | ref p=>
  cases rx
  have e':(∃xs,SqL X.K H p xs/\k = !xs.isEmpty)\/(∃xs,SqT X.K H p xs/\k = !xs.isEmpty)\/∃kvs,H p=some (.dK kvs)/\k = !kvs.isEmpty:=e
  rcases e' with ⟨xs,hx,e'⟩ | ⟨xs,hx,e'⟩ | ⟨kvs,hx,e'⟩
  . subst e'
    obtain⟨its,r,pl,hz⟩:=I.list hx
    have hlen:=r.length
    exact wpAny_truthy_list pl.isList (by simp only[zP];omega) ⟨H,I.tok _,by rw[zEU r];exact q⟩
  . subst e'
    obtain⟨its,r,pl,hz⟩:=I.tuple hx
    have hlen:=r.length
    exact truthy_tuple pl (by simp only[zP];omega) ⟨H,I.tok _,by rw[zEU r];exact q⟩
  . subst e'
    obtain⟨hz,hS,vs,r,m⟩:kvs.length<=sizeLine/\(p==sysModules)=false/\∃vs,KV kvs vs/\s.heap.DictOf (zAj X.prog X.w) p vs:=I.hok p _ hx
    have hlen:kvs.length=vs.length:=Paired.length r
    exact wpAny_truthy_dict hS m (by omega) ⟨H,I.tok _,by rw[zHC r];exact q⟩
 | _=>exact (show False from e).elim
theorem zJR (ha:PE X a ta)(he:∀whole,isTrue a X.env whole=(do let v <-whole;standAt a.pos;holding [v] (truthy v))) :
 PT X a (fun σ H Q=>ta σ H fun x H'=>∃k,TruV X.K x H' k/\Q k H'):=by
 intro pins s σ H Q I h
 exact isTrue_plain (thn (ha pins s σ H _ I h) fun v s1 ⟨x,H1,I1,r1,q1⟩=>tru_ok pins s1 σ H1 x v Q I1 r1 q1) (he _)
theorem zCt {x:V}{us:List Value}(r:zBR [x] us):∃u,us=[u]/\zBi x u:=by
 cases r with
 | cons r1 r2=>cases r2;exact⟨_,rfl,r1⟩
theorem zJA {x y:V}{us:List Value}(r:zBR [x,y] us):∃u w',us=[u,w']/\zBi x u/\zBi y w':=by
 cases r with
 | cons r1 r2=>
  cases r2 with
  | cons r3 r4=>cases r4;exact⟨_,_,rfl,r1,r3⟩
theorem zFo (hc:X.calm=true):zCn X (.builtin "min") (fun xs H Q=>∃i j,xs=[.int i,.int j]/\Q (.int (if j<i then j else i)) H):=by
 intro pins s σ H xs us Q I r h
 obtain⟨i,j,rfl,q⟩:=h
 obtain⟨u,w',rfl,⟨t,rfl⟩,⟨t',rfl⟩⟩:=zJA r
 refine min_two_ints (I.ok.hd hc) fun h' tk k=>⟨_,H,I.kept k,?_,q⟩
 by_cases hj:j<i
 . rw[if_pos hj,if_pos hj];exact⟨_,rfl⟩
 . rw[if_neg hj,if_neg hj];exact⟨_,rfl⟩
end
end L2
namespace L2
open PySem PySem.Spec PyProof.Rows
structure ObjM (h:Heap)(x dx C:Addr)(mA:Str->Option Value):Prop where
 obj:h.get? x=some (PySem.W.instObj C dx)
 ns:h.Ns1 dx mA
 ne:dx≠x
theorem zIL {h:Heap}{dx:Addr}{mA:Str->Option Value}(n:h.Ns1 dx mA):∃od,h.get? dx=some od/\∀name,PySem.W.lookIn name od=some (mA name):=by
 obtain⟨o,es,ep,ho,hd,hk,_,hm⟩:=n
 refine⟨o,ho,fun name=>?_⟩
 have e:=hm name
 unfold nsFind findBy at e
 rw[<-Array.find?_toList] at e
 unfold PySem.W.lookIn
 rw[hd]
 dsimp only
 split
 . rename_i y q
   rw[q] at e
   exact congrArg some e
 . rename_i q
   rw[q] at e
   have a:es.toList.any (·.refKey)=false:=by
    rw[List.any_eq_false]
    intro y hy
    obtain⟨z,t,hkey⟩:=hk y (Array.mem_toList_iff.mp hy)
    simp[DictEntry.refKey,hkey]
   have a':¬ es.toList.any (·.refKey)=true:=by rw[a];exact zg
   rw[if_neg a']
   exact congrArg some e
theorem ObjM.look {h:Heap}{x dx C:Addr}{mA:Str->Option Value}(I:ObjM h x dx C mA):∃od,PySem.W.InstAt h x (PySem.W.instObj C dx) C (some od)/\∀name,PySem.W.lookIn name od=some (mA name):=
 let ⟨od,ho,hl⟩:=zIL I.ns
 ⟨od,⟨I.obj,rfl,rfl,ho⟩,hl⟩
section
variable {prog:Program}{w:World}{A:Around}{E:Value->Shared->Prop}{s:Shared}{K:PySem.W.Frag}{x dx C f:Addr}{mA:Str->Option Value}{name:Str}{v:Value}
end
theorem zGG.some_of {v:V}{o:Option Value}(r:zGG (some v) o):∃u,o=some u/\zBi v u:=by
 cases o with
 | none=>exact (show False from r).elim
 | some u=>exact⟨u,rfl,r⟩
section
variable {P:Program}{w:World}{H H':Hp}{h h':Heap}{a C dx:Addr}{fs fs':List (Str×V)}
theorem zLS (hok:HOk P w H h)(e:H a=some (.ins C dx fs)):∃mA,ObjM h a dx C mA/\(∀f,zGG (fs.lookup f) (mA f))/\PySem.Within mA (fs.map (·.1))/\fs.length<=1000/\H dx=some (.own a):=by
 obtain⟨d,z,ne,ob,mA,n,r,q⟩:=(show zBs P w H h a (.ins C dx fs) from hok a _ e)
 exact⟨mA,⟨ob,n,ne⟩,r,q,z,d⟩
end
structure Cls (K:PySem.W.Frag)(C:Addr):Prop where
 pg:PySem.W.plainGet K C Str.empty=true
 hd:PySem.W.hasDictIn K C=true
 po:PySem.W.plainOver K C=true
 sa:PySem.W.findIn K (.ref C) "__setattr__" = some (some (.builtin "object.__setattr__"))
theorem Cls.get {K:PySem.W.Frag}{C:Addr}(c:Cls K C)(f:Str):PySem.W.plainGet K C f=true:=c.pg
section
variable {X:Cx}{pins:List (Addr×Obj)}{σ:St}{H:Hp}{s:Shared}{a C dx:Addr}{fs:List (Str×V)}{f:Str}{v:V}{A:Around}{E:Value->Shared->Prop}
end
section
variable {X:Cx}{o e value:Expr}{f:Str}{pos pos' tpos:Pos}{ta tv:TE}
end
section
variable {X:Cx}{pins:List (Addr×Obj)}{σ:St}{H:Hp}{s:Shared}{A:Around}{E:Value->Shared->Prop}{Q:Value->Shared->Prop}{c:Value}{b:Bool}
inductive zHI (K:PySem.W.Frag)(H:Hp):V->Value->Prop where
 | non:zHI K H .non (.type "NoneType")
 | bl (x:Bool):zHI K H (.bl x) (.type "bool")
 | int (i:Int):zHI K H (.int i) (.type "int")
 | str (x:Str):zHI K H (.str x) (.type "str")
 | flt (x:UInt64):zHI K H (.flt x) (.type "float")
 | lst {a:Addr}{xs:List V}(e:H a=some (.lst xs)):zHI K H (.ref a) (.type "list")
 | frz {a:Addr}{o:Obj}{xs:List V}(e:H a=some (.frz o (.lst xs))):zHI K H (.ref a) (.type "list")
 | tup {a:Addr}{xs:List V}(e:H a=some (.tup xs)):zHI K H (.ref a) (.type "tuple")
 | dK {a:Addr}{kvs:List (Key×V)}(e:H a=some (.dK kvs)):zHI K H (.ref a) (.type "dict")
 | dT {a:Addr}{kvs:List (List Key×V)}(e:H a=some (.dT kvs)):zHI K H (.ref a) (.type "dict")
 | ins {a C dx:Addr}{fs:List (Str×V)}(e:H a=some (.ins C dx fs))(cl:Cls K C)(ha:PySem.W.findIn K (.ref C) "__class__" = some (some (.builtin "object.__class__")))
  (hn:PySem.W.specialIn K (.builtin "object.__class__") "__get__" = some (some (.builtin "getset_descriptor.__get__"))) (htk:PySem.W.takesIn K (.builtin "object.__class__")=some true)
  (hm:PySem.W.mroIn K C (.type "object")=some true):zHI K H (.ref a) (.ref C)
theorem zIR {x:V}{u t:Value}(I:Inv X pins σ H s)(rx:zBi x u)(ty:zHI X.K H x t)(e:PySem.W.kitOne X.K t c=some b)(h:∀tk,Q (.bool b) { s with toks:=tk }) :
 wpAny (model X.prog X.w) A (call (.builtin "isinstance") [u,c]) Q E s:=by
 cases ty with
 | non=>cases (show u=Value.none from rx);exact PySem.W.kia_one PySem.W.kitx_none I.kIn True.intro e (fun z=>nomatch z) h
 | bl y=>cases (show u=Value.bool y from rx);exact PySem.W.kia_one PySem.W.kitx_bool I.kIn True.intro e (fun z=>nomatch z) h
 | int i=>obtain⟨t,q⟩:=(show ∃t,u=Value.int i t from rx);cases q;exact PySem.W.kia_one PySem.W.kitx_int I.kIn True.intro e (fun z=>nomatch z) h
 | str y=>obtain⟨t,q⟩:=(show ∃t,u=Value.str y t from rx);cases q;exact PySem.W.kia_one PySem.W.kitx_str I.kIn True.intro e (fun z=>nomatch z) h
 | flt y=>obtain⟨t,q⟩:=(show ∃t,u=Value.float y t from rx);cases q;exact PySem.W.kia_one PySem.W.kitx_float I.kIn True.intro e (fun z=>nomatch z) h
 | @lst a xs ea=>
  cases (show u=Value.ref a from rx)
  obtain⟨_,_,n,_,h1⟩:=(show zBs X.prog X.w H s.heap a (.lst xs) from I.hok a _ ea)
  exact PySem.W.kia_one PySem.W.kitx_list I.kIn ⟨_,h1,rfl⟩ e (fun z=>nomatch z) h
 | @frz a ob xs ea=>
  cases (show u=Value.ref a from rx)
  obtain⟨_,_,_,n,_,h1⟩:=(show zBs X.prog X.w H s.heap a (.frz ob (.lst xs)) from I.hok a _ ea)
  exact PySem.W.kia_one PySem.W.kitx_list I.kIn ⟨_,h1,rfl⟩ e (fun z=>nomatch z) h
 | @tup a xs ea=>
  cases (show u=Value.ref a from rx)
  obtain⟨_,_,_,p⟩:=(show zBs X.prog X.w H s.heap a (.tup xs) from I.hok a _ ea)
  obtain⟨o,h1,h2,_⟩:=p
  exact PySem.W.kia_one PySem.W.kitx_tuple I.kIn ⟨o,h1,h2⟩ e (fun z=>nomatch z) h
 | @dK a kvs ea=>
  cases (show u=Value.ref a from rx)
  obtain⟨_,_,vs,_,p⟩:=(show zBs X.prog X.w H s.heap a (.dK kvs) from I.hok a _ ea)
  obtain⟨o,es,ep,h1,h2,_⟩:=p
  exact PySem.W.kia_one PySem.W.kitx_dict I.kIn ⟨o,h1,h2.1⟩ e (fun z=>nomatch z) h
 | @dT a kvs ea=>
  cases (show u=Value.ref a from rx)
  obtain⟨_,_,xs,_,o,es,ep,h1,h2,_⟩:=(show zBs X.prog X.w H s.heap a (.dT kvs) from I.hok a _ ea)
  exact PySem.W.kia_one PySem.W.kitx_dict I.kIn ⟨o,h1,h2.1⟩ e (fun z=>nomatch z) h
 | @ins a C dx fs ea cl ha hn htk hm=>
  cases (show u=Value.ref a from rx)
  obtain⟨mA,O,_⟩:=zLS I.hok ea
  obtain⟨od,J,_⟩:=O.look
  exact PySem.W.kia_one (PySem.W.kitx_own (cl.get _) cl.hd ha hn htk hm) I.kIn J e (fun z=>nomatch z) h
end
end L2
namespace L2
open PySem PySem.Spec PyProof.Rows
structure zDN (k:Nat)(A:Around):Prop where
 hd:A.handled=none
 dp:A.depth+3*k+5<recursionLimit
 un:A.units+16*k+200<cLine
 gd:A.guards=some []
variable {A:Around}
theorem zDN.mono {j k:Nat}(r:zDN k A)(h:j<=k):zDN j A:=⟨r.hd,by have:=r.dp;omega,by have:=r.un;omega,r.gd⟩
theorem zDN.deeper {k:Nat}(r:zDN (k+1) A)(env:Env):zDN k (A.deeper env):=
 ⟨r.hd,by have:=r.dp;show A.depth+1+3*k+5<_;omega,by have:=r.un;show A.units+3+16*k+200<_;omega,r.gd⟩
theorem zDN.in1 {k:Nat}(r:zDN (k+1) A):zDN k A.in1:=
 ⟨r.hd,by have:=r.dp;show A.depth+3*k+5<_;omega,by have:=r.un;show A.units+1+16*k+200<_;omega,r.gd⟩
theorem zDN.depth {k:Nat}(r:zDN k A):A.depth<recursionLimit:=by have:=r.dp;omega
theorem zDN.units {k:Nat}(r:zDN k A):A.units+64<cLine:=by have:=r.un;omega
theorem zDN.units0 {k:Nat}(r:zDN k A):A.units<cLine:=by have:=r.un;omega
noncomputable def tNil:TA:=fun _ H Q=>Q [] H
noncomputable def zKZ (ta:TE)(tr:TA):TA:=fun σ H Q=>ta σ H fun x H1=>tr σ H1 fun xs H2=>Q (x::xs) H2
section
variable {X:Cx}{e:Expr}{es:List Expr}{te:TE}{t:TA}{pos:Pos}
theorem zT:PA X [] tNil:=fun _ _ _ _ H Q I h=>Calls.spliced_nil ⟨[],H,I,.nil,h⟩
theorem zF (ha:PE X e te)(hr:PA X es t)(hs:starEach (e::es) X.env=(false,eval e X.env)::starEach es X.env:=by rfl):PA X (e::es) (zKZ te t):=by
 intro pos pins s σ H Q I h
 rw[hs]
 show wpAny _ _ (spliced ((false,eval e X.env)::backTo pos (starEach es X.env))) _ _ s
 refine Calls.spliced_cons (thn (ha pins s σ H _ I h) fun u s1 ⟨x,H1,I1,r1,q1⟩=>?_)
 exact thn (hr pos pins s1 σ H1 _ I1 q1) fun us s2 ⟨xs,H2,I2,r2,q2⟩=>⟨x::xs,H2,I2,.cons r1 r2,q2⟩
noncomputable def tTup (t:TA):TE:=fun σ H Q=>t σ H fun xs H1=>xs.length<=sizeLine/\∀p,H1 p=none->Q (.ref p) (upd H1 p (.tup xs))
noncomputable def tLst (t:TA):TE:=fun σ H Q=>t σ H fun xs H1=>xs.length<=sizeLine/\∀p,H1 p=none->Q (.ref p) (upd H1 p (.lst xs))
theorem zBC {x1} (h:PA X es t):PE X (.Tuple es x1 pos) (tTup t):=by
 intro pins s σ H Q I hq
 refine wpAny_Tuple_spliced (thn (h pos pins s σ H _ I hq) fun us s1 ⟨xs,H1,I1,r,z,q⟩=>⟨by rw[<-r.length];exact z,?_⟩)
 have hf:H1 s1.heap.objs.size=none:=I1.hok.fresh (zL _)
 refine⟨.ref s1.heap.objs.size,upd H1 s1.heap.objs.size (.tup xs),I1.laid (t':=s1.toks) (fun b u e=>zK _ e) (zL _) ?_,rfl,q _ hf⟩
 exact⟨⟨z,_,zU _ rfl,rfl⟩,us,r,⟨_,zU _ rfl,rfl,_,rfl⟩⟩
theorem zB1 (h:PA X es t):PE X (.List es pos) (tLst t):=by
 intro pins s σ H Q I hq
 refine wpAny_List_spliced (thn (h pos pins s σ H _ I hq) fun us s1 ⟨xs,H1,I1,r,z,q⟩=>⟨by rw[<-r.length];exact z,?_⟩)
 have hf:H1 s1.heap.objs.size=none:=I1.hok.fresh (zL _)
 refine⟨.ref s1.heap.objs.size,upd H1 s1.heap.objs.size (.lst xs),I1.laid (t':=s1.toks) (fun b u e=>zK _ e) (zL _) ?_,rfl,q _ hf⟩
 exact⟨z,us,0,r,zU _ rfl⟩
end
noncomputable abbrev Sp:=List V->Hp->VK->XK->Prop
noncomputable abbrev CXT:=List Env->Hp->Shared->XK->Value->Shared->Prop
structure Env0 (P:Program)(w:World)(K:PySem.W.Frag)(mg:Str->Option Value)(base:Heap)(A:Around)(outer:List Env)(s:Shared)(H:Hp):Prop where
 frames:A.frames=some outer
 mod:Mod K mg base
 bs:∀b o,base.get? b=some o->s.heap.get? b=some o/\H b=none
 bsz:base.objs.size<=s.heap.objs.size
 funs:s.heap.FunFrames base outer
 frf:∀b∈frs outer,H b=none
 hok:HOk P w H s.heap
 bare:AllBare s.gens
noncomputable def CE (outer:List Env)(P:Program)(w:World)(H:Hp)(s:Shared)(Q:VK)(u:Value)(s':Shared):Prop:=
 ∃v H',s'.os=s.os/\AllBare s'.gens/\Un (frs outer) [] H H' s.heap s'.heap/\HOk P w H' s'.heap/\zBi v u/\Q v H'
noncomputable def CR (CX:CXT)(outer:List Env)(P:Program)(w:World)(H:Hp)(s:Shared)(Q:VK)(E:XK)(r:Result)(s':Shared):Prop:=
 match r with
 | .ok (.ret u)=>CE outer P w H s Q u s'
 | .ok _=>False
 | .error e=>CX outer H s E e s'
structure zAq (P:Program)(w:World)(K:PySem.W.Frag)(mg:Str->Option Value)(base:Heap)(CX:CXT)(k:Nat)(f:Addr)(fd:FuncData)(ps:List Str)(sp:Sp):Prop where
 len:∀vs H Q E,sp vs H Q E->vs.length=ps.length
 run:∀(A:Around)(outer:List Env)(s:Shared)(H:Hp)(args:Args)(us:List Value)(vs:List V)(Q:VK)(E:XK),zDN k A->Env0 P w K mg base A outer s H->BindsTo s fd args (ps.zip us)->zBR vs us->sp vs H Q E ->
  codeAny (model P w) A (.call (.ref f) args) (CR CX outer P w H s Q E) s
theorem zAq.mono {P:Program}{w:World}{K:PySem.W.Frag}{mg:Str->Option Value}{base:Heap}{CX:CXT}{j k:Nat}{f:Addr}{fd:FuncData}{ps:List Str}{sp:Sp}(F:zAq P w K mg base CX j f fd ps sp)(h:j<=k) :
 zAq P w K mg base CX k f fd ps sp:=⟨F.len,fun A outer s H args us vs Q E hr=>F.run A outer s H args us vs Q E (hr.mono h)⟩
variable {P:Program}{w:World}{K:PySem.W.Frag}{mg:Str->Option Value}{base:Heap}{CX:CXT}{f:Addr}{ps:List Str}
theorem zAq.imp {k:Nat}{fd:FuncData}{sp sp':Sp}(F:zAq P w K mg base CX k f fd ps sp)
 (h:∀vs H Q E,sp' vs H Q E->sp vs H Q E):zAq P w K mg base CX k f fd ps sp':=
 ⟨fun vs H Q E q=>F.len vs H Q E (h _ _ _ _ q),fun A outer s H args us vs Q E hr he hb hv hs=>F.run A outer s H args us vs Q E hr he hb hv (h _ _ _ _ hs)⟩
section
variable {X:Cx}{pins:List (Addr×Obj)}{σ:St}{H:Hp}{s s':Shared}
theorem Inv.env0 (I:Inv X pins σ H s):Env0 X.prog X.w X.K X.mg X.base X.A X.stack s H:=
 ⟨I.ok.frames,I.ok.mod,I.bs,zy I.ok.bsz I.sz,I.stack,I.stkFree,I.hok,I.bare⟩
theorem Inv.after {Q:VK}{u:Value}(I:Inv X pins σ H s)(h:CE X.stack X.prog X.w H s Q u s'):EP X pins σ Q u s':=by
 obtain⟨v,H',os,bare,un,hok,r,q⟩:=h
 obtain⟨hh,g,d,t,os'⟩:=s'
 obtain rfl:os'=s.os:=os
 exact⟨v,H',I.call (h':=hh) (g':=g) (d':=d) (t':=t) (ch:=[]) un hok bare (fun b z=>absurd z (by simp)),r,q⟩
end
noncomputable def tCall (sp:Sp)(dvs:List V)(E:XK)(t:TA):TE:=fun σ H Q=>t σ H fun vs H1=>sp (vs++dvs) H1 Q E
noncomputable def zAP (K:PySem.W.Frag)(fd:FuncData)(ps:List Str)(ds:List Value):Prop:=
 ∀(s:Shared)(us:List Value),K.In s.heap->(us++ds).length=ps.length->BindsTo s fd ⟨us,[]⟩ (ps.zip (us++ds))
theorem zAP.all {fd:FuncData}(h:∀us:List Value,us.length=ps.length->bindArgs fd ⟨us,[]⟩=pure (ps.zip us)):zAP K fd ps []:=fun s us _ hl=>by
 rw[zAB] at hl ⊢
 exact .of_eq (h us hl)
noncomputable def zIz (CX:CXT)(X:Cx)(E:XK):Prop:=∀(pins:List (Addr×Obj))(σ:St)(H:Hp)(s:Shared)(e:Value)(s':Shared),Inv X pins σ H s->CX X.stack H s E e s'->X.xe e s'
section
variable {X:Cx}{CX:CXT}{k:Nat}{f C:Addr}{fd:FuncData}{ps:List Str}{sp:Sp}{dvs:List V}{ds:List Value}{E:XK}{x m:Str}{p pos apos:Pos}{e o:Expr}{es:List Expr}{ta:TE}{t:TA}
theorem run_fn {pins:List (Addr×Obj)}{σ:St}{H:Hp}{s:Shared}{Q:VK}{us:List Value}{vs:List V}(F:zAq X.prog X.w X.K X.mg X.base CX k f fd ps sp)(hr:zDN k X.A)(hb:zAP X.K fd ps ds)(hd:zBR dvs ds)(hx:zIz CX X E)
 (I:Inv X pins σ H s)(r:zBR vs us)(h:sp (vs++dvs) H Q E):wpAny (model X.prog X.w) X.A (call (.ref f) us) (EP X pins σ Q) X.xe s:=by
 have r2:zBR (vs++dvs) (us++ds):=r.append hd
 have hl:(us++ds).length=ps.length:=by rw[<-r2.length];exact F.len _ _ _ _ h
 refine wpAny_call (codeAny_mono (F.run X.A X.stack s H ⟨us,[]⟩ (us++ds) (vs++dvs) Q E hr I.env0 (hb s us I.kIn hl) r2 h) fun r s' hq=>?_)
 cases r with
 | error e=>exact hx pins σ H s e s' I hq
 | ok fl=>
  cases fl with
  | ret u=>exact I.after hq
  | next=>exact False.elim hq
  | brk=>exact False.elim hq
  | cont=>exact False.elim hq
theorem zx (F:zAq X.prog X.w X.K X.mg X.base CX k f fd ps sp)(hr:zDN k X.A)(hg:Gl X x)(hm:X.mg x=some (.ref f))(hk:PySem.W.keepIn X.K (.ref f)=true)(hb:zAP X.K fd ps ds)(hd:zBR dvs ds)(hx:zIz CX X E)
 (ha:PA X (e::es) t)(hdb:(x==("__debug__" : Str))=false:=by decide) (he:starEach (e::es) X.env=(false,eval e X.env)::starEach es X.env:=by rfl)(hpl:(backTo pos (starEach es X.env)).any (·.1)=false:=by rfl) :
 PE X (.Call (.Name x p) (e::es) [] pos) (tCall sp dvs E t):=by
 intro pins s σ H Q I h
 refine wpAny_Call_Name_kw (zLP I hg hm ?_ hdb)
 refine PySem.W.callWith_K (h₀:=X.base) I.ok.mod.kin hk (thn (ha pos pins s σ H _ I h) fun us s1 ⟨vs,H1,I1,r,q⟩=>⟨I1.kIn,?_⟩) he hpl
 exact run_fn F hr hb hd hx I1 r q
end
section
variable {X:Cx}{CX:CXT}{k:Nat}{f C:Addr}{fd:FuncData}{ps ks:List Str}{sp:Sp}{E:XK}{x m:Str}{p pos apos kpos:Pos}{e o:Expr}{es:List Expr}{kws:List Keyword}{te ta:TE}{t tk:TA}{nm:Option Str}
variable {g:List Value->List Value->List Value}{gV:List V->List V->List V}
end
structure zAR (N P:List Str)(sc:Scope):Prop where
 kind:sc.kind = .function
 co:sc.isCoroutine=false
 gen:sc.isGenerator=false
 nd:N.Nodup
 pre:N.take P.length=P
 par:∀x∈P,sc.names.lookup x=some .local\/sc.names.lookup x=some .cell
 nofree:∀y∈sc.names,y.2 ≠ .free
theorem zFp {kindOf:Str->Option NameKind}{x:Str}:∀{binds:List (Str×Value)}{m:Str->Option Value},(∀v,(x,v)∉binds)->bindL kindOf binds m x=m x
 | [],_,_=>rfl
 | (n,v)::r,m,h=>by
  unfold bindL
  rw[zFp fun w hw=>h w (zv _ hw)]
  split
  . have:x≠n:=by rintro rfl;exact h v zl
    simp[this]
  . rfl
theorem zFr {kindOf:Str->Option NameKind}{x:Str}:∀{binds:List (Str×Value)}{m:Str->Option Value},(∀v,(x,v)∉binds)->bindC kindOf binds m x=m x
 | [],_,_=>rfl
 | (n,v)::r,m,h=>by
  unfold bindC
  rw[zFr fun w hw=>h w (zv _ hw)]
  split
  . rfl
  . have:x≠n:=by rintro rfl;exact h v zl
    simp[this]
theorem zFq {kindOf:Str->Option NameKind}{x:Str}{v:Value}:∀{P:List Str}{vs:List Value}{i:Nat}{m:Str->Option Value},P.Nodup->P[i]? = some x->vs[i]? = some v->kindOf x=some .local ->
 bindL kindOf (P.zip vs) m x=some v
 | [],_,_,_,_,h,_,_=>by simp at h
 | _::_,[],_,_,_,_,h,_=>by simp at h
 | p::P,w::vs,0,m,nd,h1,h2,hk=>by
  simp at h1 h2;subst h1;subst h2
  show bindL kindOf ((p,w)::P.zip vs) m p=_
  unfold bindL
  rw[zFp fun v hv=>(zA3.mp nd).1 (List.of_mem_zip hv).1,if_pos hk]
  simp
 | p::P,w::vs,i+1,m,nd,h1,h2,hk=>by
  show bindL kindOf ((p,w)::P.zip vs) m x=_
  unfold bindL
  exact zFq (i:=i) (zA3.mp nd).2 (by simpa using h1) (by simpa using h2) hk
theorem zFs {kindOf:Str->Option NameKind}{x:Str}{v:Value}:∀{P:List Str}{vs:List Value}{i:Nat}{m:Str->Option Value},P.Nodup->P[i]? = some x->vs[i]? = some v->kindOf x≠some .local ->
 bindC kindOf (P.zip vs) m x=some v
 | [],_,_,_,_,h,_,_=>by simp at h
 | _::_,[],_,_,_,_,h,_=>by simp at h
 | p::P,w::vs,0,m,nd,h1,h2,hk=>by
  simp at h1 h2;subst h1;subst h2
  show bindC kindOf ((p,w)::P.zip vs) m p=_
  unfold bindC
  rw[zFr fun v hv=>(zA3.mp nd).1 (List.of_mem_zip hv).1,if_neg hk]
  simp
 | p::P,w::vs,i+1,m,nd,h1,h2,hk=>by
  show bindC kindOf ((p,w)::P.zip vs) m x=_
  unfold bindC
  exact zFs (i:=i) (zA3.mp nd).2 (by simpa using h1) (by simpa using h2) hk
noncomputable def start (N:List Str)(vs:List V):St:=vs.map some++List.replicate (N.length-vs.length) none
noncomputable def zLd (CX:CXT)(P:Program)(w:World)(K:PySem.W.Frag)(mg:Str->Option Value)(base:Heap)(N:List Str)(qual:Str)(scope:Scope)(f:Addr)(cd:Value)(A:Around)(outer:List Env)(s:Shared)(H:Hp)(E:XK):Cx where
 prog:=P
 w:=w
 K:=K
 mg:=mg
 base:=base
 A:=A.deeper (envOfC qual scope s.heap.objs.size f cd)
 N:=N
 s₀:=s
 H₀:=H
 env:=envOfC qual scope s.heap.objs.size f cd
 outer:=outer
 stack:=envOfC qual scope s.heap.objs.size f cd::outer
 ex:=[]
 calm:=true
 fn:=fun _=>true
 pn:=[]
 xe:=fun e s'=>wpAny (model P w) (A.deeper (envOfC qual scope s.heap.objs.size f cd)) (leaving (envOfC qual scope s.heap.objs.size f cd) e) (fun _ s''=>CX outer H s E e s'') (fun e' s''=>CX outer H s E e' s'') s'
theorem zGo {sc:Scope}{n:Nat}{x:Str}(h:sc.names.lookup x=some .cell):∃c,(cellsFrom n sc.names []).lookup x=some c:=by
 have q:=PySem.W.cellsFrom_some sc.names n [] (.inl h)
 exact zA4.mp q
theorem zIT {N:List Str}{qual:Str}{scope:Scope}{cd:Value}{outer:List Env}{s s1:Shared}{H:Hp}{E:XK}{us:List Value}{vs:List V}
 (S:zAR N ps scope)(hd:A.handled=none)(e0:Env0 P w K mg base A outer s H)(hl:vs.length=ps.length)(r:zBR vs us)
 (x:InCallC s s.heap.objs.size (bindL (envOfC qual scope s.heap.objs.size f cd).kindOf (ps.zip us) fun _=>none) (cellsFrom (s.heap.objs.size+1) scope.names []) (bindC (envOfC qual scope s.heap.objs.size f cd).kindOf (ps.zip us) fun _=>none) s1) :
 Inv (zLd CX P w K mg base N qual scope f cd A outer s H E) [] (start N vs) H s1:=by
 have hpl:ps.length<=N.length:=by have:=congrArg List.length S.pre;rw[zw] at this;omega
 obtain⟨h1,tk,rfl,hk⟩:=x.done
 have noA:∀b:Addr,b∉(zLd CX P w K mg base N qual scope f cd A outer s H E).ex:=fun b z=>absurd (show b∈([]:List Addr) from z) (by simp)
 refine⟨⟨e0.mod,S.kind,rfl,rfl,zL _,fun y z c h1 h2=>?_,fun y hy=>?_,fun y c _ h=>?_,fun _=>hd,Around.frames_deeper e0.frames,.inr ⟨rfl,rfl⟩,fun b z=>absurd z (noA b),e0.bs,e0.bsz,fun b _ _=>noA b,fun b z=>absurd z (noA b),e0.funs,e0.frf⟩,
  rfl,e0.bare,Un.kept hk,⟨_,x.toInCall.ns,fun i y v h1 h2 h3=>?_⟩,fun y c h=>⟨_,x.cell y c h⟩,e0.hok.fresh (zL _),fun y c h=>?_,fun p hp=>absurd (show p∈([]:List (Addr×Obj)) from hp) (by simp),e0.hok.kept hk,?_⟩
 . exact name_of_addr x.apart (PySem.mem_of_lookup h1) (PySem.mem_of_lookup h2)
 . have hy:scope.names.lookup y=some .cell\/scope.names.lookup y=some .free:=hy
   rcases hy with hy | hy
   . exact zGo hy
   . exact absurd rfl (S.nofree _ (PySem.mem_of_lookup hy))
 . exact zBq (x.above y c (PySem.mem_of_lookup h))
 . have hi:i<vs.length:=by
    unfold start at h2
    by_cases hi:i<vs.length
    . exact hi
    . rw[zM (by simpa using hi)] at h2
      rw[zBS] at h2
      split at h2 <;> cases h2
   have ha:vs[i]? = some v:=by
    unfold start at h2
    rw[zN (by simpa using hi),zO] at h2
    cases e:vs[i]? with
    | none=>rw[e] at h2;cases h2
    | some a=>rw[e] at h2;cases h2;rfl
   obtain⟨u,hu,rv⟩:=r.get ha
   have hp:ps[i]? = some y:=by
    rw[<-S.pre,List.getElem?_take_of_lt (by omega)];exact h1
   have ndP:ps.Nodup:=by rw[<-S.pre];exact S.nd.sublist (List.take_sublist _ _)
   refine⟨u,rv,?_⟩
   rcases S.par y (zS hp) with k | k
   . exact .inl ⟨k,zFq ndP hp hu k⟩
   . obtain⟨c,e⟩:=zGo (n:=s.heap.objs.size+1) k
     refine .inr ⟨.inl k,c,e,?_⟩
     have q:=x.cell y c e
     rw[zFs ndP hp hu (by show scope.names.lookup y≠_;rw[k];decide)] at q
     exact q
 . exact e0.hok.fresh (zBq (x.above y c (PySem.mem_of_lookup h)))
 . unfold start
   show _=N.length
   rw[zI,zB,zAa]
   omega
theorem fn_of {k:Nat}{name qual:Str}{params:Arguments}{body:List Stmt}{scope:Scope}{dV kV doc pm cdv ct oc:Value}{an od:Option Addr}
 {osl:Array (Option Value)}{N:List Str}{sp:Sp}(lk:K.lookup f=some ⟨oc,od,.func (PySem.W.fnOf name qual params body scope dV kV doc pm an cdv ct),osl⟩)(hcd:PySem.W.codeIn K cdv qual=true)(S:zAR N ps scope)
 (len:∀vs H Q E,sp vs H Q E->vs.length=ps.length)
 (hbody:∀(A:Around)(outer:List Env)(s:Shared)(H:Hp)(vs:List V)(Q:VK)(E:XK),zDN k (A.deeper (envOfC qual scope s.heap.objs.size f cdv))->sp vs H Q E ->
  ∃t,PSs (zLd CX P w K mg base N qual scope f cdv A outer s H E) body t/\t { nx:=fun _ H'=>Q .non H',rt:=Q } (start N vs) H) :
 zAq P w K mg base CX (k+1) f (PySem.W.fnOf name qual params body scope dV kV doc pm an cdv ct) ps sp:=by
 refine⟨len,fun A outer s H args us vs Q E hr e0 hb r hsp=>?_⟩
 have hl:=len _ _ _ _ hsp
 have KX:K.In s.heap:=e0.mod.kin.keeps fun b o e=>(e0.bs b o e).1
 have lim:s.heap.NoLimit:=e0.mod.nolimit.keeps fun b o e=>(e0.bs b o e).1
 have hkind:∀y∈ps.zip us,scope.names.lookup y.1=some .local\/(scope.names.lookup y.1=some .cell/\((cellsFrom (s.heap.objs.size+1) scope.names []).lookup y.1).isSome=true):=fun ⟨n,v⟩ hy=>by
  rcases S.par n (List.of_mem_zip hy).1 with q | q
  . exact .inl q
  . exact .inr ⟨q,PySem.W.cellsFrom_some _ _ _ (.inl q)⟩
 refine codeAny_call_function hr.depth (KX _ _ lk) rfl S.co S.gen rfl (PySem.W.codeRec_of KX hcd) (hb _ _ _ _ ?_)
 refine wpAny_newFunctionEnv_cells S.kind hkind fun env he s1 x=>?_
 subst he
 refine⟨lim.keeps x.toInCall.keep,codeAny_func ?_⟩
 obtain⟨t,ht,hq⟩:=hbody A outer s H vs Q E (hr.deeper _) hsp
 have I:Inv (zLd CX P w K mg base N qual scope f cdv A outer s H E) [] (start N vs) H s1:=zIT S hr.hd e0 hl r x
 refine zBW (ht [] s1 (start N vs) H _ I hq) (fun fl s' hs=>?_) fun e s' hs=>hs
 have fin:∀{σ':St}{H':Hp}{v:V}{u:Value},Inv (zLd CX P w K mg base N qual scope f cdv A outer s H E) [] σ' H' s'->zBi v u->Q v H'->CE outer P w H s Q u s':=
  fun {σ' H' v u} J rv q=>⟨v,H',J.os,J.bare,J.base,J.hok,rv,q⟩
 cases fl with
 | ret u=>
  obtain⟨v,σ',H',J,rv,q⟩:=hs
  exact fin J rv q
 | next=>
  obtain⟨σ',H',J,q⟩:=hs
  exact fin (v:=V.non) (u:=Value.none) J rfl q
 | brk=>
  obtain⟨_,_,_,q⟩:=hs
  exact False.elim q
 | cont=>
  obtain⟨_,_,_,q⟩:=hs
  exact False.elim q
end L2
namespace L2
open PySem PySem.Spec PyProof.Rows
section
variable {X:Cx}{x:Str}{p pos:Pos}{e:Expr}{es:List Expr}{t:TA}{id T:String}{r:List V->Hp->VK->Prop}
noncomputable def tCB (r:List V->Hp->VK->Prop)(t:TA):TE:=fun σ H Q=>t σ H fun vs H1=>r vs H1 Q
theorem zAV (hc:zCn X (.builtin id) r)(hg:Gl X x)(hm:X.mg x=none)(hv:bootBuiltins x=some (.builtin id))(ha:PA X (e::es) t)(hn:x ≠ "__name__" := by decide) (hdb:(x==("__debug__" : Str))=false:=by decide)
 (he:starEach (e::es) X.env=(false,eval e X.env)::starEach es X.env:=by rfl)(hpl:(backTo pos (starEach es X.env)).any (·.1)=false:=by rfl):PE X (.Call (.Name x p) (e::es) [] pos) (tCB r t):=by
 intro pins s σ H Q I h
 refine wpAny_Call_Name_kw (zCh I hg hm hv ?_ hn hdb)
 exact PyProof.Rows.callWith_builtin1 (thn (ha pos pins s σ H _ I h) fun us s1 ⟨vs,H1,I1,r1,q1⟩=>hc pins s1 σ H1 vs us Q I1 r1 q1) he hpl
theorem zAf (hc:zCn X (.type T) r)(hg:Gl X x)(hm:X.mg x=none)(hv:bootBuiltins x=some (.type T))(ha:PA X (e::es) t)(hn:x ≠ "__name__" := by decide) (hdb:(x==("__debug__" : Str))=false:=by decide)
 (he:starEach (e::es) X.env=(false,eval e X.env)::starEach es X.env:=by rfl)(hpl:(backTo pos (starEach es X.env)).any (·.1)=false:=by rfl):PE X (.Call (.Name x p) (e::es) [] pos) (tCB r t):=by
 intro pins s σ H Q I h
 refine wpAny_Call_Name_kw (zCh I hg hm hv ?_ hn hdb)
 exact PyProof.Rows.callWith_type1 (thn (ha pos pins s σ H _ I h) fun us s1 ⟨vs,H1,I1,r1,q1⟩=>hc pins s1 σ H1 vs us Q I1 r1 q1) he hpl
end
end L2
namespace L2
open PySem PySem.Spec PyProof.Rows
variable {o:Option V}{u:Value}{y:V}
section
variable {κ:Type} [DecidableEq κ]
noncomputable def zBv (kvs:List (κ×V))(k:κ):Option V:=(kvs.find? fun kv=>decide (kv.1=k)).map (·.2)
noncomputable def zCP (kvs:List (κ×V))(k:κ)(v:V):List (κ×V):=
 if (kvs.any fun kv=>decide (kv.1=k))=true then kvs.map (fun kv=>if kv.1=k then (kv.1,v) else kv) else kvs++[(k,v)]
noncomputable def zCM (kvs:List (κ×V))(k:κ):List (κ×V):=kvs.filter fun kv=>decide (kv.1≠k)
theorem zEb {k:κ}:zBv ([]:List (κ×V)) k=none:=rfl
theorem zBj {p:κ×V}{r:List (κ×V)}{k:κ}(e:p.1=k):zBv (p::r) k=some p.2:=by simp[zBv,List.find?_cons,e]
theorem zBY {p:κ×V}{r:List (κ×V)}{k:κ}(e:¬ p.1=k):zBv (p::r) k=zBv r k:=by simp[zBv,List.find?_cons,e]
theorem zCA (k:κ):∀kvs:List (κ×V),(kvs.any fun kv=>decide (kv.1=k))=(zBv kvs k).isSome
 | []=>rfl
 | p::r=>by
  rw[List.any_cons]
  by_cases e:p.1=k
  . simp only[zBj e,zV e,Bool.true_or,Option.isSome_some]
  . rw[zBY e,ze e,Bool.false_or];exact zCA k r
theorem zGI (k j:κ)(y:V):∀kvs:List (κ×V),zBv (kvs.map fun kv=>if kv.1=k then (kv.1,y) else kv) j=(zBv kvs j).map fun x=>if j=k then y else x
 | []=>rfl
 | p::r=>by
  have ih:=zGI k j y r
  rw[zAS]
  by_cases h:p.1=k
  . rw[if_pos h]
    by_cases e:p.1=j
    . rw[zBj (p:=(p.1,y)) e,zBj e,zAs,if_pos (e.symm.trans h)]
    . rw[zBY (p:=(p.1,y)) e,zBY e,ih]
  . rw[if_neg h]
    by_cases e:p.1=j
    . rw[zBj (p:=p) e,zBj e,zAs,if_neg (fun z=>h (e.trans z))]
    . rw[zBY (p:=p) e,zBY e,ih]
theorem zE9 (k j:κ)(y:V):∀kvs:List (κ×V),zBv kvs k=none->zBv (kvs++[(k,y)]) j=if j=k then some y else zBv kvs j
 | [],_=>by
  by_cases e:k=j
  . rw[if_pos e.symm];exact zBj (p:=(k,y)) e
  . rw[if_neg (fun z=>e z.symm)];exact zBY (p:=(k,y)) e
 | p::r,hn=>by
  rw[List.cons_append]
  have hk:¬ p.1=k:=fun z=>by rw[zBj z] at hn;cases hn
  rw[zBY hk] at hn
  have ih:=zE9 k j y r hn
  by_cases e:p.1=j
  . rw[zBj e,zBj e,if_neg (fun z=>hk (e.trans z))]
  . rw[zBY e,zBY e,ih]
theorem zEa (kvs:List (κ×V))(k j:κ)(y:V):zBv (zCP kvs k y) j=if j=k then some y else zBv kvs j:=by
 unfold zCP
 by_cases a:(kvs.any fun kv=>decide (kv.1=k))=true
 . rw[if_pos a,zGI]
   rw[zCA] at a
   by_cases e:j=k
   . obtain⟨x,hx⟩:=zA4.mp a
     rw[if_pos e,e,hx,zAs,if_pos rfl]
   . rw[if_neg e]
     cases zBv kvs j with
     | none=>rfl
     | some x=>rw[zAs,if_neg e]
 . rw[if_neg a]
   refine zE9 k j y kvs ?_
   rw[zCA] at a
   cases q:zBv kvs k with
   | none=>rfl
   | some x=>rw[q] at a;exact (a rfl).elim
theorem zBG (kvs:List (κ×V))(k:κ)(v:V):(zCP kvs k v).length<=kvs.length+1:=by
 unfold zCP
 split
 . rw[zB];omega
 . rw[zI,zAG,List.length_nil];omega
theorem zDS {kvs:List (κ×V)}{k:κ}(v:V)(h:zBv kvs k=none):zCP kvs k v=kvs++[(k,v)]:=by
 unfold zCP
 rw[zCA,h]
 exact if_neg (by decide)
theorem zGG.isSome_eq {u:Option Value}(r:zGG o u):o.isSome=u.isSome:=by
 cases o with
 | none=>cases u with
  | none=>rfl
  | some _=>exact (show False from r).elim
 | some _=>cases u with
  | none=>exact (show False from r).elim
  | some _=>rfl
theorem zGG.getD {u:Option Value}{d:V}{d':Value}(r:zGG o u)(rd:zBi d d'):zBi (o.getD d) (u.getD d'):=by
 cases o with
 | none=>cases u with
  | none=>exact rd
  | some _=>exact (show False from r).elim
 | some _=>cases u with
  | none=>exact (show False from r).elim
  | some _=>exact r
theorem KV.val {kvs:List (κ×V)}{vs:List (κ×Value)}(r:KV kvs vs)(k:κ):zGG (zBv kvs k) (valueAt vs k):=by
 unfold KV at r
 induction r with
 | nil=>exact True.intro
 | @cons p q ps qs h t ih=>
  obtain⟨h1,h2⟩:=h
  by_cases e:p.1=k
  . have e':q.1=k:=h1.symm.trans e
    have b:valueAt (q::qs) k=some q.2:=by simp[valueAt,List.find?_cons,e']
    rw[zBj e,b];exact h2
  . have e':¬ q.1=k:=fun z=>e (h1.trans z)
    have b:valueAt (q::qs) k=valueAt qs k:=by simp[valueAt,List.find?_cons,e']
    rw[zBY e,b];exact ih
theorem KV.any {kvs:List (κ×V)}{vs:List (κ×Value)}(r:KV kvs vs)(k:κ):(kvs.any fun kv=>decide (kv.1=k))=vs.any fun kv=>decide (kv.1=k):=by
 unfold KV at r
 induction r with
 | nil=>rfl
 | cons h t ih=>rw[List.any_cons,List.any_cons,ih,h.1]
theorem KV.repl {kvs:List (κ×V)}{vs:List (κ×Value)}(r:KV kvs vs)(k:κ)(ry:zBi y u) :
 KV (kvs.map fun kv=>if kv.1=k then (kv.1,y) else kv) (vs.map fun kv=>if kv.1=k then (kv.1,u) else kv):=by
 unfold KV at r ⊢
 induction r with
 | nil=>exact .nil
 | @cons p q ps qs h t ih=>
  rw[zAS,zAS]
  refine .cons ?_ ih
  obtain⟨h1,h2⟩:=h
  by_cases e:p.1=k
  . rw[if_pos e,if_pos (h1.symm.trans e)];exact⟨h1,ry⟩
  . rw[if_neg e,if_neg (fun z=>e (h1.trans z))];exact⟨h1,h2⟩
theorem KV.put {kvs:List (κ×V)}{vs:List (κ×Value)}(r:KV kvs vs)(k:κ)(ry:zBi y u):KV (zCP kvs k y) (stored vs k u):=by
 unfold zCP stored
 rw[r.any k]
 by_cases e:(vs.any fun kv=>decide (kv.1=k))=true
 . rw[if_pos e,if_pos e];exact r.repl k ry
 . rw[if_neg e,if_neg e];exact Paired.snoc r ⟨rfl,ry⟩
theorem KV.drop {kvs:List (κ×V)}{vs:List (κ×Value)}(r:KV kvs vs)(k:κ):KV (zCM kvs k) (without vs k):=by
 unfold KV at r ⊢
 unfold zCM without
 induction r with
 | nil=>exact .nil
 | @cons p q ps qs h t ih=>
  obtain⟨h1,h2⟩:=h
  rw[zBn,zBn]
  by_cases e:p.1=k
  . have a:¬ decide (p.1≠k)=true:=by simp[e]
    have b:¬ decide (q.1≠k)=true:=by simp[h1.symm.trans e]
    rw[if_neg a,if_neg b];exact ih
  . have e':¬ q.1=k:=fun z=>e (h1.trans z)
    have a:decide (p.1≠k)=true:=by simp[e]
    have b:decide (q.1≠k)=true:=by simp[e']
    rw[if_pos a,if_pos b];exact .cons ⟨h1,h2⟩ ih
theorem KV.length {kvs:List (κ×V)}{vs:List (κ×Value)}(r:KV kvs vs):kvs.length=vs.length:=Paired.length r
theorem zGl (kvs:List (κ×V))(k:κ):(zCM kvs k).length<=kvs.length:=zq _ _
end
variable {P:Program}{w:World}
theorem zDs {k:Key}(r:zBi (kV k) u):(zAj P w).is k u=true:=by
 cases k with
 | inl i=>obtain⟨t,e⟩:=(show ∃t,u=Value.int i t from r);subst e;exact zF4 P w i t
 | inr x=>obtain⟨t,e⟩:=(show ∃t,u=Value.str x t from r);subst e;exact zF3 P w x t
theorem zFZ {P:Program}{w:World}:∀{ks:List Key}{us:List Value},zBR (ks.map kV) us->ItemsAre (zAj P w) ks us
 | [],_,r=>by rw[List.map_nil] at r;cases r;exact .nil
 | k::ks,_,r=>by
  rw[zAS] at r
  cases r with
  | cons h t=>exact .cons (zDs h) (zFZ t)
noncomputable abbrev KT (H:Hp):List (List Key×V)->List (List Key×Addr×Value)->Prop:=Paired fun p q=>p.1=q.1/\H q.2.1=some (.tup (p.1.map kV))/\zBi p.2 q.2.2
variable {kvs:List (List Key×V)}{H:Hp}{xs:List (List Key×Addr×Value)}
theorem KT.val (r:KT H kvs xs)(k:List Key):zGG (zBv kvs k) ((atKey xs k).map (·.2)):=by
 induction r with
 | nil=>exact True.intro
 | @cons p q ps qs h t ih=>
  obtain⟨h1,_,h2⟩:=h
  by_cases e:p.1=k
  . have e':q.1=k:=h1.symm.trans e
    have b:atKey (q::qs) k=some q.2:=by simp[atKey,List.find?_cons,e']
    rw[zBj e,b];exact h2
  . have e':¬ q.1=k:=fun z=>e (h1.trans z)
    have b:atKey (q::qs) k=atKey qs k:=by simp[atKey,List.find?_cons,e']
    rw[zBY e,b];exact ih
theorem KT.repl (r:KT H kvs xs)(k:List Key)(ry:zBi y u) :
 KT H (kvs.map fun kv=>if kv.1=k then (kv.1,y) else kv) (xs.map (putAt k u)):=by
 induction r with
 | nil=>exact .nil
 | @cons p q ps qs h t ih=>
  rw[zAS,zAS]
  refine .cons ?_ ih
  obtain⟨h1,h2,h3⟩:=h
  unfold putAt
  by_cases e:p.1=k
  . rw[if_pos e,if_pos (h1.symm.trans e)];exact⟨h1,h2,ry⟩
  . rw[if_neg e,if_neg (fun z=>e (h1.trans z))];exact⟨h1,h2,h3⟩
variable {b:Addr}
theorem KT.put (r:KT H kvs xs)(k:List Key)(hb:H b=some (.tup (k.map kV)))(ry:zBi y u) :
 KT H (zCP kvs k y) (storedH xs k b u):=by
 have e:(kvs.any fun kv=>decide (kv.1=k))=(atKey xs k).isSome:=by
  rw[zCA,(r.val k).isSome_eq,Option.isSome_map]
 unfold zCP storedH
 rw[e]
 by_cases q:(atKey xs k).isSome=true
 . rw[if_pos q,if_pos q];exact r.repl k ry
 . rw[if_neg q,if_neg q];exact Paired.snoc r ⟨rfl,hb,ry⟩
variable {H':Hp}
theorem KT.keeps (r:KT H kvs xs)(ht:∀b ys,H b=some (.tup ys)->H' b=some (.tup ys)):KT H' kvs xs:=
 Paired.mapP r fun _ _ z=>⟨z.1,ht _ _ z.2.1,z.2.2⟩
section
variable {P:Program}{w:World}{H:Hp}{h:Heap}{a:Addr}
theorem rd_of {u:HO}(ok:HOk P w H h)(e:Rd H a u):zBs P w H h a u:=e.ok ok
theorem zF9 {kvs:List (Key×V)}(ok:HOk P w H h)(e:Rd H a (.dK kvs)):kvs.length<=sizeLine/\(a==sysModules)=false/\∃vs,KV kvs vs/\h.DictOf (zAj P w) a vs:=
 show zBs P w H h a (.dK kvs) from rd_of ok e
theorem zHE {kvs:List (Key×V)}(ok:HOk P w H h)(e:H a=some (.dK kvs)):kvs.length<=sizeLine/\(a==sysModules)=false/\∃vs,KV kvs vs/\h.DictOf (zAj P w) a vs:=zF9 ok (.inl e)
theorem zET {ks:List Key}(ok:HOk P w H h)(e:H a=some (.tup (ks.map kV))):(tupleKind (zAj P w)).is h ks a:=by
 obtain⟨_,its,r,o,h1,h2,n,h3⟩:=(show zBs P w H h a (.tup (ks.map kV)) from ok a _ e)
 exact⟨o,its.toArray,n,h1,h2,h3,by simpa using zFZ r⟩
theorem zF8 (ok:HOk P w H h)(e:Rd H a (.dT kvs)):kvs.length<=sizeLine/\(a==sysModules)=false /\
 ∃xs,KT H kvs xs/\h.DictOfH (tupleKind (zAj P w)) a xs:=by
 obtain⟨z,y,xs,r,o,es,ep,h1,h2,h3,h4,h5⟩:=(show zBs P w H h a (.dT kvs) from rd_of ok e)
 refine⟨z,y,xs,r,o,es,ep,h1,h2,h3,h4,fun x hx=>?_,h5⟩
 have all:∀{l:List (List Key×V)}{m:List (List Key×Addr×Value)},KT H l m->∀x∈m,(tupleKind (zAj P w)).is h x.1 x.2.1:=by
  intro l m q
  induction q with
  | nil=>intro x hx;exact nomatch hx
  | @cons p q ps qs hq t ih=>
   intro x hx
   rcases zm.mp hx with e | hx
   . subst e
     exact zET ok (by rw[<-hq.1];exact hq.2.1)
   . exact ih x hx
 exact all r x hx
theorem dt_of (ok:HOk P w H h)(e:H a=some (.dT kvs)):kvs.length<=sizeLine/\(a==sysModules)=false /\
 ∃xs,KT H kvs xs/\h.DictOfH (tupleKind (zAj P w)) a xs:=zF8 ok (.inl e)
end
noncomputable def zCz (H:Hp)(a:Addr)(y:V)(r:Option V):Prop:=
 (∃kvs k,Rd H a (.dK kvs)/\y=kV k/\r=zBv kvs k)\/∃kvs k b,Rd H a (.dT kvs)/\y = .ref b/\H b=some (.tup (k.map kV))/\r=zBv kvs k
noncomputable def zGr (H:Hp)(a:Addr)(y v:V)(H':Hp):Prop:=
 (∃kvs k,H a=some (.dK kvs)/\y=kV k/\kvs.length<sizeLine/\H'=upd H a (.dK (zCP kvs k v))) \/
 ∃kvs k b,H a=some (.dT kvs)/\y = .ref b/\H b=some (.tup (k.map kV))/\kvs.length<sizeLine/\H'=upd H a (.dT (zCP kvs k v))
variable {a:Addr}
theorem zCz.k {kvs:List (Key×V)}{k:Key}(e:H a=some (.dK kvs)):zCz H a (kV k) (zBv kvs k):=.inl ⟨kvs,k,.inl e,rfl,rfl⟩
theorem zCz.t {k:List Key}(e:H a=some (.dT kvs))(eb:H b=some (.tup (k.map kV))):zCz H a (.ref b) (zBv kvs k):=.inr ⟨kvs,k,b,.inl e,rfl,eb,rfl⟩
variable {v:V}
theorem zGr.k {kvs:List (Key×V)}{k:Key}(e:H a=some (.dK kvs))(hl:kvs.length<sizeLine):zGr H a (kV k) v (upd H a (.dK (zCP kvs k v))):=.inl ⟨kvs,k,e,rfl,hl,rfl⟩
theorem zGr.t {k:List Key}(e:H a=some (.dT kvs))(eb:H b=some (.tup (k.map kV)))(hl:kvs.length<sizeLine) :
 zGr H a (.ref b) v (upd H a (.dT (zCP kvs k v))):=.inr ⟨kvs,k,b,e,rfl,eb,hl,rfl⟩
variable {Q:Value->Shared->Prop}
section
variable {X:Cx}{pins:List (Addr×Obj)}{σ:St}{H:Hp}{s:Shared}{a:Addr}{y v:V}{u r:Value}{o:Option V}{A:Around}{E:Value->Shared->Prop}
theorem Inv.big (I:Inv X pins σ H s):sysModules<s.heap.objs.size:=by
 have h:mainGlobals<s.heap.objs.size:=(I.mod.glob.keeps I.bk).lt
 exact zAt (by decide) h
theorem zIl (hu:A.units+1<cLine)(I:Inv X pins σ H s)(g:zCz H a y (some v))(ry:zBi y u)(h:∀w' s',Inv X pins σ H s'->zBi v w'->Q w' s') :
 wpAny (model X.prog X.w) A (getItem (.ref a) u) Q E s:=by
 rcases g with ⟨kvs,k,e,ey,l⟩ | ⟨kvs,k,b,e,ey,eb,l⟩
 . subst ey
   obtain⟨z,hd,vs,rel,dd⟩:=zF9 I.hok e
   obtain⟨w',hw,rw'⟩:=zGG.some_of (v:=v) (o:=valueAt vs k) (by rw[l];exact rel.val k)
   exact wpAny_getItem_of (zDs ry) dd.mapOf hw (h w' _ (I.tok _) rw')
 . subst ey
   cases (show u=Value.ref b from ry)
   obtain⟨z,hd,xs,rel,dd⟩:=zF8 I.hok e
   obtain⟨w',hw,rw'⟩:=zGG.some_of (v:=v) (o:=(atKey xs k).map (·.2)) (by rw[l];exact rel.val k)
   obtain⟨p,hp,hp2⟩:=Option.map_eq_some_iff.mp hw
   refine wpAny_getItem_heap (tupleKind_room_in1 hu) (zET I.hok eb) dd hp ?_
   rw[hp2]
   exact h w' _ (I.tok _) rw'
theorem d_in (hu:A.units+1<cLine)(I:Inv X pins σ H s)(g:zCz H a y o)(ry:zBi y u)(h:∀s',Inv X pins σ H s'->Q (.bool o.isSome) s') :
 wpAny (model X.prog X.w) A (compareOp .In u (.ref a)) Q E s:=by
 rcases g with ⟨kvs,k,e,ey,l⟩ | ⟨kvs,k,b,e,ey,eb,l⟩
 . subst ey
   obtain⟨z,hd,vs,rel,dd⟩:=zF9 I.hok e
   refine wpAny_in_of (zDs ry) hd dd.mapOf ?_
   rw[<-(rel.val k).isSome_eq,<-l]
   exact h _ (I.tok _)
 . subst ey
   cases (show u=Value.ref b from ry)
   obtain⟨z,hd,xs,rel,dd⟩:=zF8 I.hok e
   refine wpAny_in_heap (tupleKind_room_in1 hu) (zET I.hok eb) hd dd ?_
   have q:=(rel.val k).isSome_eq
   rw[Option.isSome_map] at q
   rw[<-q,<-l]
   exact h _ (I.tok _)
theorem zLc (hu:A.units+1<cLine)(I:Inv X pins σ H s)(g:zCz H a y o)(ry:zBi y u)(h:∀s',Inv X pins σ H s'->Q (.bool (!o.isSome)) s') :
 wpAny (model X.prog X.w) A (compareOp .NotIn u (.ref a)) Q E s:=by
 rcases g with ⟨kvs,k,e,ey,l⟩ | ⟨kvs,k,b,e,ey,eb,l⟩
 . subst ey
   obtain⟨z,hd,vs,rel,dd⟩:=zF9 I.hok e
   refine wpAny_notIn_of (zDs ry) hd dd.mapOf ?_
   rw[<-(rel.val k).isSome_eq,<-l]
   exact h _ (I.tok _)
 . subst ey
   cases (show u=Value.ref b from ry)
   obtain⟨z,hd,xs,rel,dd⟩:=zF8 I.hok e
   refine wpAny_notIn_heap (tupleKind_room_in1 hu) (zET I.hok eb) hd dd ?_
   have q:=(rel.val k).isSome_eq
   rw[Option.isSome_map] at q
   rw[<-q,<-l]
   exact h _ (I.tok _)
theorem zD1 {h':Heap}{t':Nat}{ob:HO}(I:Inv X pins σ H s)(mu:Mut (H a))(hs:Heap.SameBut a s.heap h')(he:∃q,h'.get? a=some q)(new:zBs X.prog X.w (upd H a ob) h' a ob) :
 Inv X pins σ (upd H a ob) { s with heap:=h',toks:=t' }:=
 I.write (x:=a) (e:=a) mu (.inl rfl) (fun b q hb z=>(hs.2 b hb).trans z) he new
theorem zFk {h':Heap}{kvs:List (Key×V)}{vs:List (Key×Value)}(z:kvs.length<=sizeLine)(hd:(a==sysModules)=false)(rel:KV kvs vs)(dd:h'.DictOf (zAj P w) a vs) :
 zBs P w H' h' a (.dK kvs):=⟨z,hd,vs,rel,dd⟩
theorem zIk {Q:Unit->Shared->Prop}(hu:A.units+1<cLine)(I:Inv X pins σ H s)(g:zGr H a y v H')(ry:zBi y u)(rv:zBi v r)(h:∀s',Inv X pins σ H' s'->Q () s') :
 wpAny (model X.prog X.w) A (setItem (.ref a) u r) Q E s:=by
 rcases g with ⟨kvs,k,e,ey,l,eH⟩ | ⟨kvs,k,b,e,ey,eb,l,eH⟩
 . subst ey eH
   obtain⟨z,hd,vs,rel,dd⟩:=zHE I.hok e
   have hz:vs.length<=sizeLine:=by rw[<-rel.length];exact z
   have hl:(zCP kvs k v).length<=sizeLine:=by have:=zBG kvs k v;omega
   refine wpAny_setItem_pairs (hsz:=hz) (zDs ry) dd fun h' dd' hs=>h _ ?_
   have he:∃q,h'.get? a=some q:=let ⟨q,_,_,hq,_⟩:=dd';⟨q,hq⟩
   exact zD1 I (by rw[e];exact True.intro) hs he (zFk hl hd (rel.put k rv) dd')
 . subst ey eH
   cases (show u=Value.ref b from ry)
   obtain⟨z,hd,xs,rel,dd⟩:=dt_of I.hok e
   have hz:xs.length<=sizeLine:=by rw[<-Paired.length rel];exact z
   have hl:(zCP kvs k v).length<=sizeLine:=by have:=zBG kvs k v;omega
   refine wpAny_setItem_heap (hsz:=hz) (tupleKind_room_in1 hu) (zET I.hok eb) dd fun h' dd' hs=>h _ ?_
   obtain⟨q,es,ep,hq,h2,h3,h4,_,h5⟩:=dd'
   refine zD1 I (by rw[e];exact True.intro) hs ⟨q,hq⟩ ⟨hl,hd,_,(rel.put k eb rv).keeps fun c ys ec=>?_,q,es,ep,hq,h2,h3,h4,h5⟩
   rw[zZ (zA5 ec e (fun z=>nomatch z))]
   exact ec
end
section
variable {X:Cx}{pins:List (Addr×Obj)}{σ:St}{H:Hp}{s:Shared}{a:Addr}{kvs:List (Key×V)}{k:Key}{u:Value}{A:Around}{E:Value->Shared->Prop}
theorem d_delItem {Q:Unit->Shared->Prop}(I:Inv X pins σ H s)(e:H a=some (.dK kvs))(ry:zBi (kV k) u)(l:(zBv kvs k).isSome=true)(h:∀s',Inv X pins σ (upd H a (.dK (zCM kvs k))) s'->Q () s') :
 wpAny (model X.prog X.w) A (delItem (.ref a) u) Q E s:=by
 obtain⟨z,hd,vs,rel,dd⟩:=zHE I.hok e
 refine wpAny_delItem_slot dd.typeIs (by decide) PySem.F.slot_dict_delitem
  (call_meetsIn PySem.F.slot_dict_delitem dd.typeIs PySem.F.entry_dict_delitem (PySem.F.args_dict_delitem_2 _ _) (meets_dict_delitem_pairs (zAj X.prog X.w) a (zDs ry)) ⟨vs,dd,by rw[<-rel.length];exact z,by rw[<-(rel.val k).isSome_eq];exact l,fun h' dd' hs=>h _ ?_⟩)
 have he:∃q,h'.get? a=some q:=let ⟨q,_,_,hq,_⟩:=dd';⟨q,hq⟩
 exact zD1 I (by rw[e];exact True.intro) hs he (zFk (zy (zGl kvs k) z) hd (rel.drop k) dd')
theorem d_pop {more:List Value}(I:Inv X pins σ H s)(e:H a=some (.dK kvs))(ry:zBi (kV k) u)(l:zBv kvs k=some v)(hm:more=[]\/∃x,more=[x])
 (h:∀w' s',Inv X pins σ (upd H a (.dK (zCM kvs k))) s'->zBi v w'->Q w' s'):wpAny (model X.prog X.w) A (call (.builtin "dict.pop") (.ref a::u::more)) Q E s:=by
 obtain⟨z,hd,vs,rel,dd⟩:=zHE I.hok e
 obtain⟨w',hw,rw'⟩:=zGG.some_of (v:=v) (o:=valueAt vs k) (by rw[<-l];exact rel.val k)
 have hp:(keyPart u).isSome=true:=by
  cases k with
  | inl i=>obtain⟨t,q⟩:=(show ∃t,u=Value.int i t from ry);subst q;rfl
  | inr x=>obtain⟨t,q⟩:=(show ∃t,u=Value.str x t from ry);subst q;rfl
 have ha:argsOk "dict.pop" ⟨.ref a::u::more,[]⟩:=by
  rcases hm with q | ⟨x,q⟩
  . subst q;exact PySem.F.args_dict_pop_2 _ _
  . subst q;exact PySem.F.args_dict_pop_3 _ _ _
 refine call_meetsIn PySem.F.slot_dict_pop dd.typeIs PySem.F.entry_dict_pop ha (meets_dict_pop_there (zAj X.prog X.w) a (zDs ry) more hm hp)
  ⟨vs,w',dd,by rw[<-rel.length];exact z,hw,fun h' dd' hs=>h w' _ ?_ rw'⟩
 have he:∃q,h'.get? a=some q:=let ⟨q,_,_,hq,_⟩:=dd';⟨q,hq⟩
 exact zD1 I (by rw[e];exact True.intro) hs he (zFk (zy (zGl kvs k) z) hd (rel.drop k) dd')
end
noncomputable def NoSl (i:Expr):Prop:=∀ov iv,subscripted i false ov iv=operate [ov,iv] (getItem ov iv)
variable {s:Shared}{pos:Pos}
theorem zHW {prog:Program}{A:Around}{E:Value->Shared->Prop}{env:Env}{value slice:Expr}{T id:String}
 (hl:typeLookup (.type T) "__getitem__" = pure (some (.builtin id))) (hs:NoSl slice)
 (h:wpAny (model prog w) A (eval value env) (fun o s₁=>wpAny (model prog w) A (eval slice env) (fun i s₂=>s₂.TypeIs o T/\wpAny (model prog w) A (getItem o i) Q E s₂) E s₁) E s) :
 wpAny (model prog w) A (eval (.Subscript value slice pos) env) Q E s:=by
 refine Subscript_ (zBW h (fun o s₁ h₁=>zBW h₁ (fun i s₂ h₂=>?_) fun _ _ x=>x) fun _ _ x=>x)
 obtain⟨hT,h₂⟩:=h₂
 unfold subscriptTail
 refine zC ?_
 rw[getitemInPython_of_ne hT.not_modules]
 refine zC (wpAny_specialOf hT hl ?_)
 have fin:wpAny (model prog w) A (subscripted slice false o i) (fun r s₃=>wpAny (model prog w) A (letTemporaryGo value o r >>= fun _=>pure r) Q E s₃) E s₂:=by
  rw[hs o i]
  exact wpAny_operating (zBW h₂ (fun r s₃ h₃=>zC (wpAny_letTemporaryGo (zH h₃))) fun _ _ x=>x)
 first
  | exact zH (zC fin)
  | exact zC (zH (zC fin))
  | exact zC fin
variable {X:Cx}
theorem zGA {pins:List (Addr×Obj)}{σ:St}(I:Inv X pins σ H s)(g:zCz H a y o):s.TypeIs (.ref a) "dict" := by
 rcases g with ⟨kvs,k,e,_,_⟩ | ⟨kvs,k,b,e,_,_,_⟩
 . obtain⟨_,_,vs,_,dd⟩:=zF9 I.hok e
   exact dd.typeIs
 . obtain⟨_,_,xs,_,dd⟩:=zF8 I.hok e
   exact dd.typeIs
noncomputable def tDGet (td ty:TE):TE:=fun σ H Q=>td σ H fun x H1=>ty σ H1 fun y H2=>∃a v,x = .ref a/\zCz H2 a y (some v)/\Q v H2
noncomputable def tDIn (ty td:TE):TE:=fun σ H Q=>ty σ H fun y H1=>td σ H1 fun x H2=>∃a o,x = .ref a/\zCz H2 a y o/\Q (.bl o.isSome) H2
noncomputable def zKY (ty td:TE):TE:=fun σ H Q=>ty σ H fun y H1=>td σ H1 fun x H2=>∃a o,x = .ref a/\zCz H2 a y o/\Q (.bl (!o.isSome)) H2
noncomputable def sDPut (td ty tv:TE):TS:=fun D σ H=>tv σ H fun v H1=>td σ H1 fun x H2=>ty σ H2 fun y H3=>∃a H4,x = .ref a/\zGr H3 a y v H4/\D.nx σ H4
section
variable {X:Cx}{o i e value:Expr}{pos pos' tpos:Pos}{td ty tv:TE}
theorem zCa (hu:X.A.units+1<cLine)(ho:PE X o td)(hi:PE X i ty)(hs:NoSl i):PE X (.Subscript o i pos) (tDGet td ty):=by
 intro pins s σ H Q I h
 refine zHW PySem.F.slot_dict_getitem.lookup hs (thn (ho pins s σ H _ I h) fun u s1 ⟨x,H1,I1,rx,q1⟩=>thn (hi pins s1 σ H1 _ I1 q1) fun iv s2 ⟨y,H2,I2,ry,a,v,ex,g,q2⟩=>?_)
 subst ex
 obtain rfl:u=Value.ref a:=rx
 exact⟨zGA I2 g,zIl hu I2 g ry fun w' s3 I3 rw'=>⟨v,H2,I3,rw',q2⟩⟩
theorem zGa (hu:X.A.units+1<cLine)(hi:PE X i ty)(ho:PE X o td):PC X .In i o (tDIn ty td):=by
 intro pins s σ H Q I h
 refine thn (hi pins s σ H _ I h) fun iv s1 ⟨y,H1,I1,ry,q1⟩=>thn (ho pins s1 σ H1 _ I1 q1) fun u s2 ⟨x,H2,I2,rx,a,ov,ex,g,q2⟩=>?_
 subst ex
 obtain rfl:u=Value.ref a:=rx
 exact d_in hu I2 g ry fun s3 I3=>⟨.bl ov.isSome,H2,I3,rfl,q2⟩
theorem zH5 (hu:X.A.units+1<cLine)(hi:PE X i ty)(ho:PE X o td):PC X .NotIn i o (zKY ty td):=by
 intro pins s σ H Q I h
 refine thn (hi pins s σ H _ I h) fun iv s1 ⟨y,H1,I1,ry,q1⟩=>thn (ho pins s1 σ H1 _ I1 q1) fun u s2 ⟨x,H2,I2,rx,a,ov,ex,g,q2⟩=>?_
 subst ex
 obtain rfl:u=Value.ref a:=rx
 exact zLc hu I2 g ry fun s3 I3=>⟨.bl (!ov.isSome),H2,I3,rfl,q2⟩
theorem zCe (hu:X.A.units+1<cLine)(ho:PE X o td)(hi:PE X i ty)(hv:PE X value tv)(hs:swapsWith value (some (.Subscript o i pos')) pos.line X.env=pure false) :
 PS X (.Assign [.Subscript o i pos'] value pos) (sDPut td ty tv):=by
 intro pins s σ H D I h
 refine wpAny_Assign_Subscript (thn (hv pins s σ H _ I h) fun r s1 ⟨v,H1,I1,rv,q1⟩=>thn (ho pins s1 σ H1 _ I1 q1) fun u s2 ⟨x,H2,I2,rx,q2⟩=>thn (hi pins s2 σ H2 _ I2 q2) fun iv s3 ⟨y,H3,I3,ry,a,H4,ex,g,q3⟩=>?_) hs
 subst ex
 obtain rfl:u=Value.ref a:=rx
 exact zIk hu I3 g ry rv fun s4 I4=>⟨σ,H4,I4,q3⟩
end
theorem zJt (h:Heap)(hb:sysModules<h.objs.size):zBs P w H (h.push { cls:=.type "dict",data:=.dict #[] }) h.objs.size (.dK []):=
 ⟨zc _,beq_eq_false_iff_ne.mpr (Ne.symm (zY hb)),[],.nil,Heap.DictOf.new h⟩
theorem zJs (h:Heap)(hb:sysModules<h.objs.size):zBs P w H (h.push { cls:=.type "dict",data:=.dict #[] }) h.objs.size (.dT []):=
 ⟨zc _,beq_eq_false_iff_ne.mpr (Ne.symm (zY hb)),[],.nil,_,#[],0,zU _ rfl,⟨rfl,rfl,rfl⟩,rfl,rfl,zCC⟩
noncomputable def tDNewT:TE:=fun _ H Q=>∀p,H p=none->Q (.ref p) (upd H p (.dT []))
section
variable {X:Cx}{pos:Pos}
theorem zEq:PE X (.Dict [] [] pos) tDNewT:=fun pins s σ H Q I h=>
 wpAny_Dict_empty ⟨.ref s.heap.objs.size,_,I.laid (a:=s.heap.objs.size) (o:=.dT []) (t':=s.toks) (fun _ _ q=>zK _ q) (zL _) (zJs s.heap I.big),rfl,h _ (I.hok.fresh (zL _))⟩
end
noncomputable def zHV:List (TE×TE)->St->Hp->(List (V×V)->Hp->Prop)->Prop
 | [],_,H,Q=>Q [] H
 | (tk,tv)::r,σ,H,Q=>tk σ H fun x H1=>tv σ H1 fun y H2=>zHV r σ H2 fun ps H3=>Q ((x,y)::ps) H3
noncomputable abbrev VV:List (V×V)->List (Value×Value)->Prop:=Paired fun p q=>zBi p.1 q.1/\zBi p.2 q.2
noncomputable def PPs (X:Cx)(pos:Pos)(keys:List (Option Expr))(values:List Expr)(trs:List (TE×TE)):Prop:=
 ∀(pins:List (Addr×Obj))(s:Shared)(σ:St)(H:Hp)(Q:List (V×V)->Hp->Prop),Inv X pins σ H s->zHV trs σ H Q ->
  wpAny (model X.prog X.w) X.A (evalPairs (pairTrees keys values X.env pos)) (fun vs s'=>∃ps H',Inv X pins σ H' s'/\VV ps vs/\Q ps H') X.xe s
theorem zKz:PPs X pos [] [] []:=fun pins s σ H Q I h=>pairTrees_nil_walk ⟨[],H,I,.nil,h⟩
theorem zJU {k v:Expr}{ks:List (Option Expr)}{vs:List Expr}{tk tv:TE}{trs:List (TE×TE)}(hk:PE X k tk)(hv:PE X v tv)(hr:PPs X pos ks vs trs) :
 PPs X pos (some k::ks) (v::vs) ((tk,tv)::trs):=fun pins s σ H Q I h=>
 pairTrees_cons_walk (thn (hk pins s σ H _ I h) fun u s1 ⟨x,H1,I1,rx,q1⟩=>thn (hv pins s1 σ H1 _ I1 q1) fun w2 s2 ⟨y,H2,I2,ry,q2⟩=>
  thn (hr pins s2 σ H2 _ I2 q2) fun ws s3 ⟨ps,H3,I3,rel,q3⟩=>⟨(x,y)::ps,H3,I3,.cons ⟨rx,ry⟩ rel,q3⟩)
noncomputable def zEP (kvs more:List (Key×V)):List (Key×V):=more.foldl (fun acc kv=>zCP acc kv.1 kv.2) kvs
theorem KV.merge:∀{more:List (Key×V)}{rs:List (Key×Value)}{kvs:List (Key×V)}{vs:List (Key×Value)},KV more rs->KV kvs vs->KV (zEP kvs more) (merged vs rs):=by
 intro more rs kvs vs r
 unfold KV at r
 induction r generalizing kvs vs with
 | nil=>intro q;exact q
 | @cons p q ps qs h t ih=>
  intro r0
  have e:KV (zCP kvs p.1 p.2) (stored vs q.1 q.2):=by
   have:=r0.put p.1 h.2
   rw[<-h.1];exact this
  exact ih e
theorem zC1:∀(more kvs:List (Key×V)),(zEP kvs more).length<=kvs.length+more.length
 | [],kvs=>by show kvs.length<=kvs.length+0;omega
 | p::r,kvs=>by
  have h1:=zC1 r (zCP kvs p.1 p.2)
  have h2:=zBG kvs p.1 p.2
  show (zEP (zCP kvs p.1 p.2) r).length<=_
  rw[zAG];omega
theorem zEX {P:Program}{w:World}:∀{kvs:List (Key×V)}{ws:List (Value×Value)},VV (kvs.map fun kv=>(kV kv.1,kv.2)) ws->∃rs,Carries (zAj P w) ws rs/\KV kvs rs
 | [],_,r=>by rw[List.map_nil] at r;cases r;exact⟨[],True.intro,.nil⟩
 | p::kvs,_,r=>by
  rw[zAS] at r
  cases r with
  | @cons a b as bs h t=>
   obtain⟨rs,c,q⟩:=zEX (P:=P) (w:=w) t
   obtain⟨b1,b2⟩:=b
   exact⟨(p.1,b2)::rs,⟨zDs h.1,rfl,c⟩,.cons ⟨rfl,h.2⟩ q⟩
noncomputable def tDisp (trs:List (TE×TE)):TE:=fun σ H Q=>∀p,H p=none->zHV trs σ (upd H p (.dK [])) fun ps H2=>H2 p=some (.dK [])/\∃kvs:List (Key×V),ps=kvs.map (fun kv=>(kV kv.1,kv.2))/\kvs.length<=15/\Q (.ref p) (upd H2 p (.dK (zEP [] kvs)))
theorem zK2 {keys:List (Option Expr)}{values:List Expr}{trs:List (TE×TE)}(h:PPs X pos keys values trs)(hall:keys.all (·.isSome)=true)(hl:keys.length=values.length)(h0:keys≠[])
 (h15:keys.length<=15):PE X (.Dict keys values pos) (tDisp trs):=by
 intro pins s σ H Q I q
 have hn:=I.hok.fresh (zL s.heap.objs.size)
 have I1:=I.laid (a:=s.heap.objs.size) (o:=.dK []) (h':=s.heap.push { cls:=.type "dict",data:=.dict #[] }) (t':=s.toks) (fun _ _ q=>zK _ q) (zL _) (zJt s.heap I.big)
 refine wpAny_Dict_walk (knd:=zAj X.prog X.w) hall hl h0 h15 (thn (h pins _ σ _ _ I1 (q _ hn)) fun ws s2 ⟨ps,H2,I2,rel,e,kvs,ep,lk,q2⟩=>?_)
 subst ep
 obtain⟨rs,c,rk⟩:=zEX (P:=X.prog) (w:=X.w) rel
 obtain⟨z,hd,vs0,r0,dd⟩:=zHE I2.hok e
 cases r0
 refine⟨rs,c,dd,fun h' dd' hs=>⟨.ref s.heap.objs.size,_,?_,rfl,q2⟩⟩
 have hz:(zEP [] kvs).length<=sizeLine:=by
  have h1:=zC1 kvs []
  rw[List.length_nil] at h1
  rw[sizeLine_eq];omega
 have he:∃q,h'.get? s.heap.objs.size=some q:=let ⟨q,_,_,hq,_⟩:=dd';⟨q,hq⟩
 exact zD1 I2 (by rw[e];exact True.intro) hs he (zFk hz hd (rk.merge .nil) dd')
structure M1 (X:Cx)(o:Expr)(m:Str)(apos:Pos)(e:Expr)(cpos:Pos):Prop where
 base:attributeBase o m X.env (eval o X.env)=eval o X.env
 few:((backTo cpos (starEach [e] X.env)).all (fun x=>!x.1) && (backToKw cpos (keywordEach [] X.env)).all (fun x=>x.1.isSome)
  && decide (([e]:List Expr).length+([]:List Keyword).length+(if ([]:List Keyword).isEmpty then 0 else 1)<30))=true
 line:(apos.endLine==cpos.line)=true
 trees:backTo cpos (starEach [e] X.env)=[(false,eval e X.env)]
structure M2 (X:Cx)(o:Expr)(m:Str)(apos:Pos)(e f:Expr)(cpos:Pos):Prop where
 base:attributeBase o m X.env (eval o X.env)=eval o X.env
 few:((backTo cpos (starEach [e,f] X.env)).all (fun x=>!x.1) && (backToKw cpos (keywordEach [] X.env)).all (fun x=>x.1.isSome)
  && decide (([e,f]:List Expr).length+([]:List Keyword).length+(if ([]:List Keyword).isEmpty then 0 else 1)<30))=true
 line:(apos.endLine==cpos.line)=true
 trees:backTo cpos (starEach [e,f] X.env)=[(false,eval e X.env),(false,eval f X.env)]
noncomputable def IsD (H:Hp)(a:Addr):Prop:=(∃kvs,Rd H a (.dK kvs))\/∃kvs,Rd H a (.dT kvs)
theorem zKK {pins:List (Addr×Obj)}{σ:St}(I:Inv X pins σ H s)(d:IsD H a) :
 s.TypeIs (.ref a) "dict" /\ (∀b,Value.ref a = .ref b->∃ob,s.heap.get? b=some ob/\ob.dict=none)/\(a==sysModules)=false:=by
 rcases d with ⟨kvs,e⟩ | ⟨kvs,e⟩
 . obtain⟨_,hd,vs,_,dd⟩:=zF9 I.hok e
   refine⟨dd.typeIs,fun b q=>?_,hd⟩
   cases q
   obtain⟨ob,_,_,h1,h2,_⟩:=dd
   exact⟨ob,h1,h2.2.1⟩
 . obtain⟨_,hd,xs,_,dd⟩:=zF8 I.hok e
   refine⟨dd.typeIs,fun b q=>?_,hd⟩
   cases q
   obtain⟨ob,_,_,h1,h2,_⟩:=dd
   exact⟨ob,h1,h2.2.1⟩
section
variable {X:Cx}{pins:List (Addr×Obj)}{σ:St}{H:Hp}{s:Shared}{a:Addr}{y d:V}{u r:Value}{o:Option V}{A:Around}{E:Value->Shared->Prop}
theorem d_get2 (hu:A.units+1<cLine)(I:Inv X pins σ H s)(g:zCz H a y o)(ry:zBi y u)(rd:zBi d r)(h:∀w' s',Inv X pins σ H s'->zBi (o.getD d) w'->Q w' s') :
 wpAny (model X.prog X.w) A (call (.builtin "dict.get") [.ref a,u,r]) Q E s:=by
 rcases g with ⟨kvs,k,e,ey,l⟩ | ⟨kvs,k,b,e,ey,eb,l⟩
 . subst ey
   obtain⟨z,hd,vs,rel,dd⟩:=zF9 I.hok e
   refine call_meetsIn PySem.F.slot_dict_get dd.typeIs PySem.F.entry_dict_get (PySem.F.args_dict_get_3 _ _ _) (meets_dict_get_default (zAj X.prog X.w) a (zDs ry) hd r) ⟨_,dd.mapOf,h _ _ (I.tok _) ?_⟩
   rw[l]
   exact (rel.val k).getD rd
 . subst ey
   cases (show u=Value.ref b from ry)
   obtain⟨z,hd,xs,rel,dd⟩:=zF8 I.hok e
   refine call_meetsIn PySem.F.slot_dict_get dd.typeIs PySem.F.entry_dict_get (PySem.F.args_dict_get_3 _ _ _) (meetsH_dict_get_default (tupleKind (zAj X.prog X.w)) a b hd r) ⟨tupleKind_room_in1 hu,k,xs,zET I.hok eb,dd,h _ _ (I.tok _) ?_⟩
   rw[l]
   exact (rel.val k).getD rd
end
noncomputable def tDGet2 (td ty tx:TE):TE:=fun σ H Q=>td σ H fun x H1=>∃a,x = .ref a/\IsD H1 a/\ty σ H1 fun y H2=>tx σ H2 fun z H3=>∃o,zCz H3 a y o/\Q (o.getD z) H3
noncomputable def tDPop1 (td ty:TE):TE:=fun σ H Q=>td σ H fun x H1=>∃a,x = .ref a/\IsD H1 a/\ty σ H1 fun y H2=>∃kvs k v,H2 a=some (.dK kvs)/\y=kV k/\zBv kvs k=some v/\Q v (upd H2 a (.dK (zCM kvs k)))
section
variable {X:Cx}{o e f:Expr}{apos cpos:Pos}{td ty tx:TE}
theorem zJZ (hu:X.A.units+1<cLine)(ho:PE X o td)(he:PE X e ty)(hf:PE X f tx)(m:M2 X o "get" apos e f cpos):PE X (.Call (.Attribute o "get" apos) [e,f] [] cpos) (tDGet2 td ty tx):=by
 intro pins s σ H Q I h
 refine wpAny_Call_method m.base m.few m.line PySem.F.plainAttrs_dict PySem.F.slot_dict_get PySem.F.type_dict_get (thn (ho pins s σ H _ I h) fun u s1 ⟨x,H1,I1,rx,a,ex,d,q1⟩=>?_)
 subst ex
 obtain rfl:u=Value.ref a:=rx
 obtain⟨t1,t2,_⟩:=zKK I1 d
 refine⟨t1,t2,?_⟩
 rw[m.trees]
 refine Calls.callWith_builtin rfl (Calls.evalArgs_plain (Calls.spliced_cons (thn (he pins s1 σ H1 _ I1 q1) fun iv s2 ⟨y,H2,I2,ry,q2⟩=>
  Calls.spliced_cons (thn (hf pins s2 σ H2 _ I2 q2) fun fv s3 ⟨z,H3,I3,rz,ov,g,q3⟩=>Calls.spliced_nil ?_))))
 exact d_get2 hu I3 g ry rz fun w' s4 I4 rw'=>⟨_,H3,I4,rw',q3⟩
theorem zJY (ho:PE X o td)(he:PE X e ty)(m:M1 X o "pop" apos e cpos):PE X (.Call (.Attribute o "pop" apos) [e] [] cpos) (tDPop1 td ty):=by
 intro pins s σ H Q I h
 refine wpAny_Call_method m.base m.few m.line PySem.F.plainAttrs_dict PySem.F.slot_dict_pop PySem.F.type_dict_pop (thn (ho pins s σ H _ I h) fun u s1 ⟨x,H1,I1,rx,a,ex,d,q1⟩=>?_)
 subst ex
 obtain rfl:u=Value.ref a:=rx
 obtain⟨t1,t2,_⟩:=zKK I1 d
 refine⟨t1,t2,?_⟩
 rw[m.trees]
 refine Calls.callWith_builtin rfl (Calls.evalArgs_plain (Calls.spliced_cons (thn (he pins s1 σ H1 _ I1 q1) fun iv s2 ⟨y,H2,I2,ry,kvs,k,v,ea,ey,l,q2⟩=>Calls.spliced_nil ?_)))
 subst ey
 exact d_pop I2 ea ry l (.inl rfl) fun w' s3 I3 rw'=>⟨v,_,I3,rw',q2⟩
end
section
variable {X:Cx}{pins:List (Addr×Obj)}{σ:St}{H:Hp}{s:Shared}{a:Addr}{kvs:List (Key×V)}{A:Around}{E:Value->Shared->Prop}
end
section
variable {X:Cx}{pins:List (Addr×Obj)}{σ:St}{H:Hp}{s:Shared}{a:Addr}{y:V}{u:Value}{A:Around}{E:Value->Shared->Prop}
end
end L2
namespace HT
open PySem PyProof.Rows
noncomputable def lexLt:List Int->List Int->Bool
 | [],[]=>false
 | [],_::_=>true
 | _::_,[]=>false
 | x::xs,y::ys=>if x=y then lexLt xs ys else decide (x<y)
theorem lexLt_cons (x y:Int)(xs ys:List Int):lexLt (x::xs) (y::ys)=if x=y then lexLt xs ys else decide (x<y):=rfl
theorem zEw:lexLt [] []=false:=rfl
theorem zED (y:Int)(ys:List Int):lexLt [] (y::ys)=true:=rfl
theorem zEE (x:Int)(xs:List Int):lexLt (x::xs) []=false:=rfl
theorem zJr (A:Around)(s:Shared)(a:Int)(t:Tok)(c:Int)(u:Tok):∃e,SeqAt.EqAt A s (.int a t) (.int c u) e/\(e=true↔a=c):=
 ⟨(a==c),SeqAt.EqAt.int_int a t c u,by simp⟩
theorem zJO (A:Around)(s:Shared)(a:Int)(t:Tok)(c:Int)(u:Tok)(prog:Program)(w:World)(E:Value->Shared->Prop)(Q:Value->Shared->Prop)(h:Q (.bool (decide (a<c))) s) :
 wpAny (model prog w) A (richCompare .Lt (.int a t) (.int c u)) Q E s:=
 (PyProof.Rows.lt_int h:wpAny (model prog w) A (compareOp .Lt (.int a t) (.int c u)) Q E s)
section
open PySem.SeqAt
open PySem.AutoSeq1 (wpAny_loadPart')
open PySem.MeetsSeq PySem.MeetsSeq2 PySem.MeetsSeq3
theorem zEc (l b:Addr)(items items2:Array Value)(n n2:Nat)(dd dd2:Option Addr)(sl sl2:Array (Option Value))(ns ms:List Int)(hi:IntsAre items.toList ns)(hj:IntsAre items2.toList ms) :
 Meets (Builtin.«tuple.__lt__» ⟨[.ref l,.ref b],[]⟩)
  (fun _ R s=>s.heap.get? l=some { cls:=.type "tuple",dict:=dd,data:=.seq items n,slots:=sl }/\s.heap.get? b=some { cls:=.type "tuple",dict:=dd2,data:=.seq items2 n2,slots:=sl2 } /\
   R (.ok (.ret (.bool (lexLt ns ms)))) s):=
 .of_wp fun prog w A R s h=>by
  obtain⟨hp,g,d,tk,os⟩:=s;obtain⟨hl,hb,h⟩:=h
  have f2:=AutoSeq1.sub_tuple_tuple
  have z1:items.size=ns.length:=by rw[<-hi.length];simp
  have z2:items2.size=ms.length:=by rw[<-hj.length];simp
  wp_walk using wpAny_loadPart' hl,wpAny_loadPart' hb,wpAny_forIn_list _ (fun rest b s'=>b.1=none/\s'=⟨hp,g,d,tk,os⟩/\∃(vs ws:List Value)(ns' ms':List Int),rest=vs.zip ws /\
   IntsAre vs ns'/\IntsAre ws ms'/\ns'.length+items2.size=ms'.length+items.size/\R (.ok (.ret (.bool (lexLt ns' ms')))) ⟨hp,g,d,tk,os⟩) _
  case turn=>
   rintro ⟨y,x⟩ rest b s' ⟨hb',rfl,vs,ws,ns',ms',hz,hvi,hwi,hlen,hR⟩
   cases hvi with
   | nil=>rw[List.zip_nil_left] at hz;cases hz
   | cons a t hvi'=>
    cases hwi with
    | nil=>rw[List.zip_nil_right] at hz;cases hz
    | cons c u hwi'=>
     rw[List.zip_cons_cons] at hz
     injection hz with hyx hrest
     injection hyx with hy hx
     subst hy hx
     rw[lexLt_cons] at hR
     simp only[zAG] at hlen
     obtain⟨e,he,hiff⟩:=zJr A.in1 ⟨hp,g,d,tk,os⟩ a t c u
     refine zC (he prog w _ _ ?_)
     cases e with
     | true=>
      rw[if_pos (hiff.mp rfl)] at hR
      wp_walk
      exact⟨rfl,rfl,_,_,_,_,hrest,hvi',hwi',by omega,hR⟩
     | false=>
      rw[if_neg (fun q=>absurd (hiff.mpr q) zg)] at hR
      have hri:=zJO A.in1 ⟨hp,g,d,tk,os⟩ a t c u prog w
      wp_walk using hri
      exact⟨_,rfl,by simpa using hR⟩
  case fin=>
   rintro ⟨b1,b2⟩ s' ⟨hb',rfl,vs,ws,ns',ms',hz,hvi,hwi,hlen,hR⟩
   simp only at hb'
   subst hb'
   have hv:lexLt ns' ms'=decide (items.size<items2.size):=by
    cases hvi with
    | nil=>
     cases hwi with
     | nil=>
      simp only[List.length_nil] at hlen
      rw[zEw]
      exact (ze (by omega)).symm
     | cons c u hw=>
      simp only[List.length_nil,zAG] at hlen
      rw[zED]
      exact (zV (by omega)).symm
    | cons a t hv=>
     cases hwi with
     | nil=>
      simp only[List.length_nil,zAG] at hlen
      rw[zEE]
      exact (ze (by omega)).symm
     | cons c u hw=>
      rw[List.zip_cons_cons] at hz
      cases hz
   rw[hv] at hR
   wp_walk
   exact⟨_,rfl,by simpa [Builtin.Tuple.tupleCompareSizes] using hR⟩
  case h=>
   exact⟨rfl,rfl,items.toList,items2.toList,ns,ms,rfl,hi,hj,by omega,h⟩
end
section
variable {prog:Program}{w:World}{A:Around}{E:Value->Shared->Prop}{s:Shared}
theorem lt_tupInts {l b:Addr}{items items2:Array Value}{ns ms:List Int}{Q:Value->Shared->Prop}(hl:IsTup s.heap l items)(hb:IsTup s.heap b items2)(hi:IntsAre items.toList ns)(hj:IntsAre items2.toList ms)
 (hu:A.units<cLine)(h:Q (.bool (lexLt ns ms)) s):wpAny (model prog w) A (compareOp .Lt (.ref l) (.ref b)) Q E s:=by
 obtain⟨⟨cls,dd,data,sl⟩,ho,hc,n,hd⟩:=id hl
 obtain⟨⟨cls2,dd2,data2,sl2⟩,ho2,hc2,n2,hd2⟩:=id hb
 simp only at hc hd hc2 hd2
 subst hc hd hc2 hd2
 exact richCompare_meets_room (op:=.Lt) ⟨_,ho,rfl⟩ ⟨_,ho2,rfl⟩ PySem.F.slot_tuple_lt PySem.F.entry_tuple_lt (PySem.F.args_tuple_lt_2 _ _) (zEc l b items items2 n n2 dd dd2 sl sl2 ns ms hi hj)
  ⟨ho,ho2,show Value.bool (lexLt ns ms)≠Value.notImplemented/\Q (.bool (lexLt ns ms)) s from ⟨(fun x=>nomatch x),h⟩⟩ hu
theorem cat_tup {t b:Addr}{vs ws:List Value}{Q:Value->Shared->Prop}(ht:IsTup s.heap t vs.toArray)(hb:IsTup s.heap b ws.toArray)(hv:vs≠[])
 (h1:ws=[]->Q (.ref t) s)(h2:ws≠[]->Q (.ref s.heap.objs.size) { s with heap:=s.heap.push { cls:=.type "tuple",data:=.seq (vs++ws).toArray } })
 (hsz:vs.length+ws.length<=sizeLine):wpAny (model prog w) A (binaryOp .Add (.ref t) (.ref b)) Q E s:=by
 obtain⟨⟨cls,dd,data,sl⟩,ho,hc,n,hd⟩:=id ht
 obtain⟨⟨cls2,dd2,data2,sl2⟩,ho2,hc2,n2,hd2⟩:=id hb
 simp only at hc hd hc2 hd2
 subst hc hd hc2 hd2
 have e:vs.toArray++ws.toArray=(vs++ws).toArray:=by simp
 by_cases hw:ws=[]
 . exact concat_meets ⟨_,ho,rfl⟩ ⟨_,ho2,rfl⟩ noFill_tuple_add seq_tuple_add PySem.F.slot_tuple_add PySem.F.entry_tuple_add (PySem.F.args_tuple_add_2 _ _)
    (tuple_addW1 t b vs.toArray ws.toArray n n2 dd dd2 sl sl2 (by simpa using hv) (by simp[hw])) ⟨ho,ho2,h1 hw⟩
 . refine concat_meets ⟨_,ho,rfl⟩ ⟨_,ho2,rfl⟩ noFill_tuple_add seq_tuple_add PySem.F.slot_tuple_add PySem.F.entry_tuple_add (PySem.F.args_tuple_add_2 _ _)
    (tuple_addW2 t b vs.toArray ws.toArray n n2 dd dd2 sl sl2 (by simpa using hv) (by simpa using hw) (by rw[zP,zP];exact hsz)) ⟨ho,ho2,?_⟩
   rw[e]
   exact h2 hw
noncomputable def sIx (n d:Nat):Option Int->Nat
 | none=>d
 | some v=>if v<0 then (v+(n:Int)).toNat else min v.toNat n
theorem sIx_none (n d:Nat):sIx n d none=d:=rfl
theorem sIx_nat (n d k:Nat):sIx n d (some (k:Int))=min k n:=by
 show (if (k:Int)<0 then ((k:Int)+(n:Int)).toNat else min (k:Int).toNat n)=min k n
 rw[if_neg (by omega),zBH]
theorem sIx_le (n d:Nat)(hd:d<=n)(o:Option Int):sIx n d o<=n:=by
 cases o with
 | none=>exact hd
 | some v=>
  show (if v<0 then (v+(n:Int)).toNat else min v.toNat n)<=n
  by_cases hv:v<0
  . rw[if_pos hv];omega
  . rw[if_neg hv];exact Nat.min_le_right _ _
theorem zIp (v:Int)(n d:Nat):(if v<0 then max (v+(n:Int)) 0 else min v (n:Int))=((sIx n d (some v):Nat):Int):=by
 show (if v<0 then max (v+(n:Int)) 0 else min v (n:Int))=(((if v<0 then (v+(n:Int)).toNat else min v.toNat n):Nat):Int)
 by_cases hv:v<0
 . simp only[if_pos hv];omega
 . simp only[if_neg hv];omega
theorem zHH (lo hi:Option Int) (n:Nat):Builtin.Slice.sliceAdjust lo hi 1 (n:Int)=(((sIx n 0 lo:Nat):Int),((sIx n n hi:Nat):Int)):=by
 have h1:¬ ((1:Int)<0):=by omega
 unfold Builtin.Slice.sliceAdjust
 simp only[h1,if_false]
 refine Prod.ext ?_ ?_
 . cases lo with
   | none=>rfl
   | some v=>exact zIp v n 0
 . cases hi with
   | none=>rfl
   | some v=>exact zIp v n n
theorem zG3 (i j:Nat):Builtin.Slice.slicePlaces (i:Int) (j:Int) 1=j-i:=by
 unfold Builtin.Slice.slicePlaces
 have h1:(1:Int) > 0:=by omega
 simp only[h1,if_true,Int.ediv_one]
 split <;> omega
theorem zEJ {v:Value} {o:Option Int} {Q:Option Int->Shared->Prop} (p:IsPart v o) (h:Q o s):wpAny (model prog w) A (Builtin.Slice.slicePartIndex v) Q E s:=by
 cases p with
 | none=>exact slicePart_none h
 | int i t=>exact slicePart_int h
theorem zCd {sl:Addr}{vl vu:Value}{lo hi:Option Int}{n:Nat}{Q:Int×Int×Nat->Shared->Prop}(hs:s.heap.IsSliceOf sl vl vu .none)(pl:IsPart vl lo)(pu:IsPart vu hi)
 (h:Q (((sIx n 0 lo:Nat):Int),1,sIx n n hi-sIx n 0 lo) s):wpAny (model prog w) A (Builtin.Slice.sliceApplied (.ref sl) (pure (n:Int))) Q E s:=by
 obtain⟨os,hos,hcs,hds⟩:=id hs
 unfold Builtin.Slice.sliceApplied Builtin.Slice.sliceFields
 refine zC (zC (zA8 hos hds (x:=vl) rfl (zC (zA8 hos hds (x:=vu) rfl (zC (zA8 hos hds (x:=.none) rfl (zH ?_)))))))
 refine zC (slicePart_none ?_)
 show wpAny _ _ (if ((1:Int)==0)=true then _ else _) _ _ s
 rw[if_neg (by decide)]
 refine zC (zEJ pl (zC (zEJ pu (zC (zH ?_)))))
 show wpAny _ _ (match Builtin.Slice.sliceAdjust lo hi 1 (n:Int) with | (lo,hi)=>pure (lo,(1:Int),Builtin.Slice.slicePlaces lo hi 1)) _ _ s
 rw[zHH lo hi n]
 show wpAny _ _ (pure (((sIx n 0 lo:Nat):Int),(1:Int),Builtin.Slice.slicePlaces ((sIx n 0 lo:Nat):Int) ((sIx n n hi:Nat):Int) 1)) _ _ s
 rw[zG3]
 exact zH h
theorem zJV (xs:Array Value)(i k:Nat):((List.range k).filterMap fun (m:Nat)=>xs[((i:Int)+(m:Int)*1).toNat]?).toArray=((xs.toList.drop i).take k).toArray:=by
 have e:(fun (m:Nat)=>xs[((i:Int)+(m:Int)*1).toNat]?)=fun m=>xs[i+m]?:=by
  funext m
  have:((i:Int)+(m:Int)*1).toNat=i+m:=by omega
  rw[this]
 rw[e]
 have:=pick_run xs i k
 rw[List.filterMap_map] at this
 have e2:((fun x=>xs[x]?)∘fun x=>i+x)=fun m=>xs[i+m]?:=rfl
 rw[e2] at this
 rw[this]
theorem getItem_tuple_cut {t sl:Addr}{items:Array Value}{vl vu:Value}{lo hi:Option Int}{Q:Value->Shared->Prop}(ht:IsTup s.heap t items)(hs:s.heap.IsSliceOf sl vl vu .none)(pl:IsPart vl lo)(pu:IsPart vu hi)
 (hw:¬ (sIx items.size 0 lo=0/\sIx items.size items.size hi=items.size))
 (h:Q (.ref s.heap.objs.size) { s with heap:=s.heap.push { cls:=.type "tuple",data:=.seq ((items.toList.drop (sIx items.size 0 lo)).take (sIx items.size items.size hi-sIx items.size 0 lo)).toArray } })
 (hsz:items.size<=sizeLine):wpAny (model prog w) A (getItem (.ref t) (.ref sl)) Q E s:=by
 have htake:sizeOk (.seq ((items.toList.drop (sIx items.size 0 lo)).take (sIx items.size items.size hi-sIx items.size 0 lo)).toArray):=by
  show ((items.toList.drop (sIx items.size 0 lo)).take (sIx items.size items.size hi-sIx items.size 0 lo)).toArray.size<=sizeLine
  rw[zP,zw,List.length_drop,Array.length_toList]
  omega
 have hj:sIx items.size items.size hi<=items.size:=sIx_le _ _ (zL _) hi
 obtain⟨os,hos,hcs,hds⟩:=id hs
 have hTs:s.TypeIs (.ref sl) "slice" := ⟨os,hos,hcs⟩
 unfold getItem
 try with_reducible refine zAY ?_
 first | refine zC (zH ?_) | skip
 refine zC (wpAny_sequenceKey ht.typeIs (by decide) ?_)
 refine zC (zAk (name:=Str.ofString "__getitem__") ht.typeIs PyProof.Rows.slot_tuple_getitem
  (zAx PyProof.Rows.slot_tuple_getitem ht.typeIs entry_tuple_getitem ?_ (args_tuple_getitem _ _)))
 show wpAny _ _ (Builtin.Tuple.tupleItemsOf (.ref t) >>= _) _ _ s
 refine zC (tupleItemsOf_ ht ?_)
 refine zC (zBo hTs ?_)
 rw[if_pos (by decide)]
 refine zC (zCd hs pl pu ?_)
 have hno:¬ ((((sIx items.size 0 lo:Nat):Int)==0 && (1:Int)==1 && (sIx items.size items.size hi-sIx items.size 0 lo)==items.size)=true):=by
  intro q
  rw[Bool.and_eq_true,Bool.and_eq_true] at q
  have q1:((sIx items.size 0 lo:Nat):Int)=0:=eq_of_beq q.1.1
  have q2:sIx items.size items.size hi-sIx items.size 0 lo=items.size:=eq_of_beq q.2
  exact hw ⟨by omega,by omega⟩
 show wpAny _ _ (if (((sIx items.size 0 lo:Nat):Int)==0 && (1:Int)==1 && (sIx items.size items.size hi-sIx items.size 0 lo)==items.size)=true then _ else _) _ _ s
 rw[if_neg hno,zJV]
 first
  | exact zC (m:=Builtin.Tuple.tupleExact _) (zAz (zH ⟨_,rfl,zH h⟩) htake)
  | exact zC (m:=Builtin.Tuple.tupleExact _) (zAz (zC (zH (zH ⟨_,rfl,zH h⟩))) htake)
  | exact zC (zC (m:=Builtin.Tuple.tupleExact _) (zAz (zH (zH ⟨_,rfl,zH h⟩)) htake))
  | exact zC (zC (m:=Builtin.Tuple.tupleExact _) (zAz (zH ⟨_,rfl,zH h⟩) htake))
end
end HT
namespace L2
open PySem PySem.Spec PyProof.Rows
noncomputable abbrev TO:=St->Hp->(Option Int->Hp->Prop)->Prop
noncomputable def PO (X:Cx)(e:Option Expr)(t:TO):Prop:=
 ∀(pins:List (Addr×Obj))(s:Shared)(σ:St)(H:Hp)(Q:Option Int->Hp->Prop),Inv X pins σ H s->t σ H Q ->
  wpAny (model X.prog X.w) X.A (evalPart e X.env) (fun u s'=>∃o H',Inv X pins σ H' s'/\IsPart u o/\Q o H') X.xe s
noncomputable def zKV:TO:=fun _ H Q=>Q none H
noncomputable def tPart (t:TE):TO:=fun σ H Q=>t σ H fun x H1=>∃i,x = .int i/\Q (some i) H1
theorem zCF {ns:List Int}:∀{us:List Value},zBR (ns.map V.int) us->IntsAre us ns:=by
 induction ns with
 | nil=>intro us r;rw[List.map_nil] at r;cases r;exact .nil
 | cons n ns ih=>
  intro us r
  rw[zAS] at r
  cases r with
  | cons r1 r2=>
   obtain⟨t,e⟩:=r1
   subst e
   exact .cons n t (ih r2)
section
variable {X:Cx}{e:Expr}{te:TE}{lo hi:Option Expr}{tl th:TO}{pos p2:Pos}
theorem zEn:PO X none zKV:=by
 intro pins s σ H Q I h
 rw[evalPart_none]
 exact zH ⟨none,H,I,.none,h⟩
theorem zEm (h:PE X e te):PO X (some e) (tPart te):=by
 intro pins s σ H Q I hw
 rw[evalPart_some]
 refine thn (h pins s σ H _ I hw) fun u s1 ⟨x,H1,I1,r1,q1⟩=>?_
 obtain⟨i,rfl,q⟩:=q1
 obtain⟨t,rfl⟩:=r1
 exact⟨some i,H1,I1,.int i t,q⟩
noncomputable def SlR (X:Cx)(r:V->Option Int->Option Int->Hp->VK->Prop):Prop:=
 ∀(pins:List (Addr×Obj))(s:Shared)(σ:St)(H:Hp)(x:V)(v vl vu:Value)(lo hi:Option Int)(sl:Addr)(Q:VK),Inv X pins σ H s->zBi x v->s.heap.IsSliceOf sl vl vu .none->IsPart vl lo->IsPart vu hi->r x lo hi H Q ->
  ∃T id,typeLookup (.type T) "__getitem__" = pure (some (.builtin id))/\s.TypeIs v T/\wpAny (model X.prog X.w) X.A (getItem v (.ref sl)) (EP X pins σ Q) X.xe s
noncomputable def tSl (r:V->Option Int->Option Int->Hp->VK->Prop)(te:TE)(tl th:TO):TE:=fun σ H Q=>te σ H fun x H1=>tl σ H1 fun l H2=>th σ H2 fun u H3=>r x l u H3 Q
theorem zDT {r:V->Option Int->Option Int->Hp->VK->Prop}(hr:SlR X r)(he:PE X e te)(hl:PO X lo tl)(hu:PO X hi th):PE X (.Subscript e (.Slice lo hi none p2) pos) (tSl r te tl th):=by
 intro pins s σ H Q I h
 refine Subscript_ (thn (he pins s σ H _ I h) fun v s1 ⟨x,H1,I1,r1,q1⟩=>?_)
 refine wpAny_Slice (thn (hl pins s1 σ H1 _ I1 q1) fun vl s2 ⟨l,H2,I2,pl,q2⟩=>thn (hu pins s2 σ H2 _ I2 q2) fun vu s3 ⟨u,H3,I3,pu,q3⟩=>?_)
 rw[evalPart_none]
 refine zH ?_
 have I4:Inv X pins σ H3 { s3 with heap:=s3.heap.push { cls:=.type "slice",data:=.fields #[vl,vu,.none] } }:=I3.kept (t':=s3.toks) fun b ob q=>zK _ q
 obtain⟨T,id,hT,ht,hg⟩:=hr pins { s3 with heap:=s3.heap.push { cls:=.type "slice",data:=.fields #[vl,vu,.none] } } σ H3 x v vl vu l u s3.heap.objs.size Q I4 r1 (Heap.IsSliceOf.new ..) pl pu q3
 show wpAny (model X.prog X.w) X.A (subscriptTail e (.Slice lo hi none p2) v (.ref s3.heap.objs.size)) (EP X pins σ Q) X.xe { s3 with heap:=s3.heap.push { cls:=.type "slice",data:=.fields #[vl,vu,.none] } }
 exact tail_any (ops:=[.ref s3.heap.objs.size,v]) ht hT hg (by with_unfolding_all rfl)
noncomputable def zE5 (xs:List V)(lo hi:Option Int):List V:=(xs.drop (HT.sIx xs.length 0 lo)).take (HT.sIx xs.length xs.length hi-HT.sIx xs.length 0 lo)
theorem zD2 (xs:List V)(lo hi:Option Int):(zE5 xs lo hi).length<=xs.length:=by
 unfold zE5
 rw[zw,List.length_drop]
 omega
noncomputable def rSlT (K:PySem.W.Frag):V->Option Int->Option Int->Hp->VK->Prop:=fun x lo hi H Q=>∃a xs,x = .ref a/\SqT K H a xs /\
 ¬ (HT.sIx xs.length 0 lo=0/\HT.sIx xs.length xs.length hi=xs.length)/\∀p,H p=none->Q (.ref p) (upd H p (.tup (zE5 xs lo hi)))
theorem sl_tup:SlR X (rSlT X.K):=by
 intro pins s σ H x v vl vu lo hi sl Q I rx hs pl pu h
 obtain⟨a,xs,rfl,hx,hw,q⟩:=h
 cases rx
 obtain⟨its,r,ht,hz⟩:=I.tuple hx
 have hlen:its.toArray.size=xs.length:=by rw[zP];exact r.length.symm
 refine⟨"tuple",_,PyProof.Rows.slot_tuple_getitem.lookup,ht.typeIs,?_⟩
 refine HT.getItem_tuple_cut ht hs pl pu (by rw[hlen];exact hw) ?_ (by rw[hlen];exact hz)
 rw[hlen]
 refine⟨.ref s.heap.objs.size,_,I.laid (t':=s.toks) (o:=.tup (zE5 xs lo hi)) (fun b ob q=>zK _ q) (zL _) ?_,rfl,q _ (I.hok.fresh (zL _))⟩
 exact⟨⟨zy (zD2 xs lo hi) hz,_,zU _ rfl,rfl⟩,_,(r.drop (HT.sIx xs.length 0 lo)).take (HT.sIx xs.length xs.length hi-HT.sIx xs.length 0 lo),IsTup.new _ _⟩
noncomputable def rCatT (K:PySem.W.Frag):R2:=fun x y H Q=>∃a b xs ys,x = .ref a/\y = .ref b/\SqT K H a xs/\SqT K H b ys/\xs≠[]/\xs.length+ys.length<=sizeLine /\
 (ys=[]->Q (.ref a) H)/\(ys≠[]->∀p,H p=none->Q (.ref p) (upd H p (.tup (xs++ys))))
theorem zBR.nil_iff {xs:List V}{us:List Value}(r:zBR xs us):us=[]↔xs=[]:=by
 cases r with
 | nil=>simp
 | cons _ _=>simp
theorem zK6:OpR X (binaryOp .Add) (rCatT X.K):=by
 intro pins s σ H x y v u Q I rx ry h
 obtain⟨a,b,xs,ys,rfl,rfl,ha,hb,hx,hz,q1,q2⟩:=h
 cases rx
 cases ry
 obtain⟨its,r1,p1,_⟩:=I.tuple ha
 obtain⟨its2,r2,p2,_⟩:=I.tuple hb
 refine HT.cat_tup p1 p2 (fun z=>hx (r1.nil_iff.mp z)) (fun z=>⟨.ref a,H,I,rfl,q1 (r2.nil_iff.mp z)⟩) (fun z=>?_) (by rw[<-r1.length,<-r2.length];exact hz)
 refine⟨.ref s.heap.objs.size,_,I.laid (t':=s.toks) (o:=.tup (xs++ys)) (fun b ob q=>zK _ q) (zL _) ?_,rfl,q2 (fun w=>z (r2.nil_iff.mpr w)) _ (I.hok.fresh (zL _))⟩
 exact⟨⟨by rw[zI];exact hz,_,zU _ rfl,rfl⟩,_,r1.append r2,IsTup.new _ _⟩
end
end L2
namespace L2
open PySem PySem.Spec PyProof.Rows
noncomputable def ixN (n:Nat)(i:Int):Option Nat:=if 0<=i then (if i<n then some i.toNat else none) else if -(n:Int)<=i then some (i+n).toNat else none
noncomputable def atI {α:Type}(xs:List α)(i:Int):Option α:=(ixN xs.length i).bind fun j=>xs[j]?
theorem zIQ {n:Nat}{i:Int}{j:Nat}(h:ixN n i=some j):seqIndex? i n=some j/\j<n /\ -(n:Int)<=i/\i<n:=by
 unfold ixN at h
 by_cases h0:0<=i
 . rw[if_pos h0] at h
   by_cases h1:i<n
   . rw[if_pos h1] at h
     have e:i.toNat=j:=zR h
     exact⟨by rw[seqIndex_of h0 h1,e],by omega,by omega,h1⟩
   . rw[if_neg h1] at h;cases h
 . rw[if_neg h0] at h
   by_cases h1 : -(n:Int)<=i
   . rw[if_pos h1] at h
     have e:(i+n).toNat=j:=zR h
     exact⟨by rw[seqIndex_neg (by omega) h1,e],by omega,h1,by omega⟩
   . rw[if_neg h1] at h;cases h
theorem zIv {α:Type}{xs:List α}{i:Int}{v:α}(h:atI xs i=some v):∃j,seqIndex? i xs.length=some j/\xs[j]? = some v/\j<xs.length /\ -(xs.length:Int)<=i/\i<xs.length:=by
 unfold atI at h
 cases e:ixN xs.length i with
 | none=>rw[e] at h;cases h
 | some j=>
  rw[e] at h
  obtain⟨h1,h2,h3,h4⟩:=zIQ e
  exact⟨j,h1,h,h2,h3,h4⟩
theorem zCw {α:Type}{xs:List α}{j:Nat}{v:α}(h:xs[j]? = some v):atI xs (j:Int)=some v:=by
 have hj:j<xs.length:=(zE.mp h).1
 have e:ixN xs.length (j:Int)=some j:=by
  unfold ixN
  rw[if_pos (by omega),if_pos (by omega)];simp
 unfold atI;rw[e];exact h
noncomputable def zLh (b:Expr):Prop:=∀o i,subscripted b false o i=operate [o,i] (getItem o i)
noncomputable def IxR (X:Cx)(r:R2):Prop:=
 ∀(value slice:Expr)(pins:List (Addr×Obj))(s:Shared)(σ:St)(H:Hp)(x y:V)(v u:Value)(Q:VK),Inv X pins σ H s->zBi x v->zBi y u->r x y H Q ->
  subscripted slice false v u=operate [v,u] (getItem v u)->wpAny (model X.prog X.w) X.A (subscriptTail value slice v u) (EP X pins σ Q) X.xe s
noncomputable def MtR (X:Cx)(id:String)(r:V->List V->Hp->VK->Prop):Prop:=
 ∀(pins:List (Addr×Obj))(s:Shared)(σ:St)(H:Hp)(x:V)(xs:List V)(v:Value)(us:List Value)(Q:VK),Inv X pins σ H s->zBi x v->zBR xs us->r x xs H Q ->
  wpAny (model X.prog X.w) X.A (call (.builtin id) (v::us)) (EP X pins σ Q) X.xe s
variable {pins:List (Addr×Obj)}{σ:St}{H:Hp}{s:Shared}
section
variable {X:Cx}{a b:Expr}{ta tb:TE}{pos:Pos}
theorem zAH {r:R2}(hr:IxR X r)(ha:PE X a ta)(hb:PE X b tb)(hs:zLh b):PE X (.Subscript a b pos) (tOp r ta tb):=by
 intro pins s σ H Q I h
 exact Subscript_ (binT ha hb I h fun v u s2 x y H2 I2 rx ry q=>hr a b pins s2 σ H2 x y v u Q I2 rx ry q (hs _ _))
noncomputable def rIxL (K:PySem.W.Frag):R2:=fun x y H Q=>∃p xs i v,x = .ref p/\y = .int i/\SqL K H p xs/\atI xs i=some v/\Q v H
noncomputable def rIxT (K:PySem.W.Frag):R2:=fun x y H Q=>∃p xs i v,x = .ref p/\y = .int i/\SqT K H p xs/\atI xs i=some v/\Q v H
theorem zAO:IxR X (rIxL X.K):=by
 intro value slice pins s σ H x y v u Q I rx ry h hs
 obtain⟨p,xs,i,z,rfl,rfl,hq,he,q⟩:=h
 cases rx
 obtain⟨t,rfl⟩:=ry
 obtain⟨its,r,pl,hz⟩:=I.list hq
 obtain⟨j,h1,h2,h3,h4,h5⟩:=zIv he
 obtain⟨w,ew,rw'⟩:=r.get h2
 have hl:=r.length
 have hn:=zFW
 have fin:EP X pins σ Q w s:=⟨z,H,I,rw',q⟩
 by_cases h0:0<=i
 . have hj:i.toNat=j:=by
    rw[seqIndex_of h0 h5] at h1
    exact zR h1
   exact item_listR pl.isList h0 (by omega) (by rw[hj];simpa using ew) fin hs
 . have hj:(i+(its.toArray.size:Int)).toNat=j:=by
    rw[seqIndex_neg (by omega) h4] at h1
    rw[zP,<-hl]
    exact zR h1
   exact subscriptTail_builtinR (x:=w) pl.isList.typeIs slot_list_getitem.lookup
    (wpAny_getItem_list_neg (Q:=fun r s'=>r=w/\EP X pins σ Q r s') pl.isList (by omega) (by rw[zP] <;> omega) (by omega) (by rw[hj];simpa using ew) ⟨rfl,fin⟩) hs
theorem zAr:IxR X (rIxT X.K):=by
 intro value slice pins s σ H x y v u Q I rx ry h hs
 obtain⟨p,xs,i,z,rfl,rfl,hq,he,q⟩:=h
 cases rx
 obtain⟨t,rfl⟩:=ry
 obtain⟨its,r,pl,hz⟩:=I.tuple hq
 obtain⟨j,h1,h2,h3,h4,h5⟩:=zIv he
 obtain⟨w,ew,rw'⟩:=r.get h2
 have hl:=r.length
 have hn:=zFW
 have fin:EP X pins σ Q w s:=⟨z,H,I,rw',q⟩
 exact subscriptTail_builtinR (x:=w) pl.typeIs slot_tuple_getitem.lookup
  (getItem_tuple (j:=j) (Q:=fun r s'=>r=w/\EP X pins σ Q r s') pl (by omega) (by omega) (by rw[zP,<-hl];exact h1) (by simpa using ew) ⟨rfl,fin⟩) hs
theorem zG7 (its:List Value)(n j:Nat)(u:Value):Obj.mapSeq (·.setIfInBounds j u) { cls:=.type "list",data:=.seq its.toArray n }={ cls:=.type "list",data:=.seq (its.set j u).toArray n }:=by
 simp[Obj.mapSeq]
theorem Inv.lst {p:Addr}{xs:List V}(I:Inv X pins σ H s)(h:H p=some (.lst xs)) :
 ∃(its:List Value)(n:Nat),zBR xs its/\s.heap.get? p=some { cls:=.type "list",data:=.seq its.toArray n }/\xs.length<=sizeLine:=by
 obtain⟨z,its,n,r,e⟩:=I.hok p _ h
 exact⟨its,n,r,e,z⟩
theorem Inv.lstUpd {p:Addr}{xs ys:List V}{its its':List Value}{n n':Nat}{f:Obj->Obj}(I:Inv X pins σ H s)(h:H p=some (.lst xs))
 (ho:s.heap.get? p=some { cls:=.type "list",data:=.seq its.toArray n }) (hf:f { cls:=.type "list",data:=.seq its.toArray n }={ cls:=.type "list",data:=.seq its'.toArray n' }) (r:zBR ys its')(hz:ys.length<=sizeLine)(t:Nat) :
 Inv X pins σ (upd H p (.lst ys)) { s with heap:=s.heap.update p f,toks:=t }:=by
 have e:(s.heap.update p f).get? p=some { cls:=.type "list",data:=.seq its'.toArray n' }:=by
  rw[Heap.get?_update_self f ho (by rw[hf] <;> rfl),hf]
 refine I.write (x:=p) (e:=p) (by rw[h];trivial) (.inl rfl) (fun b u hb q=>(Heap.get?_update_other _ _ (Ne.symm hb)).trans q) ⟨_,e⟩ ?_
 exact⟨hz,its',n',r,e⟩
noncomputable def rSetL:V->V->V->Hp->(Hp->Prop)->Prop:=fun o i v H Q=>∃p xs k j,o = .ref p/\i = .int k/\H p=some (.lst xs)/\ixN xs.length k=some j/\Q (upd H p (.lst (xs.set j v)))
theorem zCX:PSet X rSetL:=by
 intro pins s σ H o i v ov iv u Q I ro ri rv h
 obtain⟨p,xs,k,j,rfl,rfl,hp,hj,q⟩:=h
 cases ro
 obtain⟨t,rfl⟩:=ri
 obtain⟨its,n,r,ho,hz⟩:=I.lst hp
 obtain⟨h1,h2,h3,h4⟩:=zIQ hj
 have hl:=r.length
 have hn:=zFW
 have I':Inv X pins σ (upd H p (.lst (xs.set j v))) { s with heap:=s.heap.update p (Obj.mapSeq (·.setIfInBounds j u)) }:=
  I.lstUpd hp ho (zG7 its n j u) (r.set rv j) (by rw[zAg];exact hz) s.toks
 by_cases h0:0<=k
 . have hk:k.toNat=j:=by
    rw[seqIndex_of h0 h4] at h1
    exact zR h1
   exact PySem.W.ki_setAt ho h0 (by omega) (by rw[zP,<-hl];exact h4) (by rw[hk];exact⟨_,I',q⟩)
 . have hk:(k+(its.toArray.size:Int)).toNat=j:=by
    rw[seqIndex_neg (by omega) h3] at h1
    rw[zP,<-hl]
    exact zR h1
   exact PySem.W.ki_setBack ho (by omega) (by rw[zP,<-hl];exact h3) (by omega) (by rw[hk];exact⟨_,I',q⟩)
theorem zFF (lo hi:Option Int)(n:Nat):(sliceBounds lo hi none n).1=((HT.sIx n 0 lo:Nat):Int)/\(sliceBounds lo hi none n).2.1=((HT.sIx n n hi:Nat):Int)/\(sliceBounds lo hi none n).2.2=1:=by
 refine⟨?_,?_,rfl⟩
 . cases lo with
   | none=>simp[sliceBounds,HT.sIx]
   | some i=>
    simp only[sliceBounds,HT.sIx,Option.getD_none,show (1:Int) > 0 by decide,if_true]
    by_cases h:i<0
    . simp only[h,if_true] <;> omega
    . simp only[h,if_false] <;> omega
 . cases hi with
   | none=>simp[sliceBounds,HT.sIx]
   | some i=>
    simp only[sliceBounds,HT.sIx,Option.getD_none,show (1:Int) > 0 by decide,if_true]
    by_cases h:i<0
    . simp only[h,if_true] <;> omega
    . simp only[h,if_false] <;> omega
theorem zEi (its:List Value)(lo hi:Option Int):slicePick its.toArray lo hi none=((its.drop (HT.sIx its.length 0 lo)).take (HT.sIx its.length its.length hi-HT.sIx its.length 0 lo)).toArray:=by
 obtain⟨h1,h2,h3⟩:=zFF lo hi its.toArray.size
 unfold slicePick
 rw[h1,h2,h3]
 simp only[sliceRange_one,pick_run,zP] <;> rfl
noncomputable def rSlL (K:PySem.W.Frag):V->Option Int->Option Int->Hp->VK->Prop:=fun x lo hi H Q=>∃a xs,x = .ref a/\SqL K H a xs/\∀p,H p=none->Q (.ref p) (upd H p (.lst (zE5 xs lo hi)))
theorem zKk:SlR X (rSlL X.K):=by
 intro pins s σ H x v vl vu lo hi sl Q I rx hs pl pu h
 obtain⟨a,xs,rfl,hx,q⟩:=h
 cases rx
 obtain⟨its,r,ht,hz⟩:=I.list hx
 have hlen:=r.length
 refine⟨"list",_,slot_list_getitem.lookup,ht.isList.typeIs,?_⟩
 refine wpAny_getItem_list_slice ht.isList hs pl pu .none (by simp) ?_ (by rw[zP] <;> omega)
 rw[zEi,<-hlen]
 refine⟨.ref s.heap.objs.size,_,I.laid (t':=s.toks) (o:=.lst (zE5 xs lo hi)) (fun b ob q=>zK _ q) (zL _) ?_,rfl,q _ (I.hok.fresh (zL _))⟩
 exact⟨zy (zD2 xs lo hi) hz,_,0,(r.drop (HT.sIx xs.length 0 lo)).take (HT.sIx xs.length xs.length hi-HT.sIx xs.length 0 lo),zU _ rfl⟩
noncomputable def zLZ:V->Bool
 | .non=>true
 | .bl _=>true
 | .int _=>true
 | .str _=>true
 | _=>false
noncomputable def eqV:V->V->Bool
 | .non,.non=>true
 | .bl a,.bl b=>a==b
 | .bl a,.int b=>(if a then 1 else 0)==b
 | .int a,.bl b=>a==(if b then 1 else 0)
 | .int a,.int b=>a==b
 | .str a,.str b=>a==b
 | _,_=>false
theorem eqAt_V {A:Around}{y x:V}{u v:Value}(ry:zBi y u)(rx:zBi x v)(fy:zLZ y=true)(fx:zLZ x=true):SeqAt.EqAt A s u v (eqV y x):=by
 cases y with
 | non=>
  cases ry
  cases x with
  | non=>cases rx;exact SeqAt.EqAt.same _
  | bl b=>cases rx;exact SeqAt.EqAt.none_bool b
  | int b=>obtain⟨t,rfl⟩:=rx;exact SeqAt.EqAt.none_int b t
  | str b=>obtain⟨t,rfl⟩:=rx;exact SeqAt.EqAt.none_str b t
  | _=>exact absurd (show false=true from fx) zg
 | bl a=>
  cases ry
  cases x with
  | non=>cases rx;exact SeqAt.EqAt.bool_none a
  | bl b=>cases rx;exact SeqAt.EqAt.bool_bool a b
  | int b=>obtain⟨t,rfl⟩:=rx;exact SeqAt.EqAt.bool_int a b t
  | str b=>obtain⟨t,rfl⟩:=rx;exact SeqAt.EqAt.bool_str a b t
  | _=>exact absurd (show false=true from fx) zg
 | int a=>
  obtain⟨t',rfl⟩:=ry
  cases x with
  | non=>cases rx;exact SeqAt.EqAt.int_none a t'
  | bl b=>cases rx;exact SeqAt.EqAt.int_bool a t' b
  | int b=>obtain⟨t,rfl⟩:=rx;exact SeqAt.EqAt.int_int a t' b t
  | str b=>obtain⟨t,rfl⟩:=rx;exact SeqAt.EqAt.int_str a t' b t
  | _=>exact absurd (show false=true from fx) zg
 | str a=>
  obtain⟨t',rfl⟩:=ry
  cases x with
  | non=>cases rx;exact SeqAt.EqAt.str_none a t'
  | bl b=>cases rx;exact SeqAt.EqAt.str_bool a t' b
  | int b=>obtain⟨t,rfl⟩:=rx;exact SeqAt.EqAt.str_int a t' b t
  | str b=>obtain⟨t,rfl⟩:=rx;exact SeqAt.EqAt.str_str a t' b t
  | _=>exact absurd (show false=true from fx) zg
 | _=>exact absurd (show false=true from fy) zg
theorem zBE:zCn X (.builtin "len") (fun xs H Q=>∃p ys,xs=[.ref p]/\(SqL X.K H p ys\/SqT X.K H p ys)/\Q (.int ys.length) H):=by
 intro pins s σ H xs us Q I r h
 obtain⟨p,ys,rfl,hq,q⟩:=h
 obtain⟨u,rfl,rx⟩:=zCt r
 cases rx
 have hn:=zFW
 rcases hq with hq | hq
 . obtain⟨its,r',pl,hz⟩:=I.list hq
   have hlen:=r'.length
   exact Calls.call_len_list pl.isList (by simp only[zP] <;> omega) ⟨.int ys.length,H,I.tok _,⟨s.toks+1,by rw[zP,hlen]⟩,q⟩
 . obtain⟨its,r',pl,hz⟩:=I.tuple hq
   have hlen:=r'.length
   exact len_tuple pl (by simp only[zP] <;> omega) ⟨.int ys.length,H,I.tok _,⟨s.toks+1,by rw[zP,hlen]⟩,q⟩
theorem zAJ:zCn X (.type "tuple") (fun xs H Q=>∃p ys,xs=[.ref p]/\((SqL X.K H p ys/\∀l,H l=none->Q (.ref l) (upd H l (.tup ys)))\/(SqT X.K H p ys/\Q (.ref p) H))):=by
 intro pins s σ H xs us Q I r h
 obtain⟨p,ys,rfl,h⟩:=h
 obtain⟨u,rfl,rx⟩:=zCt r
 cases rx
 rcases h with ⟨hq,q⟩ | ⟨hq,q⟩
 . obtain⟨its,r',pl,hz⟩:=I.list hq
   have hlen:=r'.length
   refine call_tuple_list pl.isList (fun h' kp=>?_) (by simp only[zP] <;> omega)
   have I1:Inv X pins σ H { s with heap:=h' }:=I.kept (t':=s.toks) kp
   have I2:Inv X pins σ (upd H h'.objs.size (.tup ys)) { s with heap:=h'.push { cls:=.type "tuple",data:=.seq its.toArray } }:=
    I1.laid (t':=s.toks) (fun b o e=>zK _ e) (zL _) (show zBs X.prog X.w _ _ _ (.tup ys) from ⟨⟨hz,_,zU _ rfl,rfl⟩,its,r',IsTup.new _ _⟩)
   exact⟨.ref h'.objs.size,_,I2,rfl,q _ (I1.hok.fresh (zL _))⟩
 . obtain⟨its,r',pl,hz⟩:=I.tuple hq
   exact call_tuple_same pl ⟨.ref p,H,I,rfl,q⟩
noncomputable def tyV (K:PySem.W.Frag)(T:String)(x:V)(H:Hp):Prop:=match x with
 | .str _=>T = "str"
 | .int _=>T = "int"
 | .ref p=>(T = "list" /\ ∃xs,SqL K H p xs)\/(T = "tuple" /\ ∃o,K.lookup p=some o/\o.cls = .type "tuple" /\ o.dict=none) \/
  (T = "dict" /\ ((∃kvs,H p=some (.dK kvs))\/∃kvs,H p=some (.dT kvs)))\/(T = "set" /\ ∃S n,H p=some (.set S n))
 | _=>False
theorem tyV_is {T:String}{x:V}{v:Value}(I:Inv X pins σ H s)(r:zBi x v)(ty:tyV X.K T x H) :
 s.TypeIs v T/\∀a,v = .ref a->∃ob,s.heap.get? a=some ob/\ob.dict=none:=by
 cases x with
 | str z=>
  obtain⟨t,rfl⟩:=r
  cases (show T = "str" from ty)
  exact⟨typeIs_str s z t,fun _ e=>nomatch e⟩
 | int i=>
  obtain⟨t,rfl⟩:=r
  cases (show T = "int" from ty)
  exact⟨typeIs_int s i t,fun _ e=>nomatch e⟩
 | ref p=>
  cases r
  rcases ty with ⟨rfl,xs,hq⟩ | ⟨rfl,o,hk,hc,hd⟩ | ⟨rfl,hk⟩ | ⟨rfl,S,n,hk⟩
  . obtain⟨its,_,pl,_⟩:=I.list hq
    refine⟨pl.isList.typeIs,fun a e=>?_⟩
    cases e
    obtain⟨o,n,e,c,hd,_⟩:=pl
    exact⟨o,e,hd⟩
  . refine⟨⟨o,I.kIn p o hk,hc⟩,fun a e=>?_⟩
    cases e
    exact⟨o,I.kIn _ o hk,hd⟩
  . have z:∃o,s.heap.get? p=some o/\o.ExactDict:=by
     rcases hk with ⟨kvs,hk⟩ | ⟨kvs,hk⟩
     . obtain⟨_,_,_,_,o,_,_,e,ex,_⟩:=I.hok p _ hk
       exact⟨o,e,ex⟩
     . obtain⟨_,_,_,_,o,_,_,e,ex,_⟩:=I.hok p _ hk
       exact⟨o,e,ex⟩
    obtain⟨o,e,ex⟩:=z
    refine⟨⟨o,e,ex.1⟩,fun a e2=>?_⟩
    cases e2
    exact⟨o,e,ex.2.1⟩
  . obtain⟨o,_,_,_,e,ex,_⟩:=I.hok p _ hk
    refine⟨⟨o,e,ex.1⟩,fun a e2=>?_⟩
    cases e2
    exact⟨o,e,ex.2.1⟩
 | _=>exact False.elim ty
noncomputable def tBM (K:PySem.W.Frag)(T:String)(r:V->List V->Hp->VK->Prop)(to:TE)(t:TA):TE:=fun σ H Q=>to σ H fun x H1=>tyV K T x H1/\t σ H1 fun xs H2=>r x xs H2 Q
variable {o e:Expr}{es:List Expr}{to:TE}{t:TA}{name:Str}{apos cpos:Pos}{T id:String}{r:V->List V->Hp->VK->Prop}
theorem zDA (pa:PlainAttrs T)(slot:Slot T name id)(hty:typeOf (.builtin id)=pure (.type "method_descriptor")) (hm:MtR X id r)(ho:PE X o to)(ha:PA X (e::es) t)
 (hbase:attributeBase o name X.env (eval o X.env)=eval o X.env:=by rfl)
 (hfew:((backTo cpos (starEach (e::es) X.env)).all (fun x=>!x.1) && (backToKw cpos (keywordEach [] X.env)).all (fun x=>x.1.isSome)
  && decide ((e::es).length+([]:List Keyword).length+(if ([]:List Keyword).isEmpty then 0 else 1)<30))=true:=by rfl)
 (hline:(apos.endLine==cpos.line)=true:=by rfl)(hs:starEach (e::es) X.env=(false,eval e X.env)::starEach es X.env:=by rfl)(hplain:(backTo cpos (starEach es X.env)).any (·.1)=false:=by rfl) :
 PE X (.Call (.Attribute o name apos) (e::es) [] cpos) (tBM X.K T r to t):=by
 intro pins s σ H Q I h
 refine wpAny_Call_method_late hbase hfew hline rfl (thn (ho pins s σ H _ I h) fun v s1 ⟨x,H1,I1,r1,ty,q1⟩=>?_)
 obtain⟨h1,h2⟩:=tyV_is I1 r1 ty
 refine⟨T,id,pa,slot,hty,h1,h2,?_⟩
 have hA:=ha cpos pins s1 σ H1 _ I1 q1
 rw[hs] at hA ⊢
 refine Calls.callWith_builtin (by show (false || (backTo cpos (starEach es X.env)).any (·.1))=false;rw[hplain] <;> rfl) (Calls.evalArgs_plain ?_)
 exact thn hA fun us s2 ⟨vs,H2,I2,r2,q2⟩=>hm pins s2 σ H2 x vs v us Q I2 r1 r2 q2
end
end L2
namespace L2
open PySem PySem.Spec PyProof.Rows
noncomputable def MtM (X:Cx)(id:String)(r:V->List V->Hp->VK->Prop):Prop:=
 ∀(pins:List (Addr×Obj))(s:Shared)(σ:St)(H:Hp)(x:V)(xs:List V)(v:Value)(us:List Value)(Q:VK),Inv X pins σ H s->zBi x v->zBR xs us->r x xs H Q ->
  wpAny (model X.prog X.w) X.A (call (.builtin id) (v::us)) (EP X pins σ Q) X.xe s
theorem zBR.one:∀{x:V}{us:List Value},zBR [x] us->∃u,us=[u]/\zBi x u
 | _,_,.cons r .nil=>⟨_,rfl,r⟩
theorem zBR.eraseIdx:∀{xs:List V}{us:List Value}(i:Nat),zBR xs us->zBR (xs.eraseIdx i) (us.eraseIdx i)
 | _,_,_,.nil=>.nil
 | _,_,0,.cons _ t=>t
 | _,_,i+1,.cons r t=>.cons r (zBR.eraseIdx i t)
theorem zBR.rep {xs:List V}{us:List Value}(h:zBR xs us):∀k:Nat,zBR (List.replicate k xs).flatten (List.replicate k us).flatten
 | 0=>.nil
 | k+1=>by
  rw[zBa,zBa,List.flatten_cons,List.flatten_cons]
  exact zBR.append h (zBR.rep h k)
theorem zFX {α:Type}:∀(l:List α)(i:Nat),(l.eraseIdx i).length<=l.length
 | [],_=>zL _
 | _::_,0=>zBt _
 | _::r,i+1=>Nat.succ_le_succ (zFX r i)
theorem zFc (its:List Value):∀(k:Nat)(acc:List Value),
 List.foldl (fun x1 x2=>x1++x2) acc.toArray (List.replicate k its.toArray)=(acc++(List.replicate k its).flatten).toArray
 | 0,acc=>by simp
 | k+1,acc=>by
  have e:acc.toArray++its.toArray=(acc++its).toArray:=by simp
  have e2:(acc++its)++(List.replicate k its).flatten=acc++(List.replicate (k+1) its).flatten:=by
   rw[zBa,List.flatten_cons,List.append_assoc]
  rw[<-e2,<-zFc its k (acc++its),<-e,zBa,List.foldl_cons]
section
variable {X:Cx}{pins:List (Addr×Obj)}{σ:St}{H:Hp}{s:Shared}{l b:Addr}{xs ys zs:List V}
theorem Inv.lset {its its':List Value}{n:Nat}{f:Array Value->Array Value}{t':Nat}(I:Inv X pins σ H s)(hH:H l=some (.lst xs))
 (e:s.heap.get? l=some { cls:=.type "list",data:=.seq its.toArray n }) (hf:f its.toArray=its'.toArray)(hv:zBR ys its')(hz:ys.length<=sizeLine) :
 Inv X pins σ (upd H l (.lst ys)) { s with heap:=s.heap.update l (Obj.mapSeq f),toks:=t' }:=by
 have q:=PySem.IsL.update e f
 rw[hf] at q
 refine I.write (x:=l) (e:=l) (by rw[hH];exact trivial) (.inl rfl) (fun b' u hb hu=>(Heap.get?_update_other s.heap (Obj.mapSeq f) (Ne.symm hb)).trans hu) ⟨_,q⟩ ?_
 exact⟨hz,its',_,hv,q⟩
theorem Inv.lnew {its:List Value}{t':Nat}(I:Inv X pins σ H s)(hv:zBR ys its)(hz:ys.length<=sizeLine) :
 Inv X pins σ (upd H s.heap.objs.size (.lst ys)) { s with heap:=s.heap.push { cls:=.type "list",data:=.seq its.toArray },toks:=t' }:=
 I.laid (fun _ _ q=>zK _ q) (zL _) ⟨hz,its,0,hv,zU _ rfl⟩
theorem Inv.fresh (I:Inv X pins σ H s):H s.heap.objs.size=none:=I.hok.fresh (zL _)
theorem Inv.lstM (I:Inv X pins σ H s)(hH:H l=some (.lst xs)):xs.length<=sizeLine/\∃(its:List Value)(n:Nat),zBR xs its/\xs.length=its.length/\s.heap.get? l=some { cls:=.type "list",data:=.seq its.toArray n }:=by
 obtain⟨z,its,n,r,e⟩:=I.hok l _ hH
 exact⟨z,its,n,r,r.length,e⟩
theorem zGc {n:Nat}(h:n<=sizeLine):Builtin.List.listTooLong n=false:=by
 unfold Builtin.List.listTooLong
 exact ze (by omega)
end
section
variable {X:Cx}
noncomputable def zKw:V->List V->Hp->VK->Prop:=fun x vs H Q=>∃l xs y,x = .ref l/\vs=[y]/\H l=some (.lst xs)/\xs.length<sizeLine/\Q .non (upd H l (.lst (xs++[y])))
theorem zBP:MtM X "list.append" zKw:=by
 intro pins s σ H x vs v us Q I rx rv h
 obtain⟨l,xs,y,rfl,rfl,hH,hz,q⟩:=h
 cases rx
 obtain⟨u,rfl,ru⟩:=rv.one
 obtain⟨z,its,n,r,hl,e⟩:=I.lstM hH
 refine call_meets F.slot_list_append ⟨_,e,rfl⟩ F.entry_list_append (F.args_list_append_2 _ _) (PySem.list_append l its.toArray n u (by rw[zP];omega)) ⟨e,?_⟩
 refine⟨.non,_,I.lset (its':=its++[u]) hH e (by simp) (r.append (.cons ru .nil)) ?_,rfl,q⟩
 rw[zI,List.length_singleton]
 omega
noncomputable def zKv:V->List V->Hp->VK->Prop:=fun x vs H Q=>∃l b xs zs,x = .ref l/\vs=[.ref b]/\H l=some (.lst xs)/\H b=some (.lst zs)/\xs.length+zs.length<=sizeLine/\Q .non (upd H l (.lst (xs++zs)))
theorem zIH:MtM X "list.extend" zKv:=by
 intro pins s σ H x vs v us Q I rx rv h
 obtain⟨l,b,xs,zs,rfl,rfl,hH,hB,hz,q⟩:=h
 cases rx
 obtain⟨u,rfl,ru⟩:=rv.one
 cases ru
 obtain⟨z,its,n,r,hl,e⟩:=I.lstM hH
 obtain⟨z2,its2,n2,r2,hl2,e2⟩:=I.lstM hB
 have hsz:its.toArray.size+its2.toArray.size<=sizeLine:=by rw[zP,zP];omega
 have hlong:¬ (!its.toArray.isEmpty && Builtin.List.listTooLong (its.toArray.size+its2.toArray.size))=true:=by
  rw[zGc hsz,Bool.and_false]
  exact zg
 refine call_meets F.slot_list_extend ⟨_,e,rfl⟩ F.entry_list_extend (F.args_list_extend_2 _ _)
  (AutoSeq1.list_extend_list_list_0 l its.toArray n b its2.toArray n2 hlong (by rw[zP];omega) (by omega)) ⟨e,e2,?_⟩
 refine⟨.non,_,I.lset (its':=its++its2) hH e (by simp) (r.append r2) ?_,rfl,q⟩
 rw[zI]
 omega
noncomputable def rPopAt:V->List V->Hp->VK->Prop:=fun x vs H Q=>∃l xs i k y,x = .ref l/\vs=[.int i]/\H l=some (.lst xs) /\ -(2 ^ 63)<=i/\i<2 ^ 63/\seqIndex? i xs.length=some k/\xs[k]? = some y/\Q y (upd H l (.lst (xs.eraseIdx k)))
theorem zJi:MtM X "list.pop" rPopAt:=by
 intro pins s σ H x vs v us Q I rx rv h
 obtain⟨l,xs,i,k,y,rfl,rfl,hH,h1,h2,hk,hy,q⟩:=h
 cases rx
 obtain⟨u,rfl,ru⟩:=rv.one
 obtain⟨t,rfl⟩:=ru
 obtain⟨z,its,n,r,hl,e⟩:=I.lstM hH
 obtain⟨w,hw,rw'⟩:=r.get hy
 refine call_meets F.slot_list_pop ⟨_,e,rfl⟩ F.entry_list_pop (F.args_list_pop_2 _ _)
  (MeetsSeq.list_pop_at l its.toArray n i t k w (fitsIndex_both h1 h2) (by rw[zP,<-hl];exact hk) (by rw[<-Array.getElem?_toList];exact hw) (by rw[zP];omega)) ⟨e,?_⟩
 refine⟨y,_,I.lset (its':=its.eraseIdx k) hH e ?_ (r.eraseIdx k) ?_,rw',q⟩
 . show its.toArray.eraseIdxIfInBounds k=(its.eraseIdx k).toArray
   rw[List.eraseIdxIfInBounds_toArray]
 . have:=zFX xs k
   omega
noncomputable def rRep:R2:=fun x y H Q=>∃l k xs,x = .ref l/\y = .int k/\H l=some (.lst xs) /\ -(2 ^ 63)<=k/\k<2 ^ 63/\xs.length*k.toNat<=sizeLine /\
 ∀p,H p=none->Q (.ref p) (upd H p (.lst (List.replicate k.toNat xs).flatten))
theorem zLO {α:Type}(xs:List α)(k:Nat):(List.replicate k xs).flatten.length=k*xs.length:=by
 induction k with
 | zero=>simp
 | succ k ih=>rw[zBa,List.flatten_cons,zI,ih,Nat.succ_mul,Nat.add_comm]
theorem op_rep:OpR X (binaryOp .Mult) rRep:=by
 intro pins s σ H x y v u Q I rx ry h
 obtain⟨l,k,xs,rfl,rfl,hH,h1,h2,hz,q⟩:=h
 cases rx
 obtain⟨t,rfl⟩:=ry
 obtain⟨z,its,n,r,hl,e⟩:=I.lstM hH
 have hlen:its.toArray.size*k.toNat<=sizeLine:=by rw[zP,<-hl];exact hz
 have hcap:¬ its.toArray.size*k.toNat > (2 ^ 63-1)/8:=by
  have:(sizeLine:Nat)<=(2 ^ 63-1)/8:=by decide
  omega
 have hfit:¬ (!Builtin.List.listFitsIndex k)=true:=by
  rw[fitsIndex_both h1 h2]
  exact zg
 have hlong:¬ Builtin.List.listTooLong (its.toArray.size*k.toNat)=true:=by
  rw[zGc hlen]
  exact zg
 have hnew:List.foldl (fun x1 x2=>x1++x2) #[] (List.replicate (if its.toArray.isEmpty=true then 0 else k.toNat) its.toArray)=(List.replicate k.toNat its).flatten.toArray:=by
  have f0:∀m:Nat,List.foldl (fun x1 x2=>x1++x2) #[] (List.replicate m its.toArray)=(List.replicate m its).flatten.toArray:=fun m=>by
   have:=zFc its m []
   rw[List.nil_append] at this
   exact this
  rw[f0]
  cases its with
  | nil=>simp
  | cons a r'=>rw[if_neg (by simp)]
 refine wpAny_binaryOp_repeat_ref (T := "list") (U := "int") (by decide) ⟨_,e,rfl⟩ (fun s'=>typeIs_int s' k t) noFill_list_mul F.fills_int_mul F.slot_int_rmul repeat_list F.slot_int_index.lookup
  (call_meets F.slot_int_rmul (typeIs_int s k t) F.entry_int_rmul (F.args_int_rmul_2 _ _) (int___rmul___int_list k t l its.toArray n)
   ⟨e,rfl,⟨_,e,rfl⟩,call_meets F.slot_list_mul ⟨_,e,rfl⟩ F.entry_list_mul (F.args_list_mul_2 _ _) (AutoListH.list___mul___list_int_3 l its.toArray n k t hfit hcap hlong) ⟨e,?_⟩⟩)
 rw[hnew]
 exact⟨.ref _,_,I.lnew (t':=s.toks) (r.rep k.toNat) (by rw[zLO,Nat.mul_comm];exact hz),rfl,q _ I.fresh⟩
end
section
variable {prog:Program}{w:World}{A:Around}{E:Value->Shared->Prop}{s:Shared}
set_option maxRecDepth 100000 in
end
section
variable {X:Cx}
end
end L2
namespace Att
open PySem PySem.W PySem.Calls PyProof.Rows
theorem zDu {P:Params}{h:Heap}:∀(ns:List Int)(vs:List Value),WellAll P h vs (ns.map WData.int)->IntsAre vs ns:=by
 intro ns
 induction ns with
 | nil=>
  intro vs w
  rw[List.map_nil] at w
  cases w
  exact .nil
 | cons n ns ih=>
  intro vs w
  rw[zAS] at w
  cases w with
  | cons a b=>
   cases a
   exact .cons _ _ (ih _ b)
theorem zHm {l:OpenLaw}{n:Nat}(hn:l.most=some n){P:Params}{h:Heap}{args:List WData}{vals:List Value}
 (hpre:l.row.toRowW.claim.pre args=true)(hwl:WellAll P h vals args) :
 ∃a vs ns,vals=[Value.ref a]/\args=[WData.list (ns.map WData.int)]/\h.get? a=some { cls:=.type "list",data:=.seq vs.toArray }/\IntsAre vs ns/\ns.length<=n:=by
 have hsh:WShape.hasAll [] args [.list .int]=true:=(pre_splitW hpre).1
 have hc:l.pre.holds [] { args:=args }=true:=(pre_splitW hpre).2
 obtain⟨d,r,rfl,h1,h2⟩:=hasAllW_cons hsh
 obtain rfl:=hasAllW_nil h2
 obtain⟨xs,rfl,h3⟩:=hasW_list h1
 obtain⟨ns,rfl⟩:=items_int h3
 have hlen:ns.length<=n:=by
  unfold OpenLaw.pre at hc
  have h4:(WTm.not (.lt (.lit (.int (n:Int))) (.len (.arg 0)))).holds [] { args:=[.list (ns.map .int)] }=true:=by
   have h4:=(holds_andW hc).1
   rw[hn] at h4
   exact h4
  have h5:=condW_of h4 (w_not (w_lt w_lit (w_len_list (w_arg rfl))))
  rw[zB] at h5
  refine Nat.le_of_not_lt fun q=>?_
  have q':(n:Int)<((ns.length:Nat):Int):=by omega
  first
   | (rw[zV q'] at h5;exact absurd h5 (by decide))
   | (simp at h5;omega)
 cases hwl with
 | cons w1 w2=>
  cases w2
  cases w1 with
  | list ho hall=>exact⟨_,_,ns,rfl,rfl,ho,zDu ns _ hall,hlen⟩
theorem zHz (l:OpenLaw)(args:List WData):l.row.toRowW.claim.post args (.bool true) args=true:=
 postW_of (r:=l.row.toRowW) (X:=(true==true))
  (show WShape.has [] (.bool true) .bool=true by first | rfl | decide | simp[WShape.has,WShape.arms,WShape.armsAll])
  (show (WTm.eq .res (.lit (.bool true))).value [] { args:=args,res:=some (.bool true),after:=args }=some (.bool (true==true)) from w_eq_bool (w_res rfl) w_lit) rfl
theorem attach_call {l:OpenLaw}{n:Nat}{q:Program}{loose:List Str}{XP:(Str->Option Value)->Heap->Prop}{YP:World->Heap->Prop}{d:DefRec}
 (hn:l.most=some n)(hdf:d.params.defaults=[])
 (call:∀(w:World)(s₀ s₁:Shared)(mg mb:Str->Option Value)(fa:Addr)(o:Obj)(pm cd doc:Value)(a:Addr)(vs:List Value)(ns:List Int),
  Ground q loose [] XP w s₀ mg mb s₁.heap->YP w s₁.heap ->
  s₁.heap.get? fa=some o->o.data = .func (docDef d.name d.params d.body d.scope pm cd doc)->s₁.heap.CodeRec cd d.name->mg d.name=some (.ref fa) ->
  s₁.heap.get? a=some { cls:=.type "list",data:=.seq vs.toArray }->IntsAre vs ns->ns.length<=n->s₁.gens = #[] ->
  codeAny (model l.prog w) callerA (.call (.ref fa) ⟨[.ref a],[]⟩) (fun r s'=>r = .ok (.ret (.bool true))/\OldK s₁.heap s'.heap/\s'.os=s₁.os/\AllBare s'.gens) s₁) :
 WalkO q loose XP YP l.row.toRowW d [] (fun f vs=>PySem.call f vs):=by
 intro w s₀ s₁ mg mb G Y fa o pm cd doc dV kV ho hd hcd hD hmg hg args vals as hpre hlay hrd hwl hlo
 obtain rfl:dV = .none:=Dflts.none hD hdf
 obtain rfl:kV = .none:=Dflts.noKw hD
 obtain⟨a,vs,ns,rfl,rfl,hobj,hints,hlen⟩:=zHm hn hpre hwl
 refine enter_call (codeAny_mono (call w s₀ s₁ mg mb fa o pm cd doc a vs ns G Y ho (fd_plain hd) hcd hmg hobj hints hlen hg) fun r s' hq=>?_)
 obtain⟨rfl,h2,h3,h4⟩:=hq
 exact⟨.inl ⟨.bool true,.bool true,[],rfl,fun _=>rfl,.bool true,zHz l _,fun _=>⟨zBX,fun _ hm=>(nomatch hm)⟩⟩,h2,h3,h4⟩
section
variable {prog:Program}{w:World}{A:Around}{E:Value->Shared->Prop}{s:Shared}{K:Frag}
end
end Att
namespace L2
open PySem PySem.Spec PyProof.Rows
theorem zE7:∀{vs:List Value}{ns:List Int},IntsAre vs ns->zBR (ns.map V.int) vs
 | _,_,.nil=>.nil
 | _,_,.cons n t h=>.cons ⟨t,rfl⟩ (zE7 h)
end L2
namespace L2
open PySem PySem.Spec PyProof.Rows
end L2
namespace L2
open PySem PySem.Spec PyProof.Rows
noncomputable def defArgs (s:Stmt):Arguments:=match s with
 | .FunctionDef _ a _ _ _ _ _ _ _ _=>a
 | _=>{ posonlyargs:=[],args:=[],vararg:=none,kwonlyargs:=[],kw_defaults:=[],kwarg:=none,defaults:=[] }
noncomputable def defBody (s:Stmt):List Stmt:=match s with
 | .FunctionDef _ _ b _ _ _ _ _ _ _=>b
 | _=>[]
noncomputable def defScope (s:Stmt):Scope:=match s with
 | .FunctionDef _ _ _ _ _ _ sc _ _ _=>sc
 | _=>{ kind:=.function,names:=[],isGenerator:=false,isCoroutine:=false }
noncomputable abbrev CX0:CXT:=fun _ _ _ _ _ _=>False
noncomputable abbrev E0:XK:=fun _ _ _=>False
theorem zAl {X:Cx}:zIz CX0 X E0:=fun _ _ _ _ _ _ _ h=>h.elim
structure Fun (K:PySem.W.Frag)(x qual:Str)(st:Stmt)(f:Addr)(fd:FuncData):Prop where
 ex:∃(oc:Value)(od:Option Addr)(kV doc pm:Value)(an:Option Addr)(cdv ct:Value)(osl:Array (Option Value)),
  fd=PySem.W.fnOf x qual (defArgs st) (defBody st) (defScope st) .none kV doc pm an cdv ct/\K.lookup f=some ⟨oc,od,.func fd,osl⟩/\PySem.W.codeIn K cdv qual=true
 kp:PySem.W.keepIn K (.ref f)=true
variable {x qual:Str}{st:Stmt}{f:Addr}
section
variable {P:Program}{w:World}{K:PySem.W.Frag}{mg:Str->Option Value}{base:Heap}
theorem Fun.ok {fd:FuncData}{N ps:List Str}{k:Nat}{sp:Sp}(F:Fun K x qual st f fd)(S:zAR N ps (defScope st))(len:∀vs H Q E,sp vs H Q E->vs.length=ps.length)
 (hbody:∀(cdv:Value)(A:Around)(outer:List Env)(s:Shared)(H:Hp)(vs:List V)(Q:VK)(E:XK),zDN k (A.deeper (envOfC qual (defScope st) s.heap.objs.size f cdv))->sp vs H Q E ->
  ∃t,PSs (zLd CX0 P w K mg base N qual (defScope st) f cdv A outer s H E).nox (defBody st) t/\t { nx:=fun _ H'=>Q .non H',rt:=Q } (start N vs) H):zAq P w K mg base CX0 (k+1) f fd ps sp:=by
 obtain⟨oc,od,kV,doc,pm,an,cdv,ct,osl,rfl,lk,hcd⟩:=F.ex
 refine fn_of lk hcd S len fun A outer s H vs Q E hr hsp=>?_
 obtain⟨t,h,q⟩:=hbody cdv A outer s H vs Q E hr hsp
 exact⟨t,h.nox,q⟩
theorem Fun.binds {fd:FuncData}{ps:List Str}(F:Fun K x qual st f fd)
 (h:∀(kV doc pm:Value)(an:Option Addr)(cdv ct:Value)(us:List Value),us.length=ps.length->bindArgs (PySem.W.fnOf x qual (defArgs st) (defBody st) (defScope st) .none kV doc pm an cdv ct) ⟨us,[]⟩=pure (ps.zip us)):zAP K fd ps []:=by
 obtain⟨oc,od,kV,doc,pm,an,cdv,ct,osl,rfl,lk,hcd⟩:=F.ex
 exact .all (h kV doc pm an cdv ct)
theorem fun_mk {oc:Value}{od an:Option Addr}{osl:Array (Option Value)}{kV doc pm cdv ct:Value}(l:K.lookup f=some ⟨oc,od,.func (PySem.W.fnOf x qual (defArgs st) (defBody st) (defScope st) .none kV doc pm an cdv ct),osl⟩)
 (c:PySem.W.codeIn K cdv qual=true)(k:PySem.W.keepIn K (.ref f)=true):Fun K x qual st f (PySem.W.fnOf x qual (defArgs st) (defBody st) (defScope st) .none kV doc pm an cdv ct):=⟨⟨oc,od,kV,doc,pm,an,cdv,ct,osl,rfl,l,c⟩,k⟩
end
theorem zDv {A:Around}{k:Nat}(hr:zDN k A):A.units+1<cLine:=zAD (Nat.add_le_add_left (by decide:1<=64) _) hr.units
section
variable {X:Cx}
theorem pv (i:Nat){x:Str}{pos:Pos}(hN:X.N[i]? = some x:=by rfl)(hv:Vis X.env.scope x:=by first | exact Or.inl rfl | exact Or.inr (Or.inl rfl) | exact Or.inr (Or.inr rfl))(hd:(x==("__debug__" : Str))=false:=by decide)
 (hcd:(x==("__classdict__" : Str))=false:=by decide):PE X (.Name x pos) (tVar i):=pe_var hN hv hd hcd
end
variable {A B:Prop}
theorem zDU (h:B):if false=true then A else B:=by
 rw[if_neg zg]
 exact h
theorem zFa (h:A):if true=true then A else B:=by
 rw[if_pos rfl]
 exact h
theorem zDO {c:Prop} [Decidable c] (h1:c->A)(h2:¬ c->B):if c then A else B:=by
 by_cases h:c
 . rw[if_pos h]
   exact h1 h
 . rw[if_neg h]
   exact h2 h
noncomputable def zA1 (H H':Hp):Prop:=∀b o,H b=some o->H' b=some o
theorem zA1.refl (H:Hp):zA1 H H:=fun _ _ h=>h
theorem zA1.trans {H H1 H2:Hp}(a:zA1 H H1)(b:zA1 H1 H2):zA1 H H2:=fun c o h=>b c o (a c o h)
end L2
namespace L2
open PySem PySem.Spec PyProof.Rows
section
variable {κ:Type} [DecidableEq κ]
theorem zGH {kvs:List (κ×V)}{k:κ}(h:zBv kvs k=none):¬ k∈kvs.map (·.1):=by
 intro m
 obtain⟨p,hp,e⟩:=zi.mp m
 have q:(kvs.any fun kv=>decide (kv.1=k))=true:=List.any_eq_true.mpr ⟨p,hp,zV e⟩
 rw[zCA,h] at q
 exact absurd q (by simp)
theorem zKT {kvs:List (κ×V)}{k:κ}{v:V}(h:zBv kvs k=some v):k∈kvs.map (·.1):=by
 have q:(kvs.any fun kv=>decide (kv.1=k))=true:=by
  rw[zCA,h]
  all_goals rfl
 obtain⟨p,hp,e⟩:=List.any_eq_true.mp q
 exact zi.mpr ⟨p,hp,of_decide_eq_true e⟩
theorem zIE:∀{l:List κ}{k:κ},l.Nodup->¬ k∈l->(l++[k]).Nodup
 | [],k,_,_=>by simp
 | a::r,k,h,hk=>by
  obtain⟨h1,h2⟩:=zA3.mp h
  show (a::(r++[k])).Nodup
  refine zA3.mpr ⟨fun m=>?_,zIE h2 fun m=>hk (zm.mpr (Or.inr m))⟩
  rcases zu.mp m with q | q
  . exact h1 q
  . exact hk (zm.mpr (Or.inl (zk.mp q).symm))
theorem zIF {kvs:List (κ×V)}{k:κ}(v:V)(hn:(kvs.map (·.1)).Nodup)(h:zBv kvs k=none):((zCP kvs k v).map (·.1)).Nodup:=by
 rw[zDS v h,zQ]
 exact zIE hn (zGH h)
theorem zFh {p:κ×V}{r:List (κ×V)}{k:κ}(e:p.1=k):zCM (p::r) k=zCM r k:=by
 unfold zCM
 rw[zBn,if_neg (by simp[e])]
theorem zFi {p:κ×V}{r:List (κ×V)}{k:κ}(e:¬ p.1=k):zCM (p::r) k=p::zCM r k:=by
 unfold zCM
 rw[zBn,if_pos (by simp[e])]
theorem zFj {kvs:List (κ×V)}{k:κ}{p:κ×V}(h:p∈zCM kvs k):p∈kvs:=(zAu.mp h).1
theorem zEu:∀{kvs:List (κ×V)}{k:κ},(kvs.map (·.1)).Nodup->((zCM kvs k).map (·.1)).Nodup
 | [],_,_=>zCC
 | p::r,k,h=>by
  have h:(p.1::r.map (·.1)).Nodup:=h
  obtain⟨h1,h2⟩:=zA3.mp h
  by_cases e:p.1=k
  . rw[zFh e]
    exact zEu h2
  . rw[zFi e]
    show (p.1::(zCM r k).map (·.1)).Nodup
    refine zA3.mpr ⟨fun m=>h1 ?_,zEu h2⟩
    obtain⟨q,hq,eq⟩:=zi.mp m
    exact zi.mpr ⟨q,zFj hq,eq⟩
end
end L2
namespace L2
open PySem PySem.Spec PyProof.Rows
section
variable {X:Cx}
end
end L2
set_option Elab.async false
set_option linter.all false
set_option maxRecDepth 100000
set_option maxHeartbeats 4000000
namespace L2
open PySem PySem.Spec PyProof.Rows
theorem zDL {prog:Program}{w:World}{A:Around}{R:Result->Shared->Prop}{s:Shared}{elt target iter:Expr}{ifs:List Expr}{scope:Scope}{pos:Pos}{it acc:Value}{env:Env}(I:Nat->Shared->Prop)
 (turn:∀n s,I n s->wpAny (model prog w) A (pyNext it) (fun r s₁=>match r with
  | none=>R (.ok .next) s₁
  | some v=>wpAny (model prog w) A (letOwnedTupleGo target it v) (fun _ s₁'=>wpAny (model prog w) A (assign target env v) (fun _ s₂=>
   wpAny (model prog w) A (forIn ifs true fun c r=>if r=true then do let ok <-isTrue c env (eval c env);pure (ForInStep.yield ok) else pure (ForInStep.yield r)) (fun ok s₃=>
    if ok=true then wpAny (model prog w) A (eval elt env) (fun x s₄=>
     wpAny (model prog w) A (call (.builtin "list.append") [acc,x]) (fun _ s₅=>∃m,m<n/\I m s₅) (fun _ _=>False) s₄) (fun _ _=>False) s₃
    else ∃m,m<n/\I m s₃) (fun _ _=>False) s₂) (fun _ _=>False) s₁') (fun _ _=>False) s₁) (fun _ _=>False) s)
 (n:Nat)(h:I n s):codeAny (model prog w) A (.compLoop (.ListComp elt [⟨target,iter,ifs,0⟩] scope pos) 0 it acc env) R s:=by
 refine codeAny_loop rfl I (fun n s hI=>?_) n h
 show wpAny _ A ((compTurn (.ListComp elt [⟨target,iter,ifs,0⟩] scope pos) 0 it acc env).onRaise (fun x=>do noteFrame x env;theTreesLotGoes x)) _ _ s
 refine wpAny_noted ?_
 rw[compTurn_list]
 refine zC (wpAny_standAt (zC (zBW (turn n s hI) (fun r s₁ h₁=>?_) fun _ _ h'=>h'.elim)))
 cases r with
 | none=>exact zH h₁
 | some v=>
  refine zC (zBW h₁ (fun _ s₁' h₁'=>?_) fun _ _ h'=>h'.elim)
  refine zC (zBW h₁' (fun _ s₂ h₂=>zC (zBW h₂ (fun ok s₃ h₃=>?_) fun _ _ h'=>h'.elim)) fun _ _ h'=>h'.elim)
  cases ok with
  | false=>exact zH ⟨rfl,h₃⟩
  | true=>
   exact zC (zC (zBW h₃ (fun x s₄ h₄=>zC (zBW h₄ (fun _ s₅ h₅=>zH (zH ⟨rfl,h₅⟩)) fun _ _ h'=>h'.elim)) fun _ _ h'=>h'.elim))
noncomputable def PTs (X:Cx)(ifs:List Expr)(t:TT):Prop:=
 ∀(pins:List (Addr×Obj))(s:Shared)(σ:St)(H:Hp)(Q:Bool->Hp->Prop),Inv X pins σ H s->t σ H Q ->
  wpAny (model X.prog X.w) X.A (forIn ifs true fun c r=>if r=true then do let ok <-isTrue c X.env (eval c X.env);pure (ForInStep.yield ok) else pure (ForInStep.yield r)) (TP X pins σ Q) X.xe s
noncomputable def tYes:TT:=fun _ H Q=>Q true H
theorem zD8 {σ:St}{H:Hp}{A B:Hp->Prop}(h:A H):tYes σ H (fun b H3=>if b=true then A H3 else B H3):=by
 show (if true=true then A H else B H)
 exact zFa h
variable {X:Cx}
theorem zBK:PTs X [] tYes:=fun _ _ _ H _ I h=>wpAny_tests_nil ⟨H,I,h⟩
theorem zB0 {c:Expr}{t:TT}(h:PT X c t):PTs X [c] t:=fun pins s σ H Q I q=>wpAny_tests_one (h pins s σ H Q I q)
noncomputable def zCs (cells:List (Str×Addr)):List (Str×NameKind)->List (Str×Addr)->List (Str×Addr)
 | [],acc=>acc
 | (n,k)::r,acc=>if (k == .free)=true then (match cells.lookup n with | some c=>zCs cells r ((n,c)::acc) | none=>zCs cells r acc) else zCs cells r acc
theorem zC4 {cells:List (Str×Addr)}{x:Str}{c:Addr}:∀(names:List (Str×NameKind))(acc:List (Str×Addr)),(zCs cells names acc).lookup x=some c->acc.lookup x=some c\/cells.lookup x=some c
 | [],acc,h=>.inl h
 | (n,k)::r,acc,h=>by
  unfold zCs at h
  split at h
  . cases hc:cells.lookup n with
    | none=>rw[hc] at h;exact zC4 r acc h
    | some c'=>
     rw[hc] at h
     rcases zC4 r _ h with q | q
     . rw[zBB] at q
       cases hx:x==n with
       | true=>
        rw[hx] at q
        have e:x=n:=by simpa using hx
        have e2:c'=c:=by simpa using q
        rw[e,hc,e2]
        exact .inr rfl
       | false=>rw[hx] at q;exact .inl q
     . exact .inr q
  . exact zC4 r acc h
theorem zDZ {cells:List (Str×Addr)}{x:Str}:∀(names:List (Str×NameKind))(acc:List (Str×Addr)),(∃c,acc.lookup x=some c)->∃c,(zCs cells names acc).lookup x=some c
 | [],acc,h=>h
 | (n,k)::r,acc,h=>by
  unfold zCs
  split
  . cases hc:cells.lookup n with
    | none=>exact zDZ r acc h
    | some c'=>
     refine zDZ r _ ?_
     rw[zBB]
     cases hx:x==n with
     | true=>exact⟨c',rfl⟩
     | false=>exact h
  . exact zDZ r acc h
theorem zCp {cells:List (Str×Addr)}{x:Str}(hx:∃c,cells.lookup x=some c):∀(names:List (Str×NameKind))(acc:List (Str×Addr)),(x,NameKind.free)∈names->∃c,(zCs cells names acc).lookup x=some c
 | [],acc,h=>by simp at h
 | (n,k)::r,acc,h=>by
  rcases zm.mp h with e | h
  . cases e
    obtain⟨c,hc⟩:=hx
    unfold zCs
    rw[if_pos (by rfl),hc]
    exact zDZ r _ ⟨c,by rw[zBB];simp⟩
  . unfold zCs
    split
    . cases hc:cells.lookup n with
      | none=>exact zCp hx r acc h
      | some c'=>exact zCp hx r _ h
    . exact zCp hx r acc h
theorem zDF {env:Env}:∀(names:List (Str×NameKind))(acc:List (Str×Addr)),(∀y∈names,y.2 = .free->∃c,env.cells.lookup y.1=some c) ->
 (forIn names acc fun (x:Str×NameKind)(cs:List (Str×Addr))=>(if (x.2 == .free)=true then (do let a <-cellOf env x.1;pure (ForInStep.yield ((x.1,a)::cs))) else pure (ForInStep.yield cs):Sem (ForInStep (List (Str×Addr)))))=pure (zCs env.cells names acc)
 | [],acc,_=>rfl
 | (n,k)::r,acc,h=>by
  rw[List.forIn_cons]
  have hr:∀y∈r,y.2 = .free->∃c,env.cells.lookup y.1=some c:=fun y hy=>h y (zv _ hy)
  unfold zCs
  cases hk:(k==NameKind.free) with
  | true=>
   obtain⟨c,hc⟩:=h (n,k) zl (by simpa using hk)
   simp only[hk,if_true,cellOf,hc,pure_bind]
   exact zDF r _ hr
  | false=>
   simp only[hk,zBr,if_false,pure_bind]
   exact zDF r _ hr
theorem zCb {scope:Scope}{env:Env}(h:∀y∈scope.names,y.2 = .free->∃c,env.cells.lookup y.1=some c):closureFor scope env=pure (zCs env.cells scope.names []):=by
 have e:=zDF scope.names [] h
 simp only[closureFor]
 simp only[bind_pure]
 exact e
theorem zBy {env:Env}{x:Str}:∀(names:List (Str×NameKind)),
 (names.map fun (n,k)=>if (k==NameKind.free && env.scope.kind == .function && env.kindOf n==some .cell) then (n,NameKind.cell) else (n,k)).lookup x =
  (names.lookup x).map fun k=>if (k==NameKind.free && env.scope.kind == .function && env.kindOf x==some .cell)=true then NameKind.cell else k
 | []=>rfl
 | (n,k)::r=>by
  have ih:=zBy (env:=env) (x:=x) r
  rw[zAS]
  show List.lookup x ((if (k==NameKind.free && env.scope.kind == .function && env.kindOf n==some .cell)=true then (n,NameKind.cell) else (n,k))::_)=_
  by_cases c:(k==NameKind.free && env.scope.kind == .function && env.kindOf n==some .cell)=true
  . rw[if_pos c,zBB,zBB]
    cases hx:x==n with
    | true=>
     have e:x=n:=by simpa using hx
     subst e
     show some NameKind.cell=Option.map _ (some k)
     rw[zAs,if_pos c]
    | false=>exact ih
  . rw[if_neg c,zBB,zBB]
    cases hx:x==n with
    | true=>
     have e:x=n:=by simpa using hx
     subst e
     show some k=Option.map _ (some k)
     rw[zAs,if_neg c]
    | false=>exact ih
noncomputable def zBM (X:Cx)(pl:List (Addr×Obj))(N':List Str)(scope:Scope)(fp:List Addr)(s3:Shared)(H3:Hp):Cx where
 prog:=X.prog
 w:=X.w
 K:=X.K
 mg:=X.mg
 base:=X.base
 A:=X.A
 N:=N'
 s₀:=s3
 H₀:=H3
 env:=compEnvC scope (zCs X.env.cells scope.names []) s3.heap.objs.size X.env
 outer:=X.stack
 stack:=X.stack
 ex:=fp
 fn:=fun _=>false
 calm:=X.calm
 pn:=pl
 xe:=fun _ _=>False
noncomputable def zDQ (X:Cx)(scope:Scope):List Str->List Nat->Prop
 | [],[]=>True
 | x::cn,j::ci=>X.N[j]? = some x/\X.env.kindOf x=some .cell/\scope.names.lookup x=some .free/\zDQ X scope cn ci
 | _,_=>False
theorem zDQ.get {X:Cx}{scope:Scope}:∀{cn:List Str}{ci:List Nat}{k:Nat}{x:Str},zDQ X scope cn ci->cn[k]? = some x->∃j,ci[k]? = some j/\X.N[j]? = some x/\X.env.kindOf x=some .cell/\scope.names.lookup x=some .free
 | [],_,_,_,_,h=>by simp at h
 | _::_,[],_,_,c,_=>c.elim
 | y::cn,j::ci,0,x,c,h=>by
  obtain⟨a,b,b',_⟩:=c
  have e:y=x:=by simpa using h
  subst e
  exact⟨j,rfl,a,b,b'⟩
 | y::cn,j::ci,k+1,x,c,h=>by
  obtain⟨j',h1,h2⟩:=zDQ.get (k:=k) c.2.2.2 (by simpa using h)
  exact⟨j',by simpa using h1,h2⟩
structure zD7 (X:Cx)(scope:Scope):Prop where
 kind:scope.kind = .function
 nocell:∀y∈scope.names,y.2 ≠ .cell
 names:∀y∈scope.names,y.2 = .local->scope.names.lookup y.1=some .local
 free:∀y∈scope.names,y.2 = .free->X.env.kindOf y.1=some .cell
variable {g:TG}{ti:TT}{te:TE}{Q:VK}
section
variable {X:Cx}{pins:List (Addr×Obj)}{σ:St}{H3:Hp}{s3:Shared}{scope:Scope}{fp:List Addr}{N' own cn:List Str}{ci:List Nat}{cv:List V}
theorem zGn (ok:X.Ok)(S:zD7 X scope){x:Str}(h:(relabel scope X.env).names.lookup x=some .cell\/(relabel scope X.env).names.lookup x=some .free) :
 ∃c,(zCs X.env.cells scope.names []).lookup x=some c:=by
 have e:(relabel scope X.env).names.lookup x=(scope.names.lookup x).map fun k=>if (k==NameKind.free && X.env.scope.kind == .function && X.env.kindOf x==some .cell)=true then NameKind.cell else k:=zBy scope.names
 have hf:scope.names.lookup x=some .free:=by
  cases q:scope.names.lookup x with
  | none=>rw[e,q] at h;simp at h
  | some k=>
   by_cases hk:k = .free
   . rw[hk]
   . have hb:(k==NameKind.free)=false:=by simpa using hk
     rw[e,q] at h
     simp only[zAs,hb,Bool.false_and,zBr,if_false,Option.some.injEq] at h
     rcases h with h | h
     . exact absurd h (S.nocell _ (PySem.mem_of_lookup q))
     . exact absurd h hk
 exact zCp (ok.has x (.inl (S.free _ (PySem.mem_of_lookup hf) rfl))) scope.names [] (PySem.mem_of_lookup hf)
theorem zCj {x:Str}{c:Addr}(h:(zCs X.env.cells scope.names []).lookup x=some c):X.env.cells.lookup x=some c:=by
 rcases zC4 _ _ h with q | q
 . simp at q
 . exact q
theorem zLe (I:Inv X pins σ H3 s3)(S:zD7 X scope)(f:∀b∈fp,zFv X pins H3 b)(fz:∀b∈fp,b<s3.heap.objs.size):(zBM X (X.pn++pins) N' scope fp s3 H3).Ok where
 mod:=I.ok.mod
 kind:=S.kind
 glob:=I.ok.glob
 blt:=I.ok.blt
 above:=zL _
 inj:=fun x y c h1 h2=>I.ok.inj x y c (zCj h1) (zCj h2)
 has:=fun x h=>zGn I.ok S h
 cab:=fun x c h=>by cases h
 hd:=I.ok.hd
 frames:=I.ok.frames
 stk:=.inl rfl
 exf:=fun b hb=>⟨zY (fz b hb),fun x c h=>(f b hb).2.2.2.2.1 x c (zCj h)⟩
 bs:=I.bs
 bsz:=zy I.ok.bsz I.sz
 noex:=fun b o e hb=>by
  rcases (f b hb).2.2.2.1 with z | z
  . exact I.ok.noex b o e z
  . exact absurd (zt (zX e) (zy I.ok.bsz z)) (zB3 _)
 exfs:=fun b hb z=>by
  rcases zm.mp (I.stkSub b z) with q | q
  . exact (f b hb).2.1 q
  . exact (f b hb).2.2.1 q
 funs:=I.stack
 frf:=I.stkFree
theorem zJv {h1:Heap}{t:Nat}(I:Inv X pins σ H3 s3)(S:zD7 X scope)(f:∀b∈fp,zFv X pins H3 b)(fz:∀b∈fp,b<s3.heap.objs.size)
 (hN:N'=own++cn)(hc:zDQ X scope cn ci)(hv:ci.map (fun j=>σ[j]?)=cv.map fun v=>some (some v))(hl:cn.length=ci.length)
 (hns:h1.Ns s3.heap.objs.size (fun _=>none))(hk:∀b o,s3.heap.get? b=some o->h1.get? b=some o) :
 Inv (zBM X (X.pn++pins) N' scope fp s3 H3) [] (List.replicate own.length none++cv.map some) H3 { s3 with heap:=h1,toks:=t }:=by
 have lenv:cv.length=ci.length:=by
  have:=congrArg List.length hv
  simpa using this.symm
 refine⟨zLe I S f fz,rfl,I.bare,Un.kept hk,⟨_,hns,fun i x v e1 e2 e3=>?_⟩,fun x c e=>?_,I.hok.fresh (zL _),fun x c e=>I.freeC x c (zCj e),fun p hp=>?_,I.hok.kept hk,?_⟩
 . -- a captured name
   have hi:own.length<=i:=by
    by_cases hi:own.length<=i
    . exact hi
    . rw[zN (by simpa using hi),zBS] at e2
      split at e2 <;> cases e2
   rw[zM (by simpa using hi),zAa,zO] at e2
   have e1':(own++cn)[i]? = some x:=by rw[<-hN];exact e1
   rw[zM hi] at e1'
   obtain⟨j,hj,hNj,hkx,hfr⟩:=hc.get e1'
   have hcv:cv[i-own.length]? = some v:=by
    cases q:cv[i-own.length]? with
    | none=>rw[q] at e2;cases e2
    | some v'=>rw[q] at e2;cases e2;rfl
   have hσ:σ[j]? = some (some v):=by
    have:=congrArg (fun l:List (Option (Option V))=>l[i-own.length]?) hv
    simp only[zO,hj,hcv,zAs,Option.some.injEq] at this
    exact this
   obtain⟨m,_,hl'⟩:=I.loc
   obtain⟨u,r,q⟩:=hl' j x v hNj hσ (.inr (.inl hkx))
   have hkd:(relabel scope X.env).names.lookup x=some .cell\/(relabel scope X.env).names.lookup x=some .free:=by
    have e:(relabel scope X.env).names.lookup x=(scope.names.lookup x).map fun k=>if (k==NameKind.free && X.env.scope.kind == .function && X.env.kindOf x==some .cell)=true then NameKind.cell else k:=zBy scope.names
    rw[e,hfr,zAs]
    by_cases cc:(NameKind.free==NameKind.free && X.env.scope.kind == .function && X.env.kindOf x==some .cell)=true
    . rw[if_pos cc];exact .inl rfl
    . rw[if_neg cc];exact .inr rfl
   obtain⟨c',hc'⟩:=zGn I.ok S hkd
   refine⟨u,r,.inr ⟨hkd,c',hc',?_⟩⟩
   rcases q with ⟨z,_⟩ | ⟨_,c,hcc,o,ho,hd⟩
   . rw[hkx] at z;cases z
   . have e:c=c':=zR (hcc.symm.trans (zCj hc'))
     subst e
     exact⟨o,hk c o ho,hd⟩
 . obtain⟨v,o,ho,hd⟩:=I.cell x c (zCj e)
   exact⟨v,o,hk c o ho,hd⟩
 . have hp':p∈X.pn++pins:=by rw[zAB] at hp;exact hp
   obtain⟨e,n,ne,nf,d⟩:=I.pin p hp'
   refine⟨hk _ _ e,n,zY (zX e),fun z=>?_,d⟩
   rcases zm.mp (I.stkSub p.1 z) with q | q
   . exact ne q
   . exact nf q
 . show (List.replicate own.length none++cv.map some).length=N'.length
   rw[hN,zI,zI,zAa,zB,lenv,hl]
noncomputable def zGs (J:It)(own:Nat)(cv:List V)(g:TG)(ti:TT)(te:TE)(D:Addr)(H1:Hp)(Q:VK):Prop:=∃W:Nat->Nat->List V->Hp->Prop,(∃m,W 0 m [] (upd H1 D (.lst [])))/\∀i m ys H,W i m ys H ->
 (J.stop i H/\Q (.ref D) H)\/(J.go i H/\ys.length<sizeLine/\∃N:List V->Hp->Prop,(∀ys' H',N ys' H'->∃m',m'<m/\W (i+1) m' ys' H') /\
  ∀x H',J.yld i H x H'->g x (List.replicate own none++cv.map some) H' fun σ2 H2=>(σ2.length=own+cv.length/\σ2.drop own=cv.map some) /\
   ti σ2 H2 fun b H3=>if b=true then te σ2 H3 fun y H4=>H4 D=some (.lst ys)/\N (ys++[y]) (upd H4 D (.lst (ys++[y]))) else N ys H3)
noncomputable def zGw (own:Nat)(ci:List Nat)(wi:TI)(g:TG)(ti:TT)(te:TE):TE:=fun σ H Q=>wi σ H fun J H1=>∃cv:List V,ci.map (fun j=>σ[j]?)=cv.map (fun v=>some (some v)) /\
 ∀D,H1 D=none->zGs J own cv g ti te D H1 Q
theorem zFl {elt target iter:Expr}{ifs:List Expr}{pos cpos:Pos}{wi:TI}{use:Option (Value->Sem Unit)}{Q0:Value->Shared->Prop}{s:Shared}{H:Hp}(hcalm:X.calm=true)(S:zD7 X scope)(hc:zDQ X scope cn ci)(hl:cn.length=ci.length)
 (hi:PI X target iter wi)(hg:∀pl fp s3 H3,PG (zBM X pl (own++cn) scope fp s3 H3) target g)(ht:∀pl fp s3 H3,PTs (zBM X pl (own++cn) scope fp s3 H3) ifs ti)
 (he:∀pl fp s3 H3,PE (zBM X pl (own++cn) scope fp s3 H3) elt te)(hs:∀x,foldedSetIterable iter X.env x=pure x)(I:Inv X pins σ H s)(h:zGw own.length ci wi g ti te σ H Q)
 (fin:∀(D C:Addr)(H5:Hp)(s6:Shared)(m6:Str->Option Value),Inv X pins σ H5 s6->s6.heap.Ns C m6->H5 C=none->C≠X.env.locals->X.s₀.heap.objs.size<=C->(∀x c,X.env.cells.lookup x=some c->c≠C) ->
  (∀p∈X.pn++pins,p.1≠C)->Q (.ref D) H5->compPost (model X.prog X.w) X.A X.xe use Q0 (.ref D) C (.ok .next) s6) :
 wpAny (model X.prog X.w) X.A (comprehension (.ListComp elt [⟨target,iter,ifs,0⟩] scope pos) scope X.env cpos (newList []) false (eval iter X.env) use) Q0 X.xe s:=by
 have hcl:closureFor scope X.env=pure (zCs X.env.cells scope.names []):=zCb fun y hy hf=>I.ok.has y.1 (.inl (S.free y hy hf))
 refine wpAny_comprehension_free (use:=use) rfl hs hcl S.kind S.names ?_
 refine thn (hi pins s σ H _ I h) fun v s1 h1=>thn h1 fun itv s2 h2=>?_
 obtain⟨it,fp,tn,J,H2,e,I2,T,st2,f2,cv,hv,hD⟩:=h2
 subst e
 have lenv:cv.length=ci.length:=by
  have:=congrArg List.length hv
  simpa using this.symm
 have I3:=I2.lnew (ys:=[]) (its:=[]) (t':=s2.toks) .nil (zc _)
 obtain⟨W,⟨m0,w0⟩,turn⟩:=hD s2.heap.objs.size I2.fresh
 have fz:∀b∈fp,b<s2.heap.objs.size:=fun b hb=>by
  obtain⟨o,ho,_⟩:=T.obj _ _ st2 b hb
  exact zX ho
 refine zAz ?_
 refine wpAny_newFunctionEnv S.nocell (by intro y hy;simp at hy) (fun h4 hns4 hsb4=>?_) S.kind
 generalize hs3:({ s2 with heap:=s2.heap.push { cls:=.type "list",dict:=none,data:=.seq ([]:List Value).toArray } }:Shared)=s3 at hns4 hsb4 ⊢
 have I3':Inv X pins σ (upd H2 s2.heap.objs.size (.lst [])) s3:=by rw[<-hs3];exact I3
 have hsz3:s3.heap.objs.size=s2.heap.objs.size+1:=by rw[<-hs3];exact zAe ..
 have k23:∀b o,s2.heap.get? b=some o->s3.heap.get? b=some o:=fun b o e=>by rw[<-hs3];exact zK _ e
 have k34:∀b o,s3.heap.get? b=some o->h4.get? b=some o:=fun b o e=>hsb4.extBut b o (zY (zX e)) (zK _ e)
 have nD:∀b∈fp,b≠s2.heap.objs.size:=fun b hb=>zY (fz b hb)
 have f3:∀b∈fp,zFv X pins (upd H2 s2.heap.objs.size (.lst [])) b:=fun b hb=>⟨by rw[zZ (nD b hb)];exact (f2 b hb).1,(f2 b hb).2⟩
 have fz3:∀b∈fp,b<s3.heap.objs.size:=fun b hb=>by rw[hsz3];exact zA0 (fz b hb)
 have I4:Inv (zBM X (X.pn++pins) (own++cn) scope fp s3 (upd H2 s2.heap.objs.size (.lst []))) [] (List.replicate own.length none++cv.map some) (upd H2 s2.heap.objs.size (.lst [])) { s3 with heap:=h4,toks:=s3.toks+([]:List (Str×Value)).length }:=
  zJv I3' S f3 fz3 rfl hc hv hl hns4 k34
 have st4:tn 0 h4:=T.keep _ _ _ st2 fun b hb o e=>k34 b o (k23 b o e)
 generalize hX:zBM X (X.pn++pins) (own++cn) scope fp s3 (upd H2 s2.heap.objs.size (.lst []))=X' at I4
 have hg':PG X' target g:=by rw[<-hX];exact hg _ _ _ _
 have ht':PTs X' ifs ti:=by rw[<-hX];exact ht _ _ _ _
 have he':PE X' elt te:=by rw[<-hX];exact he _ _ _ _
 have ePr:X'.prog=X.prog:=by rw[<-hX];rfl
 have eW:X'.w=X.w:=by rw[<-hX];rfl
 have eK:X'.K=X.K:=by rw[<-hX];rfl
 have eA:X'.A=X.A:=by rw[<-hX];rfl
 have eE:X'.env=compEnvC scope (zCs X.env.cells scope.names []) s3.heap.objs.size X.env:=by rw[<-hX];rfl
 have eXe:X'.xe=fun _ _=>False:=by rw[<-hX];rfl
 have eC:X'.calm=true:=by rw[<-hX];exact hcalm
 have eex:X'.ex=fp:=by rw[<-hX];rfl
 have epn:X'.pn=X.pn++pins:=by rw[<-hX];rfl
 have es0:X'.s₀=s3:=by rw[<-hX];rfl
 have eH0:X'.H₀=upd H2 s2.heap.objs.size (.lst []):=by rw[<-hX];rfl
 have efs:X'.fs=frs X.stack:=by rw[<-hX];rfl
 have ok':=I4.ok
 have stat:∀{H':Hp},(∀b∈fp,H' b=none)->∀b∈fp,zFv X' [] H' b:=fun hn b hb=>by
  have hb':b∈X'.ex:=by rw[eex];exact hb
  refine⟨hn b hb,(ok'.exf b hb').1,ok'.exfs b hb',.inl hb',(ok'.exf b hb').2,fun p hp=>?_⟩
  rw[epn,zAB] at hp
  exact (f2 b hb).2.2.2.2.2 p hp
 have wk:∀(σ2:St),(σ2.length=own.length+cv.length/\σ2.drop own.length=cv.map some)->∀{pl:List (Addr×Obj)}{H':Hp}{s':Shared},Inv X' pl σ2 H' s'->Inv X' pl (List.replicate own.length none++cv.map some) H' s':=fun σ2 hq pl H' s' I'=>by
  refine I'.weak (by rw[hq.1,zI,zAa,zB]) fun i v hi=>?_
  by_cases hlt:i<own.length
  . rw[zN (by simpa using hlt),zBS] at hi
    split at hi <;> cases hi
  . rw[zM (by simpa using hlt),zAa,<-hq.2,List.getElem?_drop] at hi
    rw[show own.length+(i-own.length)=i by omega] at hi
    exact hi
 have loop:codeAny (model X.prog X.w) X.A (.compLoop (.ListComp elt [⟨target,iter,ifs,0⟩] scope pos) 0 (.ref it) (.ref s2.heap.objs.size) (compEnvC scope (zCs X.env.cells scope.names []) s3.heap.objs.size X.env))
  (compPost (model X.prog X.w) X.A X.xe use Q0 (.ref s2.heap.objs.size) s3.heap.objs.size) { s3 with heap:=h4,toks:=s3.toks+([]:List (Str×Value)).length }:=by
  refine zDL (fun n s'=>∃i ys H',Inv X' [] (List.replicate own.length none++cv.map some) H' s'/\tn i s'.heap/\(∀b∈fp,H' b=none)/\W i n ys H') ?_ m0
   ⟨0,[],_,I4,st4,fun b hb=>(f3 b hb).1,w0⟩
  rintro n s5 ⟨i,ys,H5,I5,st5,fr5,w5⟩
  rcases turn i n ys H5 w5 with ⟨stop,qn⟩ | ⟨go,hsz,N,hN,step⟩
  . have d:=T.done X' ePr eW eK eC i [] s5 _ H5 (fun _ _=>False) I5 (stat fr5) st5 stop
    rw[eA] at d
    refine thn d fun r s6 ⟨hr,I6⟩=>?_
    subst hr
    obtain⟨m6,hn6,_⟩:=I6.loc
    rw[eE] at hn6
    have hn6':s6.heap.Ns s3.heap.objs.size m6:=hn6
    have un6:Un (frs X.stack) fp (upd H2 s2.heap.objs.size (.lst [])) H5 s3.heap s6.heap:=by
     have b6:=I6.base
     rw[efs,eex,eH0,es0] at b6
     exact b6
    have os6:s6.os=s3.os:=by have o6:=I6.os;rw[es0] at o6;exact o6
    have hok6:HOk X.prog X.w H5 s6.heap:=by have o6:=I6.hok;rw[ePr,eW] at o6;exact o6
    have I7:Inv X pins σ H5 s6:=I3'.call' (ch:=fp) os6 un6 hok6 I6.bare fun b hb=>⟨(f2 b hb).2.2.2.1,(f2 b hb).2.1,(f2 b hb).2.2.2.2.1,(f2 b hb).2.2.2.2.2⟩
    have fr6:H5 s3.heap.objs.size=none:=by
     have q:=I6.free
     rw[eE] at q
     exact q
    refine fin s2.heap.objs.size s3.heap.objs.size H5 s6 m6 I7 hn6' fr6 (zAM I3'.lt) I3'.sz (fun x c e=>?_) (fun p hp=>?_) qn
    . obtain⟨_,o,ho,_⟩:=I3'.cell x c e
      exact zY (zX ho)
    . exact zY (zX (I3'.pin p hp).1)
  . have d:=T.item X' ePr eW eK eC i [] s5 _ H5 (fun _ _=>False) I5 (stat fr5) st5 go
    rw[eA] at d
    refine thn d fun r s6 ⟨u,hr,h6⟩=>?_
    subst hr
    refine thn h6 fun _ s7 ⟨x,H7,I7,r7,y7,st7,fr7⟩=>?_
    have I7':=I7.pinned (stat fr7) (T.obj _ _ st7)
    have g7:=hg' _ s7 _ H7 x u _ I7' r7 (step x H7 y7)
    rw[ePr,eW,eA,eE,eXe] at g7
    refine thn g7 fun _ s8 ⟨σ8,H8,I8,q8,ti8⟩=>?_
    have t8:=ht' _ s8 σ8 H8 _ I8 ti8
    rw[ePr,eW,eA,eE,eXe] at t8
    refine thn t8 fun ok s9 ⟨H9,I9,q9⟩=>?_
    have again:∀{ys':List V}{H':Hp}{s':Shared},Inv X' ([]++zEM fp s7.heap) σ8 H' s'->N ys' H' ->
     ∃m,m<n/\∃i ys H',Inv X' [] (List.replicate own.length none++cv.map some) H' s'/\tn i s'.heap/\(∀b∈fp,H' b=none)/\W i m ys H':=fun {ys' H' s'} I' n'=>by
     obtain⟨m',hm,w'⟩:=hN ys' H' n'
     refine⟨m',hm,i+1,ys',H',(wk σ8 q8 I').unpinned,T.keep _ _ _ st7 fun b hb o e=>(I'.pin (b,o) (zj _ (zj _ (zCN hb e)))).1,fun b hb=>?_,w'⟩
     obtain⟨o,e,_⟩:=T.obj _ _ st7 b hb
     exact (I'.pin (b,o) (zj _ (zj _ (zCN hb e)))).2.1
    cases ok with
    | false=>exact again I9 q9
    | true=>
     have e9:=he' _ s9 σ8 H9 _ I9 q9
     rw[ePr,eW,eA,eE,eXe] at e9
     refine thn e9 fun u10 s10 ⟨y,H10,I10,r10,hD10,n10⟩=>?_
     have a10:=zBP (X:=X') _ s10 σ8 H10 (.ref s2.heap.objs.size) [y] (.ref s2.heap.objs.size) [u10] (fun _ H'=>N (ys++[y]) H') I10 rfl (.cons r10 .nil) ⟨_,_,_,rfl,rfl,hD10,hsz,n10⟩
     rw[ePr,eW,eA,eXe] at a10
     exact thn a10 fun _ s11 ⟨_,H11,I11,_,n11⟩=>again I11 n11
 exact codeAny_compStart_list loop (T.self X.A 0 _ _ _ st4 loop)
theorem zBA {elt target iter:Expr}{ifs:List Expr}{pos:Pos}{wi:TI}(hcalm:X.calm=true)(S:zD7 X scope)(hc:zDQ X scope cn ci)(hl:cn.length=ci.length)
 (hi:PI X target iter wi)(hg:∀pl fp s3 H3,PG (zBM X pl (own++cn) scope fp s3 H3) target g)(ht:∀pl fp s3 H3,PTs (zBM X pl (own++cn) scope fp s3 H3) ifs ti)
 (he:∀pl fp s3 H3,PE (zBM X pl (own++cn) scope fp s3 H3) elt te)(hs:∀x,foldedSetIterable iter X.env x=pure x:=by intro _;rfl) :
 PE X (.ListComp elt [⟨target,iter,ifs,0⟩] scope pos) (zGw own.length ci wi g ti te):=by
 intro pins s σ H Q I h
 rw[eval_ListComp]
 exact zFl hcalm S hc hl hi hg ht he hs I h fun D C H5 s6 m6 I7 hn fr nL ge nC nP q=>⟨m6,hn,fun h' hs'=>⟨.ref D,H5,I7.turned (t':=s6.toks) (it:=C) (fun b o hb e=>hs'.extBut b o hb e) fr nL (.inr ge) nC nP,rfl,q⟩⟩
theorem zCZ {elt target iter:Expr}{ifs:List Expr}{pos pos' cpos:Pos}{wi:TI}{g:TG}{ti:TT}{te:TE}{i:Nat}{x:Str}(hN:X.N.Nodup)(hix:X.N[i]? = some x)(hx:Loc X.env.scope x)(hcalm:X.calm=true)(S:zD7 X scope)(hc:zDQ X scope cn ci)(hl:cn.length=ci.length)
 (hi:PI X target iter wi)(hg:∀pl fp s3 H3,PG (zBM X pl (own++cn) scope fp s3 H3) target g)(ht:∀pl fp s3 H3,PTs (zBM X pl (own++cn) scope fp s3 H3) ifs ti)
 (he:∀pl fp s3 H3,PE (zBM X pl (own++cn) scope fp s3 H3) elt te)(hs:∀x,foldedSetIterable iter X.env x=pure x:=by intro _;rfl)
 (hsw:swapsWith (.ListComp elt [⟨target,iter,ifs,0⟩] scope cpos) (some (.Name x pos')) pos.line X.env=pure true:=by rfl)
 (hf:X.fn x=true\/X.env.scope.names.lookup x=some .local:=by first | exact .inl rfl | exact .inr rfl | assumption) :
 PS X (.Assign [.Name x pos'] (.ListComp elt [⟨target,iter,ifs,0⟩] scope cpos) pos) (tAsg (zGw own.length ci wi g ti te) (zJo i)):=by
 intro pins s σ H D I h
 rw[exec_Assign_Name_used _ _ _ _ hsw]
 refine zC (wpAny_standAt (zC ?_))
 show wpAny _ X.A (do let _ <-comprehension (.ListComp elt [⟨target,iter,ifs,0⟩] scope cpos) scope X.env _ (newList []) false (eval iter X.env) (some (assign (.Name x pos') X.env))) _ _ s
 refine zC (zBW (zFl (use:=some (assign (.Name x pos') X.env)) (Q0:=fun _ s'=>SP X pins D .next s') hcalm S hc hl hi hg ht he hs I h (fun D' C H5 s6 m6 I7 hn fr nL ge nC nP q=>?_)) (fun _ s' hq=>zH (zH hq)) fun _ _ e=>e)
 obtain⟨oC,es,ep,hoC,hd,r1⟩:=hn
 have nf:C∉X.fs:=fun hb=>by
  obtain⟨_,o,ho,_⟩:=I7.ok.funs.mem hb
  exact absurd (zt (zX ho) ge) (zB3 _)
 have I7':Inv X (pins++[(C,oC)]) σ H5 s6:=I7.pins_of fun p hp=>by
  rcases zu.mp hp with z | z
  . exact I7.pin p (zj _ z)
  . rw[zk.mp z]
    exact⟨hoC,fr,nL,nf,fun v e=>by rw[hd] at e;cases e⟩
 show wpAny _ X.A (assign (.Name x pos') X.env (.ref D')) _ _ s6
 refine wpAny_assign_Name (zDR I7' hN hix hx (show zBi (.ref D') (.ref D') from rfl) (fun s' I'=>?_) hf)
 have hC':=(I'.pin (C,oC) (zj _ (zj _ (zk.mpr rfl)))).1
 refine⟨m6,⟨oC,es,ep,hC',hd,r1⟩,fun h' hs'=>⟨_,H5,?_,q⟩⟩
 have I2:Inv X pins (σ.set i (some (.ref D'))) H5 s':=I'.pins_of fun p hp=>I'.pin p (zj _ (zAE _ hp))
 exact I2.turned (t':=s'.toks) (it:=C) (fun b o hb e=>hs'.extBut b o hb e) fr nL (.inr ge) nC nP
end
noncomputable def cscOk (outer inner:Scope):Bool:=inner.names.all fun y=>(y.2 != .cell) && (y.2 != .local || inner.names.lookup y.1==some .local) && (y.2 != .free || outer.names.lookup y.1==some .cell)
theorem csc {scope:Scope}(hk:scope.kind = .function)(h:cscOk X.env.scope scope=true):zD7 X scope:=by
 have a:=zAy.mp h
 refine⟨hk,fun y hy e=>?_,fun y hy e=>?_,fun y hy e=>?_⟩
 . have:=a y hy
   rw[e] at this
   simp at this
 . have:=a y hy
   rw[e] at this
   simpa using this
 . have:=a y hy
   rw[e] at this
   have h2:X.env.scope.names.lookup y.1=some .cell:=by simpa using this
   exact h2
theorem zBJ {l:List Str}(h:decide l.Nodup=true):l.Nodup:=of_decide_eq_true h
section
variable {X:Cx}{pl:List (Addr×Obj)}{N':List Str}{sc:Scope}{fp:List Addr}{s3:Shared}{H3:Hp}
theorem zBf:IxR (zBM X pl N' sc fp s3 H3) (rIxT X.K):=zAr
theorem zCR:IxR (zBM X pl N' sc fp s3 H3) (rIxL X.K):=zAO
theorem zEp {es:List Expr}{k:Nat}{t:TGs}{n:Nat}{pos:Pos}(hc:X.calm=true)(h:PGs (zBM X pl N' sc fp s3 H3) es t)
 (hn:(assignEach es (zBM X pl N' sc fp s3 H3).env).length=n:=by rfl)(hst:(assignEach es (zBM X pl N' sc fp s3 H3).env).findIdx? (·.1)=none:=by rfl):PG (zBM X pl N' sc fp s3 H3) (.Tuple es k pos) (gTup X.K n t):=zCf hc h hn hst
end
variable {own:Nat}{cv:List V}{D:Addr}{H1:Hp}
theorem zBz {K:PySem.W.Frag}{a:Addr}{xs:List V}(Pv:Nat->List V->Hp->Prop)(h0:Pv 0 [] (upd H1 D (.lst [])))(hl:∀i ys H,Pv i ys H->SqL K H a xs)(hz:∀i ys H,Pv i ys H->ys.length<sizeLine)
 (hs:∀i x ys H,xs[i]? = some x->Pv i ys H->g x (List.replicate own none++cv.map some) H fun σ2 H2=>(σ2.length=own+cv.length/\σ2.drop own=cv.map some) /\
  ti σ2 H2 fun b H3=>if b=true then te σ2 H3 fun y H4=>H4 D=some (.lst ys)/\Pv (i+1) (ys++[y]) (upd H4 D (.lst (ys++[y]))) else Pv (i+1) ys H3)
 (hd:∀ys H,Pv xs.length ys H->Q (.ref D) H) :
 zGs (Itl K a) own cv g ti te D H1 Q:=by
 refine⟨fun i m ys H=>m=xs.length-i/\i<=xs.length/\Pv i ys H,⟨xs.length,rfl,zc _,h0⟩,?_⟩
 rintro i m ys H ⟨rfl,hi,p⟩
 have q:=hl i ys H p
 by_cases hlt:i<xs.length
 . refine .inr ⟨⟨xs,xs[i],q,by simp[hlt]⟩,hz i ys H p,Pv (i+1),fun ys' H' p'=>⟨xs.length-(i+1),by omega,rfl,hlt,p'⟩,fun x H' y=>?_⟩
   obtain⟨e,y⟩:=y
   subst e
   exact hs i x ys _ (y xs q) p
 . have e:i=xs.length:=by omega
   subst e
   exact .inl ⟨⟨xs,q,zL _⟩,hd ys H p⟩
theorem zBN {K:PySem.W.Frag}{a:Addr}{xs:List V}(Pv:Nat->List V->Hp->Prop)(h0:Pv 0 [] (upd H1 D (.lst [])))(hl:∀i ys H,Pv i ys H->SqT K H a xs)(hz:∀i ys H,Pv i ys H->ys.length<sizeLine)
 (hs:∀i x ys H,xs[i]? = some x->Pv i ys H->g x (List.replicate own none++cv.map some) H fun σ2 H2=>(σ2.length=own+cv.length/\σ2.drop own=cv.map some) /\
  ti σ2 H2 fun b H3=>if b=true then te σ2 H3 fun y H4=>H4 D=some (.lst ys)/\Pv (i+1) (ys++[y]) (upd H4 D (.lst (ys++[y]))) else Pv (i+1) ys H3)
 (hd:∀ys H,Pv xs.length ys H->Q (.ref D) H) :
 zGs (Itt K a) own cv g ti te D H1 Q:=by
 refine⟨fun i m ys H=>m=xs.length-i/\i<=xs.length/\Pv i ys H,⟨xs.length,rfl,zc _,h0⟩,?_⟩
 rintro i m ys H ⟨rfl,hi,p⟩
 have q:=hl i ys H p
 by_cases hlt:i<xs.length
 . refine .inr ⟨⟨xs,xs[i],q,by simp[hlt]⟩,hz i ys H p,Pv (i+1),fun ys' H' p'=>⟨xs.length-(i+1),by omega,rfl,hlt,p'⟩,fun x H' y=>?_⟩
   obtain⟨e,y⟩:=y
   subst e
   exact hs i x ys _ (y xs q) p
 . have e:i=xs.length:=by omega
   subst e
   exact .inl ⟨⟨xs,q,zL _⟩,hd ys H p⟩
theorem zBe {lo:Int}{n:Nat}(Pv:Nat->List V->Hp->Prop)(h0:Pv 0 [] (upd H1 D (.lst [])))(hz:∀i ys H,Pv i ys H->ys.length<sizeLine)
 (hs:∀i ys H,i<n->Pv i ys H->g (.int (lo+i)) (List.replicate own none++cv.map some) H fun σ2 H2=>(σ2.length=own+cv.length/\σ2.drop own=cv.map some) /\
  ti σ2 H2 fun b H3=>if b=true then te σ2 H3 fun y H4=>H4 D=some (.lst ys)/\Pv (i+1) (ys++[y]) (upd H4 D (.lst (ys++[y]))) else Pv (i+1) ys H3)
 (hd:∀ys H,Pv n ys H->Q (.ref D) H) :
 zGs (Itr lo n) own cv g ti te D H1 Q:=by
 refine⟨fun i m ys H=>m=n-i/\i<=n/\Pv i ys H,⟨n,rfl,zc _,h0⟩,?_⟩
 rintro i m ys H ⟨rfl,hi,p⟩
 by_cases hlt:i<n
 . refine .inr ⟨hlt,hz i ys H p,Pv (i+1),fun ys' H' p'=>⟨n-(i+1),by omega,rfl,hlt,p'⟩,fun x H' y=>?_⟩
   obtain⟨e,y⟩:=y
   subst e
   subst y
   exact hs i ys _ hlt p
 . have e:i=n:=by omega
   subst e
   exact .inl ⟨zL _,hd ys H p⟩
end L2
namespace SortT
open PySem.W PyProof.Rows
noncomputable def ev {α:Type}(lt:Nat->Nat->Bool):KasT α->α
 | .ret a=>a
 | .ask i j k=>ev lt (k (lt i j))
theorem zDE {α β:Type}(lt:Nat->Nat->Bool)(f:α->KasT β):∀t:KasT α,ev lt (t.bind f)=ev lt (f (ev lt t))
 | .ret _=>rfl
 | .ask i j k=>zDE lt f (k (lt i j))
variable {p:Array Nat}{i j nrem:Nat}
section
variable {O:KeyOrd}{key:Nat->O.α}
noncomputable def kk (key:Nat->O.α)(p:Array Nat)(i:Nat):O.α:=key (p.getD i 0)
noncomputable def Sr (key:Nat->O.α)(p:Array Nat)(n:Nat):Prop:=∀i j,i<=j->j<n->O.kle (kk key p i) (kk key p j)
noncomputable def Fl (key:Nat->O.α)(p:Array Nat)(n:Nat):Prop:=∀i j,i<=j->j<n->O.kle (kk key p j) (kk key p i)
theorem zC2 {q:Array Nat}(h:p[i]? = q[j]?):kk key p i=kk key q j:=by
 unfold kk;rw[Array.getD_eq_getD_getElem?,Array.getD_eq_getD_getElem?,h]
theorem zIN (hj:j<=p.size)(k:Nat):kk key (kas_rev p i j) k=if i<=k/\k<j then kk key p (i+j-1-k) else kk key p k:=by
 have e:=getElem?_mirror_all (i:=i) hj k
 unfold kas_rev
 by_cases h1:i<=k/\k<j
 . rw[if_pos h1] at e ⊢;exact zC2 e
 . rw[if_neg h1] at e ⊢;exact zC2 e
theorem zDq (hj:j<=p.size)(he:∀k,i<=k->k<j->kk key p k=kk key p (j-1))(k:Nat):kk key (kas_rev p i j) k=kk key p k:=by
 rw[zIN hj]
 split
 . rw[he _ (by omega) (by omega),he k (by omega) (by omega)]
 . rfl
theorem zFY {src d:Nat}(hs:src<p.size)(hd:d<=src)(k:Nat) :
 kk key (bubble p src d) k=if k=src-d then kk key p src else if src-d<k/\k<=src then kk key p (k-1) else kk key p k:=by
 have e:=getElem?_bubble hs d hd k
 by_cases h1:k=src-d
 . rw[if_pos h1] at e ⊢;exact zC2 e
 . rw[if_neg h1] at e ⊢
   by_cases h2:src-d<k/\k<=src
   . rw[if_pos h2] at e ⊢;exact zC2 e
   . rw[if_neg h2] at e ⊢;exact zC2 e
noncomputable def lt_ (key:Nat->O.α)(i j:Nat):Bool:=O.blt (key i) (key j)
theorem zCG (p:Array Nat)(i j:Nat):(kas_rev p i j).Perm p:=mirror_perm _ _ _ _
theorem zEl (p:Array Nat)(i j:Nat):(kas_rev p i j).size=p.size:=(zCG p i j).size_eq
theorem zIx {p:Array Nat}:∀(f n:Nat),1<=n->Sr key p n->∃m,ev (lt_ key) (kas_asc p f n)=m/\n<=m/\m<=n+f/\Sr key p m/\(m=n+f\/O.klt (kk key p m) (kk key p (m-1)))
 | 0,n,_,hs=>⟨n,rfl,zL _,zL _,hs,.inl rfl⟩
 | f+1,n,h1,hs=>by
  show ∃m,ev (lt_ key) (if lt_ key (p.getD n 0) (p.getD (n-1) 0)=true then KasT.ret n else kas_asc p f (n+1))=m/\_
  cases hl:lt_ key (p.getD n 0) (p.getD (n-1) 0) with
  | true=>exact⟨n,by simp[ev],zL _,by omega,hs,.inr hl⟩
  | false=>
   have hs':Sr key p (n+1):=fun i j hij hj=>by
    by_cases hjn:j<n
    . exact hs i j hij hjn
    . have hj':j=n:=by omega
      subst hj'
      by_cases hi':i=j
      . subst hi';exact KeyOrd.kle_refl _
      . exact KeyOrd.kle_trans (hs i (j-1) (by omega) (by omega)) hl
   obtain⟨m,e,a,b,c,d⟩:=zIx f (n+1) (by omega) hs'
   refine⟨m,by simpa using e,by omega,by omega,c,?_⟩
   rcases d with d | d
   . exact .inl (by omega)
   . exact .inr d
theorem zGJ {n:Nat}(h1:1<=n)(hn:n<=nrem)(hz:nrem<=p.size)(hs:Fl key p n) :
 ∃m q,ev (lt_ key) (kas_tail3 n nrem p)=(m,q)/\q.Perm p/\1<=m/\m<=nrem/\Sr key q m:=by
 unfold kas_tail3
 have hs':Sr key (kas_rev p 0 n) n:=fun i j hij hj=>by
  rw[zIN (by omega),zIN (by omega),if_pos (by omega),if_pos (by omega)]
  exact hs _ _ (by omega) (by omega)
 obtain⟨m,e,a,b,c,_⟩:=zIx (nrem-n) n h1 hs'
 exact⟨m,kas_rev p 0 n,by rw[zDE,e];rfl,zCG _ _ _,by omega,by omega,c⟩
theorem zE1:∀(f n q:Nat)(p:Array Nat),1<=n->n+f<=p.size->Fl key p n->q+1<=n->(∀i,n-(q+1)<=i->i<n->kk key p i=kk key p (n-1)) ->
 ∃p' n' q',ev (lt_ key) (kas_desc f p n q)=(p',n',q')/\p'.Perm p/\n<=n'/\n'<=n+f/\Fl key p' n'/\q'+1<=n'/\(∀i,n'-(q'+1)<=i->i<n'->kk key p' i=kk key p' (n'-1))
 | 0,n,q,p,_,_,hs,hq,he=>⟨p,n,q,rfl,.refl _,zL _,zL _,hs,hq,he⟩
 | f+1,n,q,p,h1,hz,hs,hq,he=>by
  show ∃p' n' q',ev (lt_ key) (if lt_ key (p.getD n 0) (p.getD (n-1) 0)=true then _ else KasT.ask _ _ _)=(p',n',q')/\_
  cases hl:lt_ key (p.getD n 0) (p.getD (n-1) 0) with
  | true=>
   have step:∀xs:Array Nat,(∀k,kk key xs k=kk key p k)->Fl key xs (n+1):=fun xs hk i j hij hj=>by
    rw[hk,hk]
    by_cases hjn:j<n
    . exact hs i j hij hjn
    . have hj':j=n:=by omega
      subst hj'
      by_cases hi':i=j
      . subst hi';exact KeyOrd.kle_refl _
      . exact KeyOrd.kle_trans (KeyOrd.kle_of_klt hl) (hs i (j-1) (by omega) (by omega))
   by_cases hq0:q > 0
   . have hk:=zDq (key:=key) (p:=p) (i:=n-(q+1)) (j:=n) (by omega) he
     obtain⟨p',n',q',e,a,b,c,d⟩:=zE1 f (n+1) 0 (kas_rev p (n-(q+1)) n) (by omega) (by rw[zEl];omega) (step _ hk) (by omega) (fun i h1 h2=>by congr 1;omega)
     exact⟨p',n',q',by simpa [hq0] using e,a.trans (zCG _ _ _),by omega,by omega,d⟩
   . obtain⟨p',n',q',e,a,b,c,d⟩:=zE1 f (n+1) 0 p (by omega) (by omega) (step _ fun _=>rfl) (by omega) (fun i h1 h2=>by congr 1;omega)
     exact⟨p',n',q',by simpa [hq0] using e,a,by omega,by omega,d⟩
  | false=>
   show ∃p' n' q',ev (lt_ key) (if lt_ key (p.getD (n-1) 0) (p.getD n 0)=true then KasT.ret (p,n,q) else kas_desc f p (n+1) (q+1))=(p',n',q')/\_
   cases hr:lt_ key (p.getD (n-1) 0) (p.getD n 0) with
   | true=>exact⟨p,n,q,by simp[ev],.refl _,zL _,by omega,hs,hq,he⟩
   | false=>
    have heq:kk key p n=kk key p (n-1):=KeyOrd.kle_antisymm hr hl
    have hs':Fl key p (n+1):=fun i j hij hj=>by
     by_cases hjn:j<n
     . exact hs i j hij hjn
     . have hj':j=n:=by omega
       subst hj'
       by_cases hi':i=j
       . subst hi';exact KeyOrd.kle_refl _
       . rw[heq];exact hs i (j-1) (by omega) (by omega)
    obtain⟨p',n',q',e,a,b,c,d⟩:=zE1 f (n+1) (q+1) p (by omega) (by omega) hs' (by omega) (fun i h1 h2=>by
     rw[show n+1-1=n by omega]
     by_cases hix:i=n
     . subst hix;rfl
     . rw[heq];exact he i (by omega) (by omega))
    exact⟨p',n',q',by simpa using e,a,by omega,by omega,d⟩
theorem zD0 {n:Nat}(hn:n+1<=nrem)(hz:nrem<=p.size)(hs:Fl key p (n+1)) :
 ∃m q,ev (lt_ key) (kas_descPart n nrem p)=(m,q)/\q.Perm p/\1<=m/\m<=nrem/\Sr key q m:=by
 unfold kas_descPart
 rw[zDE]
 obtain⟨p',n',q',e,a,b,c,d,hq,he⟩:=zE1 (nrem-(n+1)) (n+1) 0 p (by omega) (by omega) hs (by omega) (fun i h1 h2=>by congr 1;omega)
 rw[e]
 dsimp only
 have hz':p'.size=p.size:=a.size_eq
 by_cases hq0:q' > 0
 . rw[if_pos hq0]
   have hk:=zDq (key:=key) (p:=p') (i:=n'-(q'+1)) (j:=n') (by omega) he
   obtain⟨m,r,e2,a2,b2,c2,d2⟩:=zGJ (key:=key) (p:=kas_rev p' (n'-(q'+1)) n') (n:=n') (nrem:=nrem) (by omega) (by omega) (by rw[zEl];omega) (fun i j hij hj=>by rw[hk,hk];exact d i j hij hj)
   exact⟨m,r,e2,a2.trans ((zCG _ _ _).trans a),b2,c2,d2⟩
 . rw[if_neg hq0]
   obtain⟨m,r,e2,a2,b2,c2,d2⟩:=zGJ (key:=key) (p:=p') (n:=n') (nrem:=nrem) (by omega) (by omega) (by omega) d
   exact⟨m,r,e2,a2.trans a,b2,c2,d2⟩
theorem zJu (h1:1<=nrem)(hz:nrem<=p.size):∃m q,ev (lt_ key) (kas_count nrem p)=(m,q)/\q.Perm p/\1<=m/\m<=nrem/\Sr key q m:=by
 unfold kas_count
 rw[zDE]
 obtain⟨n,e,a,b,hsn,hor⟩:=zIx (key:=key) (p:=p) (nrem-1) 1 (zL _) (fun i j hij hj=>by have:i=j:=(by omega);subst this;exact KeyOrd.kle_refl _)
 rw[e]
 by_cases hnn:n=nrem
 . rw[if_pos (by simpa using hnn)]
   exact⟨n,p,rfl,.refl _,a,by omega,hsn⟩
 . rw[if_neg (by simpa using hnn)]
   have hlt:O.klt (kk key p n) (kk key p (n-1)):=hor.resolve_left (by omega)
   by_cases hgt:n > 1
   . rw[if_pos hgt]
     show ∃m q,ev (lt_ key) (if lt_ key (p.getD 0 0) (p.getD (n-1) 0)=true then KasT.ret (n,p) else kas_descPart n nrem (kas_rev p 0 n))=(m,q)/\_
     cases hr:lt_ key (p.getD 0 0) (p.getD (n-1) 0) with
     | true=>exact⟨n,p,by simp[ev],.refl _,a,by omega,hsn⟩
     | false=>
      have hall:∀k,0<=k->k<n->kk key p k=kk key p (n-1):=fun k _ hk=>
       KeyOrd.kle_antisymm (hsn k (n-1) (by omega) (by omega)) (KeyOrd.kle_trans hr (hsn 0 k (by omega) hk))
      have hk:=zDq (key:=key) (p:=p) (i:=0) (j:=n) (by omega) hall
      obtain⟨m,q,e2,a2,b2,c2,d2⟩:=zD0 (key:=key) (p:=kas_rev p 0 n) (n:=n) (nrem:=nrem) (by omega) (by rw[zEl];omega) (fun i j hij hj=>by
       rw[hk,hk]
       by_cases hjn:j<n
       . rw[hall i (by omega) (by omega),hall j (by omega) hjn];exact KeyOrd.kle_refl _
       . have hj':j=n:=by omega
         subst hj'
         by_cases hi':i=j
         . subst hi';exact KeyOrd.kle_refl _
         . rw[hall i (by omega) (by omega)];exact KeyOrd.kle_of_klt hlt)
      exact⟨m,q,by simpa using e2,a2.trans (zCG _ _ _),b2,c2,d2⟩
   . rw[if_neg hgt]
     have hn1:n=1:=by omega
     subst hn1
     refine zD0 (by omega) hz fun i j hij hj=>?_
     by_cases hi':i=j
     . subst hi';exact KeyOrd.kle_refl _
     . have hi0:i=0:=by omega
       have hj1:j=1:=by omega
       subst hi0;subst hj1
       exact KeyOrd.kle_of_klt hlt
theorem zEo {p:Array Nat}{k:Nat}(hs:Sr key p k):∀(f l r:Nat),l<=r->r<=k->r-l<=f->(∀i,i<l->O.kle (kk key p i) (kk key p k))->(∀i,r<=i->i<k->O.klt (kk key p k) (kk key p i)) ->
 ∃m,ev (lt_ key) (kas_place p k f l r)=m/\m<=k/\(∀i,i<m->O.kle (kk key p i) (kk key p k))/\(∀i,m<=i->i<k->O.klt (kk key p k) (kk key p i))
 | 0,l,r,hlr,hrk,hf,hlo,hhi=>⟨l,rfl,by omega,hlo,fun i h1 h2=>hhi i (by omega) h2⟩
 | f+1,l,r,hlr,hrk,hf,hlo,hhi=>by
  unfold kas_place
  by_cases hge:l ≥ r
  . rw[if_pos hge]
    exact⟨l,rfl,by omega,hlo,fun i h1 h2=>hhi i (by omega) h2⟩
  . rw[if_neg hge]
    show ∃m,ev (lt_ key) (if lt_ key (p.getD k 0) (p.getD ((l+r)/2) 0)=true then kas_place p k f l ((l+r)/2) else kas_place p k f ((l+r)/2+1) r)=m/\_
    cases hl:lt_ key (p.getD k 0) (p.getD ((l+r)/2) 0) with
    | true=>
     obtain⟨m,e,x⟩:=zEo hs f l ((l+r)/2) (by omega) (by omega) (by omega) hlo (fun i h1 h2=>KeyOrd.klt_of_klt_of_kle hl (hs _ _ h1 h2))
     exact⟨m,by simpa using e,x⟩
    | false=>
     obtain⟨m,e,x⟩:=zEo hs f ((l+r)/2+1) r (by omega) (by omega) (by omega) (fun i h1=>KeyOrd.kle_trans (hs i ((l+r)/2) (by omega) (by omega)) (show O.kle _ _ from hl)) hhi
     exact⟨m,by simpa using e,x⟩
theorem zKP:∀(f:Nat)(p:Array Nat)(k:Nat),k+f=p.size->Sr key p k->∃q,ev (lt_ key) (kas_bin f p k)=q/\q.Perm p/\Sr key q (k+f)
 | 0,p,k,_,hs=>⟨p,rfl,.refl _,hs⟩
 | f+1,p,k,hz,hs=>by
  unfold kas_bin
  rw[zDE]
  obtain⟨l,e,hlk,hlo,hhi⟩:=zEo (key:=key) hs k 0 k (by omega) (by omega) (by omega) (fun i h=>by omega) (fun i h1 h2=>by omega)
  rw[e]
  have hs':Sr key (bubble p k (k-l)) (k+1):=fun i j hij hj=>by
   rw[zFY (by omega) (by omega),zFY (by omega) (by omega),show k-(k-l)=l by omega]
   repeat' split
   all_goals first
    | (exfalso;omega)
    | exact KeyOrd.kle_refl _
    | exact hlo _ (by omega)
    | exact KeyOrd.kle_of_klt (hhi _ (by omega) (by omega))
    | exact hs _ _ (by omega) (by omega)
  obtain⟨q,e2,a,b⟩:=zKP f (bubble p k (k-l)) (k+1) (by rw[(bubble_perm p k (k-l)).size_eq];omega) hs'
  exact⟨q,e2,a.trans (bubble_perm _ _ _),by rw[show k+(f+1)=k+1+f by omega];exact b⟩
theorem zKj (n:Nat)(h1:1<=n):∃q,ev (lt_ key) (kas_sort n)=q/\q.Perm (List.range n).toArray/\Sr key q n:=by
 unfold kas_sort
 rw[zDE]
 have hz:(List.range n).toArray.size=n:=by simp
 obtain⟨m,q,e,a,b,c,d⟩:=zJu (key:=key) (p:=(List.range n).toArray) h1 (by omega)
 rw[e]
 dsimp only
 have hq:q.size=n:=by rw[a.size_eq,hz]
 by_cases hm:m<n
 . rw[if_pos hm]
   obtain⟨r,e2,a2,b2⟩:=zKP (key:=key) (n-max m 1) q (max m 1) (by omega) (by rw[show max m 1=m by omega];exact d)
   exact⟨r,e2,a2.trans a,by rw[show max m 1+(n-max m 1)=n by omega] at b2;exact b2⟩
 . rw[if_neg hm]
   have:m=n:=by omega
   subst this
   exact⟨q,rfl,a,d⟩
end
end SortT
namespace SortT
open PySem.W PyProof.Rows
noncomputable def zEI {α:Type}(n:Nat)(R:α->Prop):KasT α->Prop
 | .ret a=>R a
 | .ask i j k=>i<n/\j<n/\∀b,zEI n R (k b)
theorem zEI.bind {α β:Type}{n:Nat}{R:α->Prop}{R':β->Prop}{f:α->KasT β}(hf:∀a,R a->zEI n R' (f a)):∀(t:KasT α),zEI n R t->zEI n R' (t.bind f)
 | .ret a,h=>hf a h
 | .ask _ _ k,h=>⟨h.1,h.2.1,fun b=>zEI.bind hf (k b) (h.2.2 b)⟩
noncomputable def Bd (n:Nat)(p:Array Nat):Prop:=∀i,p.getD i 0<n
variable {n:Nat}{p:Array Nat}
theorem Bd.perm {q:Array Nat}(h:Bd n q)(hp:p.Perm q):Bd n p:=fun i=>by
 have h0:0<n:=zAD (zc _) (h 0)
 by_cases hi:i<p.size
 . have e:p.getD i 0=p[i]:=by simp[Array.getD,hi]
   rw[e]
   have hm:p[i]∈q.toList:=(Array.perm_iff_toList_perm.mp hp).mem_iff.mp (by simp)
   obtain⟨j,hj,ej⟩:=zd hm
   have hj':j<q.size:=by simpa using hj
   have:=h j
   rw[show q.getD j 0=q[j] by simp[Array.getD,hj']] at this
   rw[<-ej]
   simpa using this
 . have e:p.getD i 0=0:=by simp[Array.getD,hi]
   rw[e];exact h0
theorem zGF {n:Nat}{p:Array Nat}(hp:Bd n p):∀f m,zEI n (fun _=>True) (kas_asc p f m)
 | 0,_=>trivial
 | f+1,m=>⟨hp _,hp _,fun b=>by
  cases b with
  | true=>exact trivial
  | false=>exact zGF hp f (m+1)⟩
theorem zDY {n:Nat}:∀(f:Nat)(p:Array Nat)(m q:Nat),Bd n p->zEI n (fun r=>Bd n r.1) (kas_desc f p m q)
 | 0,_,_,_,hp=>hp
 | f+1,p,m,q,hp=>⟨hp _,hp _,fun b=>by
  cases b with
  | true=>
   show zEI n _ (if q > 0 then kas_desc f (kas_rev p (m-(q+1)) m) (m+1) 0 else kas_desc f p (m+1) 0)
   split
   . exact zDY f _ _ _ (hp.perm (zCG _ _ _))
   . exact zDY f _ _ _ hp
  | false=>
   refine⟨hp _,hp _,fun d=>?_⟩
   cases d with
   | true=>exact hp
   | false=>exact zDY f _ _ _ hp⟩
variable {nrem:Nat}
theorem zFC {m:Nat}(hp:Bd n p):zEI n (fun r=>Bd n r.2) (kas_tail3 m nrem p):=by
 unfold kas_tail3
 exact zEI.bind (R:=fun _=>True) (R':=fun r=>Bd n r.2) (f:=fun k=>KasT.ret (k,kas_rev p 0 m)) (fun a _=>hp.perm (zCG p 0 m)) _ (zGF (hp.perm (zCG p 0 m)) _ _)
theorem zDK {m:Nat}(hp:Bd n p):zEI n (fun r=>Bd n r.2) (kas_descPart m nrem p):=
 zEI.bind (fun r hr=>by
  split
  . exact zFC (hr.perm (zCG _ _ _))
  . exact zFC hr) _ (zDY _ _ _ _ hp)
theorem zIm (hp:Bd n p):zEI n (fun r=>Bd n r.2) (kas_count nrem p):=
 zEI.bind (fun r _=>by
  split
  . exact hp
  . split
    . refine⟨hp _,hp _,fun b=>?_⟩
      cases b with
      | true=>exact hp
      | false=>exact zDK (hp.perm (zCG _ _ _))
    . exact zDK hp) _ (zGF hp _ _)
theorem zDi {n k:Nat}{p:Array Nat}(hp:Bd n p):∀f l r,zEI n (fun _=>True) (kas_place p k f l r)
 | 0,_,_=>trivial
 | f+1,l,r=>by
  unfold kas_place
  split
  . exact trivial
  . refine⟨hp _,hp _,fun b=>?_⟩
    cases b with
    | true=>exact zDi hp f _ _
    | false=>exact zDi hp f _ _
theorem zIu {n:Nat}:∀(f:Nat)(p:Array Nat)(k:Nat),Bd n p->zEI n (fun _=>True) (kas_bin f p k)
 | 0,_,_,_=>trivial
 | f+1,p,k,hp=>zEI.bind (fun l _=>zIu f _ _ (hp.perm (bubble_perm _ _ _))) _ (zDi hp _ _ _)
theorem zJI (h:0<n):zEI n (fun _=>True) (kas_sort n):=
 zEI.bind (fun r hr=>by
  split
  . exact zIu _ _ _ hr
  . exact trivial) _ (zIm fun i=>by
    by_cases hi:i<n
    . simp[Array.getD,hi]
    . simp[Array.getD,hi];exact h)
end SortT
namespace SortT
open PySem PySem.W PySem.Calls PyProof.Rows
theorem wp_ev {α:Type}{cmp:Nat->Nat->(Bool->Shared->Prop)->Shared->Prop}{lt:Nat->Nat->Bool}{n:Nat}{s:Shared}(hc:∀i j C,i<n->j<n->C (lt i j) s->cmp i j C s){R:α->Prop}{Q:α->Shared->Prop} :
 ∀t:KasT α,zEI n R t->Q (ev lt t) s->t.kasWp cmp Q s
 | .ret _,_,h=>h
 | .ask i j k,w,h=>hc i j _ w.1 w.2.1 (wp_ev hc (k (lt i j)) (w.2.2 _) h)
variable {O:KeyOrd}
section
variable {prog:Program}{w:World}{A:Around}{E:Value->Shared->Prop}{s:Shared}
structure Put {O:KeyOrd}(key:Nat->O.α)(n:Nat)(out:List Nat):Prop where
 perm:out.Perm (List.range n)
 rise:∀(i j a b:Nat),i<=j->out[i]? = some a->out[j]? = some b->O.kle (key a) (key b)
theorem put_of {key:Nat->O.α}{n:Nat}{q:Array Nat}(hp:q.Perm (List.range n).toArray)(hs:Sr key q n):Put key n q.toList:=by
 have hl:q.toList.Perm (List.range n):=Array.perm_iff_toList_perm.mp hp
 refine⟨hl,fun i j a b hij ha hb=>?_⟩
 have hz:q.size=n:=by have:=hp.size_eq;simpa using this
 have hj:j<q.toList.length:=(zE.mp hb).1
 have hj':j<n:=by rw[<-hz];simpa using hj
 have h:=hs i j hij hj'
 have ga:q.getD i 0=a:=by
  rw[Array.getD_eq_getD_getElem?,<-Array.getElem?_toList,ha];rfl
 have gb:q.getD j 0=b:=by
  rw[Array.getD_eq_getD_getElem?,<-Array.getElem?_toList,hb];rfl
 unfold kk at h
 rw[ga,gb] at h
 exact h
structure Asks (prog:Program)(w:World)(A:Around)(s:Shared)(a:Addr)(vs:List Value){O:KeyOrd}(key:Nat->O.α)(κ:SortKind):Prop where
 kind:∀(h':Heap)(Q:SortKind->Shared->Prop)(E:Value->Shared->Prop),(∀b o,b≠a->s.heap.get? b=some o->h'.get? b=some o)->Q κ { s with heap:=h' }->wpAny (model prog w) A (keyKind' vs.toArray) Q E { s with heap:=h' }
 less:∀(h':Heap)(i j:Nat)(Q:Bool->Shared->Prop)(E:Value->Shared->Prop),(∀b o,b≠a->s.heap.get? b=some o->h'.get? b=some o)->i<vs.length->j<vs.length->Q (O.blt (key i) (key j)) { s with heap:=h' } ->
  wpAny (model prog w) A (keyLt' κ (vs.getD i Value.none) (vs.getD j Value.none)) Q E { s with heap:=h' }
theorem zFV {a:Addr}{vs:List Value}{n:Nat}{P:PySem.Fin->Shared->Prop}{key:Nat->O.α}{κ:SortKind}(ho:s.heap.get? a=some (seqObj "list" vs.toArray n)) (h64:vs.length<64)
 (ask:2<=vs.length->Asks prog w A s a vs key κ)
 (h:∀out:List Nat,Put key vs.length out->P (.done (.ret .none)) { s with heap:=sortedHeap s.heap a vs (out.map fun i=>vs.getD i Value.none).toArray }) :
 wpAny (model prog w) A (Builtin.«list.sort» ⟨[.ref a],[]⟩) P E s:=by
 rw[list_sort_plain]
 have ha:a<s.heap.objs.size:=zX ho
 refine zC (listItems_at ho rfl ?_)
 refine zC (listUpdate_at ho rfl ?_ (by rw[zP,sizeLine_eq];omega) (zc _))
 obtain⟨e1,ho1⟩:∃e1,(s.heap.update a (Obj.mapSeq fun _=>#[])).get? a=some (seqObj "list" #[] e1):=⟨_,get?_update_seq ho (fun _=>#[])⟩
 refine zC (seqEpoch_at ho1 rfl ?_)
 refine zC (wpAny_newTuple ?_ (by show vs.length<=_;rw[sizeLine_eq];omega))
 refine zC (wpAny_newList ?_ (zc _))
 refine zAY ?_
 have ho6:(((s.heap.update a (Obj.mapSeq fun _=>#[])).push (seqObj "tuple" vs.toArray 0)).push (seqObj "list" #[] 0)).get? a=some (seqObj "list" #[] e1):=by
  rw[Heap.get?_push_ne _ _ _ (by rw[size_push',Heap.size_update];exact zY (zA0 ha)),Heap.get?_push_ne _ _ _ (by rw[Heap.size_update];exact zY ha)]
  exact ho1
 have keep:∀b o,b≠a->s.heap.get? b=some o->(((s.heap.update a (Obj.mapSeq fun _=>#[])).push (seqObj "tuple" vs.toArray 0)).push (seqObj "list" #[] 0)).get? b=some o:=fun b o hb e=>by
  refine zK _ (zK _ ?_)
  rw[Heap.get?_update_ne _ _ _ _ hb]
  exact e
 show wpAny (model prog w) A _ P E { s with heap:=((s.heap.update a (Obj.mapSeq fun _=>#[])).push (seqObj "tuple" vs.toArray 0)).push (seqObj "list" #[] 0) }
 dsimp only
 by_cases h2:vs.toArray.size<2
 . rw[if_pos h2,if_pos h2]
   refine zC (zH ?_)
   rw[StateT.run_pure]
   refine zC (zH ?_)
   dsimp only
   refine zC (seqEpoch_at ho6 rfl ?_)
   refine zC (listUpdate_at ho6 rfl ?_ (zc _) (by rw[Array.size_map];show (pairsOf vs).size<=_;rw[pairsOf_size,sizeLine_eq];omega))
   simp only[bne_self_eq_false,zBr,if_false]
   refine zH ?_
   have hlen:vs.length<2:=by simpa using h2
   have hout:(arrOf (SortSt.mk' general' (vs.toArray.zip vs.toArray) #[] 7 none)).map (·.2)=((List.range vs.length).map fun i=>vs.getD i Value.none).toArray:=by
    show (vs.toArray.zip vs.toArray).map (·.2)=_
    match vs,hlen with
    | [],_=>simp
    | [v],_=>simp
    | _::_::_,h=>exfalso;simp only[zAG] at h;omega
   have fin:=h (List.range vs.length) ⟨.refl _,fun i j x y hij hx hy=>by
    have hj:j<(List.range vs.length).length:=(zE.mp hy).1
    rw[zAn] at hj
    have e:i=j:=by omega
    subst e
    rw[hx] at hy
    cases hy
    exact KeyOrd.kle_refl _⟩
   rw[<-hout] at fin
   exact fin
 . rw[if_neg h2,if_neg h2]
   have h2':2<=vs.length:=by
    have:¬ vs.length<2:=by simpa using h2
    omega
   have K:=ask h2'
   refine zC (K.kind _ _ _ keep ?_)
   obtain⟨q,eq,hp,hs⟩:=zKj (key:=key) vs.length (by omega)
   have run:(kas_sort vs.length).kasWp (kas_ask prog w A κ vs) (fun p s'=>p=q/\s'={ s with heap:=((s.heap.update a (Obj.mapSeq fun _=>#[])).push (seqObj "tuple" vs.toArray 0)).push (seqObj "list" #[] 0) })
    { s with heap:=((s.heap.update a (Obj.mapSeq fun _=>#[])).push (seqObj "tuple" vs.toArray 0)).push (seqObj "list" #[] 0) }:=
    wp_ev (lt:=lt_ key) (n:=vs.length) (fun i j C hi hj hC=>K.less _ i j C _ keep hi hj hC) _ (zJI (by omega)) ⟨eq,rfl⟩
   refine zC (zBW (kat_run (ks:=vs) (vs:=vs) (Q:=fun st' s'=>∃p:Array Nat,p.size=vs.length/\arrOf st'=p.map (kas_item (vs.toArray.zip vs.toArray))/\failedOf st'=none/\p=q/\s'={ s with heap:=((s.heap.update a (Obj.mapSeq fun _=>#[])).push (seqObj "tuple" vs.toArray 0)).push (seqObj "list" #[] 0) })
    rfl h2' h64 (fun p' st' s' a1 a2 a3 a4=>⟨p',a1,a2,a3,a4⟩) run) ?_ fun _ _ e=>e)
   rintro ⟨⟨⟩,st'⟩ s' ⟨p,hsz,har,hf,rfl,rfl⟩
   dsimp only
   refine zC (seqEpoch_at ho6 rfl ?_)
   refine zC (listUpdate_at ho6 rfl ?_ (zc _) (by rw[Array.size_map,har,Array.size_map,hsz,sizeLine_eq];omega))
   rw[hf]
   simp only[bne_self_eq_false,zBr,if_false]
   refine zH ?_
   have hout:=kat_snds (ks:=vs) (vs:=vs) rfl har
   have fin:=h p.toList (put_of hp hs)
   rw[<-hout] at fin
   exact fin
theorem sorted_list {l:Addr}{vs:List Value}{Q:Value->Shared->Prop}{key:Nat->O.α}{κ:SortKind}(hl:s.heap.IsList l vs.toArray)(h64:vs.length<64)
 (ask:2<=vs.length->∀(s':Shared)(a:Addr),(∀b o,s.heap.get? b=some o->b≠a)->(∀b o,s.heap.get? b=some o->s'.heap.get? b=some o)->Asks prog w A.in1.in1 s' a vs key κ)
 (h:∀(D:Addr)(h':Heap)(out:List Nat)(c:Nat),Put key vs.length out->s.heap.objs.size<=D->(∀b o,s.heap.get? b=some o->h'.get? b=some o) ->
  h'.get? D=some (seqObj "list" (out.map fun i=>vs.getD i Value.none).toArray c)->Q (.ref D) { s with heap:=h' }) :
 wpAny (model prog w) A (call (.builtin "sorted") [.ref l]) Q E s:=by
 refine Calls.call_function_entry kind_sorted plain_sorted entry_sorted (args_sorted1 _) ?_
 unfold Builtin.«sorted»
 refine zC (m:=checkCount "sorted" 1 1 _) (zH ?_)
 refine zC (collect_list hl ?_ (by rw[sizeLine_eq];omega))
 refine zC (wpAny_newList ?_ (by rw[sizeLine_eq];omega))
 have hsz:((s.heap.push (seqObj "list" #[] 0)).update s.heap.objs.size (Obj.mapSeq (· ++ vs.toArray))).objs.size=s.heap.objs.size+1:=by
  rw[Heap.size_update,size_push']
 have hoL:(((s.heap.push (seqObj "list" #[] 0)).update s.heap.objs.size (Obj.mapSeq (· ++ vs.toArray))).push (seqObj "list" vs.toArray 0)).get? (s.heap.objs.size+1)=some (seqObj "list" vs.toArray 0):=by
  rw[<-hsz];exact zU _ rfl
 have keep:∀b o,s.heap.get? b=some o->(((s.heap.push (seqObj "list" #[] 0)).update s.heap.objs.size (Obj.mapSeq (· ++ vs.toArray))).push (seqObj "list" vs.toArray 0)).get? b=some o:=fun b o q=>by
  have hlt:b<s.heap.objs.size:=zX q
  rw[Heap.get?_push_ne _ _ _ (by rw[hsz];exact zY (zA0 hlt)),Heap.get?_update_ne _ _ _ _ (zY hlt),Heap.get?_push_ne _ _ _ (zY hlt)]
  exact q
 show wpAny _ _ _ _ _ { s with heap:=((s.heap.push (seqObj "list" #[] 0)).update s.heap.objs.size (Obj.mapSeq (· ++ vs.toArray))).push (seqObj "list" vs.toArray 0) }
 rw[hsz]
 refine zC (zAY (zAx slot_list_sort ⟨_,hoL,rfl⟩ entry_list_sort (zFV (O:=O) (key:=key) (κ:=κ) hoL h64 (fun h2=>ask h2 _ _ (fun b o e=>zY (zA0 (zX e))) keep) fun out hp=>⟨_,rfl,?_⟩) (args_list_sort _)))
 refine zH ⟨_,rfl,?_⟩
 obtain⟨c,hc⟩:=sortedAll_at s.heap vs (out.map fun i=>vs.getD i Value.none).toArray
 exact h _ _ out c hp (zBt _) (fun b o e=>sortedAll_old e) hc
end
end SortT
namespace DRaw
open PySem PySem.W PySem.Calls PyProof.Rows
noncomputable def At (h:Heap)(d:Addr)(es:Array DictEntry)(ep:Nat):Prop:=∃o,h.get? d=some o/\o.ExactDict/\o.data = .dict es ep
variable {es:Array DictEntry}{ep:Nat}
theorem At.keep {h h':Heap}{d:Addr}(x:At h d es ep)(k:∀o,h.get? d=some o->h'.get? d=some o):At h' d es ep:=
 let ⟨o,ho,r⟩:=x;⟨o,k o ho,r⟩
theorem At.lt {h:Heap}{d:Addr}(x:At h d es ep):d<h.objs.size:=let ⟨_,ho,_⟩:=x;zX ho
theorem At.typeIs {s:Shared}{d:Addr}(x:At s.heap d es ep):s.TypeIs (.ref d) "dict" := let ⟨o,ho,hc,_⟩:=x;⟨o,ho,hc.1⟩
variable {Q:Option Value->Shared->Prop}
section
variable {prog:Program}{w:World}{A:Around}{E:Value->Shared->Prop}{s:Shared}{it d:Addr}{es:Array DictEntry}{i ep:Nat}
theorem iter {Q:Value->Shared->Prop}(hd:(d==sysModules)=false)(hm:At s.heap d es ep)
 (hQ:Q (.ref s.heap.objs.size) { s with heap:=s.heap.push { cls:=.type "dict_keyiterator",data:=.fields #[.ref d,.int 0 0,.int es.size 0,.int ep 0] } }) :
 wpAny (model prog w) A (pyIter (.ref d)) Q E s:=by
 obtain⟨o,ho,hc,hdat⟩:=id hm
 have hT:=hm.typeIs
 refine wpAny_pyIter_slot hT F.slot_dict_iter (zAx F.slot_dict_iter hT F.entry_dict_iter ?_ (F.args_dict_iter_1 _))
 unfold Builtin.«dict.__iter__»
 refine zC ?_
 unfold Builtin.Dict.dictSlotNone
 refine zC (wpAny_notOrdered_dict hT ?_)
 show wpAny _ _ (pure (Value.ref d)) _ _ s
 refine zH ?_
 show wpAny _ _ (Builtin.Dict.showsAll d >>= _) _ _ s
 unfold Builtin.Dict.showsAll
 rw[if_neg (by rw[hd];exact zg)]
 refine zC (zH ?_)
 refine zC (wpAny_dictEntries ho hdat ?_)
 refine zC (wpAny_dictEpoch ho hdat ?_)
 refine zC (zAz (zH ⟨_,rfl, "dict_keyiterator",_,⟨_,zU _ rfl,rfl⟩,F.slot_dict_keyiterator_next.lookup,?_⟩))
 simpa [rawInt] using hQ
theorem next (hit:s.heap.IsKeyIter it d i es.size ep)(hm:At s.heap d es ep)(hlt':i<es.size)
 (hQ:∀h',h'.IsKeyIter it d (i+1) es.size ep->Heap.SameBut it s.heap h'->Q (some es[i].key) { s with heap:=h' }):wpAny (model prog w) A (pyNext (.ref it)) Q E s:=by
 obtain⟨o,ho,hc,hd⟩:=id hit
 obtain⟨od,hod,hcd,hdd⟩:=id hm
 unfold pyNext
 refine zC (wpAny_attempt (zAk (name:=Str.ofString "__next__") hit.typeIs F.slot_dict_keyiterator_next
  (zAx F.slot_dict_keyiterator_next hit.typeIs F.entry_dict_keyiterator_next ?_ (F.args_dict_keyiterator_next_1 _))))
 refine zC (zH ?_)
 refine zC ?_
 refine zC ?_
 first | refine zC (zB7 hit.typeIs (zH ?_)) | refine zC (wpAny_typeNameOf_keyiter hit.typeIs (zH ?_))
 refine zC (wpAny_fieldsOf ho hd ?_)
 have hown:Builtin.Dict_items.ownsTuple "dict_keyiterator" = false:=by decide
 simp only[hown,zBr,if_false]
 show wpAny _ _ (if (Value.ref d==Value.none)=true then _ else _) _ _ s
 rw[if_neg (show ¬ ((Value.ref d==Value.none)=true) from zg)]
 refine zC (zH ?_)
 refine zC (wpAny_dictEntries hod hdd ?_)
 rw[if_neg (by simp)]
 refine zC (zH ?_)
 refine zC (wpAny_dictEpoch hod hdd ?_)
 rw[if_neg (by simp)]
 refine zH ?_
 simp only[show ¬ ((i:Int)<0) from by omega,if_false,zBH,Array.getElem?_eq_getElem hlt']
 refine zC ?_
 first | refine zC (zB7 hit.typeIs (zH ?_)) | refine zC (wpAny_typeNameOf_keyiter hit.typeIs (zH ?_))
 refine zC (wpAny_isOneOf_keyiter hit.typeIs ?_)
 show wpAny _ _ (setField (.ref it) 1 (rawInt ((i:Int)+1)) >>= _) _ _ s
 refine zC (wpAny_setField ho hd (by simp) ?_)
 have hit':(s.heap.update it (Obj.mapFields (·.setIfInBounds 1 (rawInt ((i:Int)+1))))).IsKeyIter it d (i+1) es.size ep:=
  ⟨_,Heap.get?_update_self _ ho (Obj.isFreed_of_fields (Obj.data_mapFields hd _)),(Obj.cls_mapFields ..).trans hc,by rw[Obj.data_mapFields hd];simp[rawInt]⟩
 refine zC (zAY ?_)
 refine zC (wpAny_isOneOf_keyiter (s:={ s with heap:=s.heap.update it (Obj.mapFields (·.setIfInBounds 1 (rawInt ((i:Int)+1)))) }) hit'.typeIs ?_)
 show wpAny _ _ (pure es[i].key) _ _ _
 exact zH (zH ⟨_,rfl,zH (hQ _ hit' (Heap.SameBut.update ..))⟩)
theorem stop (hh:A.handled=none)(hit:s.heap.IsKeyIter it d i es.size ep)(hm:At s.heap d es ep)(hge:es.size<=i)
 (hQ:∀h',Heap.ExtBut it s.heap h'->Q none { s with heap:=h' }):wpAny (model prog w) A (pyNext (.ref it)) Q E s:=by
 obtain⟨o,ho,hc,hd⟩:=id hit
 obtain⟨od,hod,hcd,hdd⟩:=id hm
 unfold pyNext
 refine zC (wpAny_attempt (zAk (name:=Str.ofString "__next__") hit.typeIs F.slot_dict_keyiterator_next
  (zAx F.slot_dict_keyiterator_next hit.typeIs F.entry_dict_keyiterator_next ?_ (F.args_dict_keyiterator_next_1 _))))
 refine zC (zH ?_)
 refine zC ?_
 refine zC ?_
 first | refine zC (zB7 hit.typeIs (zH ?_)) | refine zC (wpAny_typeNameOf_keyiter hit.typeIs (zH ?_))
 refine zC (wpAny_fieldsOf ho hd ?_)
 have hown:Builtin.Dict_items.ownsTuple "dict_keyiterator" = false:=by decide
 simp only[hown,zBr,if_false]
 show wpAny _ _ (if (Value.ref d==Value.none)=true then _ else _) _ _ s
 rw[if_neg (show ¬ ((Value.ref d==Value.none)=true) from zg)]
 refine zC (zH ?_)
 refine zC (wpAny_dictEntries hod hdd ?_)
 rw[if_neg (by simp)]
 refine zC (zH ?_)
 refine zC (wpAny_dictEpoch hod hdd ?_)
 rw[if_neg (by simp)]
 refine zH ?_
 simp only[show ¬ ((i:Int)<0) from by omega,if_false,zBH,Array.getElem?_eq_none hge]
 refine zC ?_
 first | refine zC (zB7 hit.typeIs (zH ?_)) | refine zC (wpAny_typeNameOf_keyiter hit.typeIs (zH ?_))
 show wpAny _ _ (setField (.ref it) 0 .none >>= _) _ _ s
 refine zC (wpAny_setField ho hd (by simp) ?_)
 show wpAny _ _ (newExc (.type "StopIteration") [] >>= _) _ _ _
 refine zC ?_
 simp only[newExc,newTuple]
 refine zC (zAz ?_ (by size_fits))
 refine zC (m:=firstArgMember _ _) (wpAny_of_eq (a:=Value.none) (by first | rfl | (simp only[firstArgMember];rfl)) ?_)
 refine zAz ?_ (by size_fits)
 simp only[raiseNew]
 refine zC (wpAny_handled ?_)
 rw[show A.in1.handled=none from hh]
 refine zC (zH (wpAny_throw ?_))
 refine zC (zBL (T := "StopIteration") (b:=true) ⟨_,zU _ rfl,rfl⟩ isSubtype_stop ?_)
 exact zH (hQ _ (((Heap.SameBut.update ..).extBut.push _).push _))
end
section
variable {prog:Program}{w:World}{A:Around}{d:Addr}{es:Array DictEntry}{ep:Nat}
theorem walks (hh:A.handled=none)(I:Addr)(hne:d≠I):Walks prog w A I [I,d] [I] es.size (fun i v=>∃e,es[i]? = some e/\v=e.key) (fun i h=>h.IsKeyIter I d i es.size ep/\At h d es ep) where
 sub:=fun b hb=>by simp at hb;simp[hb]
 frame:=fun _ _ _ st hk=>⟨st.1.at fun o e=>hk I (by simp) o e,st.2.keep fun o e=>hk d (by simp) o e⟩
 item:=fun i s Q E hi st hQ=>next st.1 st.2 hi fun h' hit' hs'=>
  hQ _ h' s.toks ⟨es[i],by simp[hi],rfl⟩ ⟨hit',st.2.keep fun o e=>hs'.extBut d o hne e⟩ fun b o hb e=>hs'.extBut b o (fun h=>hb (by simp[h])) e
 done:=fun s Q E st hQ=>stop hh st.1 st.2 (zL _) fun h' he'=>hQ h' s.toks fun b o hb e=>he' b o (fun h=>hb (by simp[h])) e
 self:=fun _ _ _ _ st hQ=>wpAny_pyIter_keyiter st.1 hQ
theorem src (lo:(d==sysModules)=false):KdlSrc prog w "dict" d d es.size (fun i v=>∃e,es[i]? = some e/\v=e.key) (fun h=>At h d es ep) where
 type:=fun _ hm=>hm.typeIs
 there:=fun _ hm=>⟨hm.lt,hm.lt⟩
 keep:=fun _ _ hm hk=>hm.keep fun o e=>hk d (.inl rfl) o e
 notList:=by decide
 notTuple:=by decide
 hint:=fun _ _ _ _ hm hq=>kdl_hint_dict hm.typeIs hq
 iter:=fun _ _ hh hm=>⟨_,_,(fun _ _ hq=>iter lo hm hq),walks hh _ (zY hm.lt),⟨⟨_,zU _ rfl,rfl,rfl⟩,hm.keep fun o e=>zK _ e⟩⟩
end
end DRaw
namespace SortT
open PySem PySem.W PySem.Calls PyProof.Rows
theorem sorted_dict {prog:Program}{w:World}{A:Around}{E:Value->Shared->Prop}{s:Shared}{d:Addr}{es:Array DictEntry}{ep:Nat}{vs:List Value}{Q:Value->Shared->Prop}{O:KeyOrd}{key:Nat->O.α}{κ:SortKind}
 (hh:A.handled=none)(lo:(d==sysModules)=false)(hm:DRaw.At s.heap d es ep)(hvs:vs=es.toList.map (·.key))(h64:vs.length<64)
 (ask:2<=vs.length->∀(s':Shared)(a:Addr),(∀b o,s.heap.get? b=some o->b≠a)->(∀b o,s.heap.get? b=some o->s'.heap.get? b=some o)->Asks prog w A.in1.in1 s' a vs key κ)
 (h:∀(h1:Heap)(D:Addr)(h':Heap)(t':Nat)(out:List Nat)(c:Nat),Put key vs.length out->(∀b o,s.heap.get? b=some o->h1.get? b=some o)->h1.objs.size<=D->(∀b o,h1.get? b=some o->h'.get? b=some o) ->
  h'.get? D=some (seqObj "list" (out.map fun i=>vs.getD i Value.none).toArray c)->Q (.ref D) { s with heap:=h',toks:=t' }) :
 wpAny (model prog w) A (call (.builtin "sorted") [.ref d]) Q E s:=by
 have hlen:vs.length=es.size:=by rw[hvs];simp
 refine call_function_entry kind_sorted plain_sorted entry_sorted (args_sorted1 _) ?_
 unfold Builtin.«sorted»
 refine zC (m:=checkCount "sorted" 1 1 _) (zH ?_)
 refine zC (kdu_collect (A:=A.in1) (DRaw.src (es:=es) (ep:=ep) lo) hh hm (by rw[sizeLine_eq];omega) fun h1 tk acc hk hacc=>?_)
 have el:acc.toList=vs:=by
  apply List.ext_getElem?
  intro j
  by_cases hj:j<es.size
  . have hz:j<acc.size:=by rw[hacc.1];exact hj
    obtain⟨e,he,hv⟩:=hacc.2 j acc[j] (by simp[hz])
    rw[Array.getElem?_toList,Array.getElem?_eq_getElem hz,hv,hvs,zO,Array.getElem?_toList,he]
    rfl
  . rw[zAw (by rw[Array.length_toList,hacc.1];omega),zAw (by omega)]
 rw[el]
 refine zC (wpAny_newList ?_ (by rw[sizeLine_eq];omega))
 have hoL:(h1.push (seqObj "list" vs.toArray 0)).get? h1.objs.size=some (seqObj "list" vs.toArray 0):=zU _ rfl
 have keep1:∀b o,h1.get? b=some o->(h1.push (seqObj "list" vs.toArray 0)).get? b=some o:=fun b o q=>zK _ q
 refine zC (zAY (zAx slot_list_sort ⟨_,hoL,rfl⟩ entry_list_sort (zFV (O:=O) (key:=key) (κ:=κ) hoL h64
  (fun h2=>ask h2 _ _ (fun b o e=>zY (zX (hk b o e))) fun b o e=>keep1 b o (hk b o e)) fun out hp=>⟨_,rfl,?_⟩) (args_list_sort _)))
 refine zH ⟨_,rfl,?_⟩
 obtain⟨c,hc⟩:=sortedHeap_at (vs:=vs) (out:=(out.map fun i=>vs.getD i Value.none).toArray) hoL
 refine h h1 _ _ _ out c hp hk (zL _) (fun b o e=>?_) hc
 have hb:b<h1.objs.size:=zX e
 rw[sortedHeap_old (zY hb) (by rw[zAe];exact zA0 hb)]
 exact keep1 b o e
end SortT
namespace L2
open PySem PySem.Spec PyProof.Rows
theorem zES:∀a:List Int,HT.lexLt a a=false
 | []=>rfl
 | x::r=>by rw[HT.lexLt_cons,if_pos rfl];exact zES r
theorem zDo:∀a b c:List Int,HT.lexLt a b=true->HT.lexLt b c=true->HT.lexLt a c=true
 | [],[],_,h,_=>by cases h
 | [],_::_,[],_,h=>by cases h
 | [],_::_,_::_,_,_=>rfl
 | _::_,[],_,h,_=>by cases h
 | _::_,_::_,[],_,h=>by cases h
 | x::a,y::b,z::c,h1,h2=>by
  rw[HT.lexLt_cons] at h1 h2 ⊢
  by_cases e1:x=y
  . subst e1
    rw[if_pos rfl] at h1
    by_cases e2:x=z
    . subst e2
      rw[if_pos rfl] at h2 ⊢
      exact zDo a b c h1 h2
    . rw[if_neg e2] at h2 ⊢;exact h2
  . rw[if_neg e1] at h1
    have l1:x<y:=of_decide_eq_true h1
    by_cases e2:y=z
    . subst e2;rw[if_neg e1];exact h1
    . rw[if_neg e2] at h2
      have l2:y<z:=of_decide_eq_true h2
      rw[if_neg (by omega)]
      exact zV (by omega)
theorem zDp:∀a b:List Int,HT.lexLt a b=false->HT.lexLt b a=false->a=b
 | [],[],_,_=>rfl
 | [],_::_,h,_=>by cases h
 | _::_,[],_,h=>by cases h
 | x::a,y::b,h1,h2=>by
  rw[HT.lexLt_cons] at h1 h2
  by_cases e:x=y
  . subst e
    rw[if_pos rfl] at h1 h2
    rw[zDp a b h1 h2]
  . rw[if_neg e] at h1
    rw[if_neg (Ne.symm e)] at h2
    have l1:=of_decide_eq_false h1
    have l2:=of_decide_eq_false h2
    omega
theorem zLN (a b c:List Int)(h:HT.lexLt a c=true):HT.lexLt a b=true\/HT.lexLt b c=true:=by
 cases h1:HT.lexLt a b with
 | true=>exact .inl rfl
 | false=>
  cases h2:HT.lexLt b a with
  | true=>exact .inr (zDo b a c h2 h)
  | false=>rw[<-zDp a b h1 h2];exact .inr h
noncomputable def zJk:KeyOrd:=⟨List Int,HT.lexLt,zES,zDo,zLN,zDp⟩
noncomputable def zIy (ms:List (List Int)):Prop:=ms.Pairwise fun a b=>HT.lexLt b a=false
noncomputable def zAT (H:Hp):List V->List (List Int)->Prop
 | [],[]=>True
 | x::xs,k::ks=>(∃a,x = .ref a/\H a=some (.tup (k.map V.int))/\k≠[])/\zAT H xs ks
 | _,_=>False
theorem zAT.length {H:Hp}:∀{xs:List V}{ks:List (List Int)},zAT H xs ks->xs.length=ks.length
 | [],[],_=>rfl
 | [],_::_,h=>h.elim
 | _::_,[],h=>h.elim
 | _::_,_::_,h=>by rw[zAG,zAG,zAT.length h.2]
theorem zAT.get {H:Hp}:∀{xs:List V}{ks:List (List Int)}{i:Nat}{x:V},zAT H xs ks->xs[i]? = some x->∃a k,x = .ref a/\ks[i]? = some k/\H a=some (.tup (k.map V.int))/\k≠[]
 | [],_,_,_,_,h=>by simp at h
 | _::_,[],_,_,h,_=>h.elim
 | y::_,k::_,0,x,h,e=>by
  obtain⟨⟨a,h1,h2,h3⟩,_⟩:=h
  have e':y=x:=by simpa using e
  subst e'
  exact⟨a,k,h1,rfl,h2,h3⟩
 | _::_,_::_,i+1,x,h,e=>by
  obtain⟨a,k,h1,h2,h3⟩:=zAT.get (i:=i) h.2 (by simpa using e)
  exact⟨a,k,h1,by simpa using h2,h3⟩
theorem zAT.mk {H:Hp}:∀{xs:List V}{ks:List (List Int)},xs.length=ks.length->(∀(i:Nat)(x:V)(k:List Int),xs[i]? = some x->ks[i]? = some k->∃a,x=V.ref a/\H a=some (.tup (k.map V.int))/\k≠[])->zAT H xs ks
 | [],[],_,_=>trivial
 | [],_::_,e,_=>by simp at e
 | _::_,[],e,_=>by simp at e
 | x::xs,k::ks,e,h=>⟨h 0 x k rfl rfl,zAT.mk (by simpa using e) fun i x' k' h1 h2=>h (i+1) x' k' (by simpa using h1) (by simpa using h2)⟩
variable {H:Hp}{ks:List (List Int)}
theorem zAT.keep {H':Hp}{xs:List V}(h:zAT H xs ks)(k:∀b ys,H b=some (.tup ys)->H' b=some (.tup ys)):zAT H' xs ks:=
 zAT.mk h.length fun i x c h1 h2=>by
  obtain⟨a,c',e1,e2,e3,e4⟩:=h.get h1
  rw[h2] at e2
  cases e2
  exact⟨a,e1,k a _ e3,e4⟩
theorem zAT.snoc {H:Hp}:∀{xs:List V}{ks:List (List Int)}{x:V}{k:List Int},zAT H xs ks->(∃a,x = .ref a/\H a=some (.tup (k.map V.int))/\k≠[])->zAT H (xs++[x]) (ks++[k])
 | [],[],_,_,_,h=>⟨h,trivial⟩
 | [],_::_,_,_,t,_=>t.elim
 | _::_,[],_,_,t,_=>t.elim
 | _::_,_::_,_,_,t,h=>⟨t.1,zAT.snoc t.2 h⟩
section
variable {prog:Program}{w:World}{A:Around}{s:Shared}
theorem zDr {fin:Bool}{Q:Bool->Shared->Prop}:∀(ns ms:List Int)(us ws:List Value)(i:Nat),IntsAre us ns->IntsAre ws ms->fin=decide (ns.length<ms.length)->Q (HT.lexLt ns ms) s ->
 PySem.W.KatLex prog w A true fin Q (us.zip ws) i s
 | [],[],_,_,_,.nil,.nil,e,q=>by subst e;exact q
 | [],_::_,_,_,_,.nil,.cons _ _ _,e,q=>by subst e;exact q
 | _::_,[],_,_,_,.cons _ _ _,.nil,e,q=>by subst e;exact q
 | n::ns,m::ms,_,_,i,.cons _ t hu,.cons _ u hw,e,q=>by
  rw[HT.lexLt_cons] at q
  refine PySem.W.kat_cons (wpAny_eqBool_int ?_)
  by_cases h:n=m
  . rw[if_pos h] at q
    rw[show (n==m)=true by simpa using h]
    exact PySem.W.kat_yes (zDr ns ms _ _ (i+1) hu hw (by rw[e];simp) q)
  . rw[if_neg h] at q
    rw[show (n==m)=false by simpa using h]
    refine PySem.W.kat_no ?_
    cases i with
    | zero=>exact oneLt_int q
    | succ j=>exact PySem.W.kat_one _ _ (PyProof.Rows.lt_int q)
theorem zFt {X:Cx}{pins:List (Addr×Obj)}{σ:St}{s s':Shared}{a:Addr}{ys:List V}{vs:List Value}{A:Around}(I:Inv X pins σ H s)(T:zAT H ys ks)(r:zBR ys vs)(hne:0<vs.length)
 (fa:∀b o,s.heap.get? b=some o->b≠a)(kp:∀b o,s.heap.get? b=some o->s'.heap.get? b=some o):SortT.Asks X.prog X.w A s' a vs (O:=zJk) (fun i=>ks.getD i []) (tuples' true):=by
 have hl:=T.length
 have hv:=r.length
 have at_:∀(h':Heap),(∀b o,b≠a->s'.heap.get? b=some o->h'.get? b=some o)->∀i,i<vs.length->∃(p:Addr)(k:List Int)(us:List Value)(o:Obj)(n:Nat),vs[i]? = some (Value.ref p)/\ks[i]? = some k/\k≠[]/\IntsAre us k/\h'.get? p=some o/\o.cls = .type "tuple" /\ o.data = .seq us.toArray n:=fun h' kh i hi=>by
  have hy:i<ys.length:=by omega
  obtain⟨p,k,e1,e2,e3,e4⟩:=T.get (i:=i) (x:=ys[i]) (by simp[hy])
  obtain⟨u,hu,ru⟩:=r.get (i:=i) (x:=ys[i]) (by simp[hy])
  rw[e1] at ru
  cases (show u=Value.ref p from ru)
  obtain⟨_,its,rv,o,ho,hc,n,hd⟩:=I.hok p _ e3
  exact⟨p,k,its,o,n,hu,e2,e4,zCF rv,kh p o (fa p o ho) (kp p o ho),hc,hd⟩
 refine⟨fun h' Q E kh q=>?_,fun h' i j Q E kh hi hj q=>?_⟩
 . -- all keys are tuples whose first items are ints
   have tups:∀(m:Nat),m<=vs.length->∃fs:List Value,PySem.W.KatTups h' (vs.drop (vs.length-m)) fs/\fs.length=m/\∀f∈fs,∃x t,f=Value.int x t:=by
    intro m
    induction m with
    | zero=>intro _;exact⟨[],by rw[Nat.sub_zero,List.drop_length];exact trivial,rfl,fun f hf=>by simp at hf⟩
    | succ m ih=>
     intro hm
     obtain⟨fs,t,e,hf⟩:=ih (by omega)
     obtain⟨p,k,us,o,n,hu,hk,hk0,hI,ho,hc,hd⟩:=at_ h' kh (vs.length-(m+1)) (by omega)
     have ed:vs.drop (vs.length-(m+1))=Value.ref p::vs.drop (vs.length-m):=by
      have hlt:vs.length-(m+1)<vs.length:=by omega
      rw[List.drop_eq_getElem_cons hlt,show vs.length-(m+1)+1=vs.length-m by omega]
      have:vs[vs.length-(m+1)]=Value.ref p:=by
       rw[zA hlt] at hu
       exact zR hu
      rw[this]
     cases hI with
     | nil=>exact absurd rfl hk0
     | cons x tx hI'=>
      refine⟨Value.int x tx::fs,by rw[ed];exact PySem.W.KatTups.cons ho hc hd rfl t,by rw[zAG,e],fun f hf'=>?_⟩
      rcases zm.mp hf' with rfl | hf'
      . exact⟨x,tx,rfl⟩
      . exact hf f hf'
   obtain⟨fs,t,e,hf⟩:=tups vs.length (zL _)
   rw[zAp,List.drop_zero] at t
   refine PySem.W.kat_kind (T:=Value.type "int") t (by omega) (fun v hv=>?_) (by rfl) q
   obtain⟨x,tx,rfl⟩:=hf v hv
   exact PySem.W.Looks.of_pure rfl
 . obtain⟨p,k,us,o,n,hu,hk,_,hI,ho,hc,hd⟩:=at_ h' kh i hi
   obtain⟨p2,k2,us2,o2,n2,hu2,hk2,_,hI2,ho2,hc2,hd2⟩:=at_ h' kh j hj
   have e1:vs.getD i Value.none = .ref p:=by rw[zD,hu];rfl
   have e2:vs.getD j Value.none = .ref p2:=by rw[zD,hu2];rfl
   have g1:ks.getD i []=k:=by rw[zD,hk];rfl
   have g2:ks.getD j []=k2:=by rw[zD,hk2];rfl
   rw[e1,e2]
   refine PySem.W.kat_lt (s:={ s' with heap:=h' }) ho hd ho2 hd2 ?_
   have q':Q (HT.lexLt k k2) { s' with heap:=h' }:=by
    have:zJk.blt (ks.getD i []) (ks.getD j [])=HT.lexLt k k2:=by rw[g1,g2];rfl
    rw[<-this];exact q
   have l1:=hI.length
   have l2:=hI2.length
   exact zDr k k2 us us2 0 hI hI2 (by simp only[zP];rw[l1,l2]) q'
theorem zGU {ys:List V}{vs:List Value}{out:List Nat}(T:zAT H ys ks)(r:zBR ys vs)(p:SortT.Put (O:=zJk) (fun i=>ks.getD i []) vs.length out) :
 ∃zs ms,zAT H zs ms/\ms.Perm ks/\zIy ms/\zBR zs (out.map fun i=>vs.getD i Value.none)/\zs.length=ys.length:=by
 have hl:=T.length
 have hv:=r.length
 have hb:∀i∈out,i<vs.length:=fun i hi=>zCD.mp (p.perm.mem_iff.mp hi)
 refine⟨out.map fun i=>ys.getD i .non,out.map fun i=>ks.getD i [],zAT.mk (by rw[zB,zB]) fun j x k hx hk=>?_,?_,?_,?_,?_⟩
 . rw[zO] at hx hk
   cases e:out[j]? with
   | none=>rw[e] at hx;cases hx
   | some i=>
    rw[e] at hx hk
    have hi:=hb i (zS e)
    have hy:i<ys.length:=by omega
    obtain⟨a,c,e1,e2,e3,e4⟩:=T.get (i:=i) (x:=ys[i]) (by simp[hy])
    have ex:ys.getD i .non=x:=zR hx
    have ek:ks.getD i []=k:=zR hk
    rw[zD,zA hy] at ex
    rw[zD,e2] at ek
    have ex':ys[i]=x:=ex
    have ek':c=k:=ek
    subst ek'
    exact⟨a,by rw[<-ex'];exact e1,e3,e4⟩
 . have h1:=p.perm.map fun i=>ks.getD i []
   have h2:(List.range vs.length).map (fun i=>ks.getD i [])=ks:=by
    rw[show vs.length=ks.length by omega]
    apply List.ext_getElem?
    intro j
    rw[zO]
    by_cases hj:j<ks.length
    . rw[List.getElem?_range hj,zA hj];simp[hj]
    . rw[zAw (by rw[zAn];omega),zAw (by omega)];rfl
   rw[h2] at h1
   exact h1
 . refine zAC.mpr fun i j hi hj hij=>?_
   rw[zB] at hi hj
   have:=p.rise i j out[i] out[j] (zBq hij) (by simp) (by simp)
   have h3:HT.lexLt (ks.getD out[j] []) (ks.getD out[i] [])=false:=this
   simpa using h3
 . have:∀l:List Nat,(∀i∈l,i<vs.length)->zBR (l.map fun i=>ys.getD i .non) (l.map fun i=>vs.getD i Value.none):=by
    intro l
    induction l with
    | nil=>intro _;exact .nil
    | cons i l ih=>
     intro h
     have hi:=h i zl
     have hy:i<ys.length:=by omega
     obtain⟨u,hu,ru⟩:=r.get (i:=i) (x:=ys[i]) (by simp[hy])
     refine .cons ?_ (ih fun j hj=>h j (zv _ hj))
     show zBi (ys.getD i V.non) (vs.getD i Value.none)
     rw[zD,zA hy,zD,hu]
     exact ru
   exact this out hb
 . rw[zB,p.perm.length_eq,zAn];omega
theorem zC9 {X:Cx}{pins:List (Addr×Obj)}{σ:St}{s:Shared}{h':Heap}{D:Addr}{c t':Nat}{zs:List V}{us:List Value}(I:Inv X pins σ H s)(hD:s.heap.objs.size<=D)(kp:∀b o,s.heap.get? b=some o->h'.get? b=some o)
 (ho:h'.get? D=some (seqObj "list" us.toArray c)) (r:zBR zs us)(hz:zs.length<=sizeLine):Inv X pins σ (upd H D (.lst zs)) { s with heap:=h',toks:=t' }:=
 I.laid kp hD (show zBs X.prog X.w _ _ _ (.lst zs) from ⟨hz,us,c,r,ho⟩)
end
section
variable {X:Cx}
theorem zGC:zCn X (.builtin "sorted") (fun xs H Q=>∃p ys ks,xs=[.ref p]/\SqL X.K H p ys/\zAT H ys ks/\ks.length<64 /\
 ∀l zs ms,H l=none->zAT H zs ms->ms.Perm ks->zIy ms->Q (.ref l) (upd H l (.lst zs))):=by
 intro pins s σ H xs us Q I r h
 obtain⟨p,ys,ks,rfl,hq,T,h64,q⟩:=h
 obtain⟨u,rfl,rx⟩:=zCt r
 cases rx
 obtain⟨its,r',pl,hz⟩:=I.list hq
 have hl:=T.length
 have hv:=r'.length
 refine SortT.sorted_list (O:=zJk) (key:=fun i=>ks.getD i []) (κ:=tuples' true) pl.isList (by omega) (fun h2 s' a fa kp=>zFt I T r' (by omega) fa kp) fun D h' out c pt hD kp ho=>?_
 obtain⟨zs,ms,T2,hp,hr,rz,hlz⟩:=zGU T r' pt
 exact⟨.ref D,_,zC9 (t':=s.toks) I hD kp ho rz (by omega),rfl,q D zs ms (I.hok.fresh hD) T2 hp hr⟩
theorem zDM (hc:X.calm=true):zCn X (.builtin "sorted") (fun xs H Q=>∃p kvs ks,xs=[.ref p]/\H p=some (.dT kvs)/\kvs.map (·.1)=ks.map (List.map Sum.inl)/\(∀k∈ks,k≠[])/\ks.length<64 /\
 ∀l zs ms,H l=none->zAT H zs ms->ms.Perm ks->zIy ms->Q (.ref l) (upd H l (.lst zs))):=by
 intro pins s σ H xs us Q I r h
 obtain⟨p,kvs,ks,rfl,hd,hks,hk0,h64,q⟩:=h
 obtain⟨u,rfl,rx⟩:=zCt r
 cases rx
 obtain⟨hz,lo,xs,rel,o,es,ep,ho,hx,hdat,hes,hnd⟩:=I.hok p _ hd
 have key:∀(kvs:List (List Key×V))(xs:List (List Key×Addr×Value))(ks:List (List Int)),KT H kvs xs->kvs.map (·.1)=ks.map (List.map Sum.inl)->(∀k∈ks,k≠[]) ->
  zAT H (xs.map fun q=>V.ref q.2.1) ks/\zBR (xs.map fun q=>V.ref q.2.1) ((xs.map (entryOfKey (tupleKind (zAj X.prog X.w)))).map (·.key)):=by
  intro kvs xs ks rel
  induction rel generalizing ks with
  | nil=>
   intro e _
   cases ks with
   | nil=>exact⟨trivial,.nil⟩
   | cons k ks=>simp at e
  | cons hpq _ ih=>
   intro e h0
   cases ks with
   | nil=>simp at e
   | cons k ks=>
    simp only[zAS,List.cons.injEq] at e
    obtain⟨T,V⟩:=ih ks e.2 fun c hc=>h0 c (zv _ hc)
    obtain⟨e1,e2,_⟩:=hpq
    refine⟨⟨⟨_,rfl,?_,h0 k zl⟩,T⟩,.cons rfl V⟩
    rw[e2,e.1,zAZ]
    rfl
 obtain⟨T,rv⟩:=key kvs xs ks rel hks hk0
 have hl:=T.length
 have hv:=rv.length
 have evs:(xs.map (entryOfKey (tupleKind (zAj X.prog X.w)))).map (·.key)=es.toList.map (·.key):=by rw[hes]
 refine SortT.sorted_dict (O:=zJk) (key:=fun i=>ks.getD i []) (κ:=tuples' true) (vs:=(xs.map (entryOfKey (tupleKind (zAj X.prog X.w)))).map (·.key)) (I.ok.hd hc) lo ⟨o,ho,hx,hdat⟩ evs (by omega) (fun h2 s' a fa kp=>zFt I T rv (by omega) fa kp) fun h1 D h' t' out c pt k1 hD k2 ho=>?_
 obtain⟨zs,ms,T2,hp,hr,rz,hlz⟩:=zGU T rv pt
 have I1:Inv X pins σ H { s with heap:=h1,toks:=s.toks }:=I.kept k1
 refine⟨.ref D,_,zC9 (s:={ s with heap:=h1,toks:=s.toks }) (t':=t') I1 hD k2 ho rz ?_,rfl,q D zs ms (I1.hok.fresh hD) T2 hp hr⟩
 have:sizeLine=16777216:=rfl
 omega
end
end L2
namespace L2
open PySem PySem.Spec PyProof.Rows
mutual
inductive zCx (H:Hp):V->PyData->Prop
 | non:zCx H .non .none
 | bl (b:Bool):zCx H (.bl b) (.bool b)
 | int (i:Int):zCx H (.int i) (.int i)
 | str (x:Str):zCx H (.str x) (.str x)
 | tup {a:Addr}{xs:List V}{ds:List PyData}:H a=some (.tup xs)->zBm H xs ds->zCx H (.ref a) (.tuple ds)
 | lst {a:Addr}{xs:List V}{ds:List PyData}:H a=some (.lst xs)->zBm H xs ds->zCx H (.ref a) (.list ds)
inductive zBm (H:Hp):List V->List PyData->Prop
 | nil:zBm H [] []
 | cons {x:V}{xs:List V}{d:PyData}{ds:List PyData}:zCx H x d->zBm H xs ds->zBm H (x::xs) (d::ds)
end
section
variable {P:Program}{w:World}{H:Hp}{h:Heap}
mutual
theorem zCx.reads (ok:HOk P w H h):∀{x:V}{d:PyData},zCx H x d->∀{u:Value},zBi x u->∃as,Reads h u d as
 | _,_,.non,u,r=>by cases (show u=Value.none from r);exact⟨_,.none⟩
 | _,_,.bl b,u,r=>by cases (show u=Value.bool b from r);exact⟨_,.bool b⟩
 | _,_,.int i,u,r=>by obtain⟨t,rfl⟩:=r;exact⟨_,.int i t⟩
 | _,_,.str x,u,r=>by obtain⟨t,rfl⟩:=r;exact⟨_,.str x t⟩
 | _,_,.tup (a:=a) e s,u,r=>by
  cases (show u=Value.ref a from r)
  obtain⟨_,its,rv,o,ho,hc,n,hd⟩:=ok a _ e
  obtain⟨as,ra⟩:=zBm.reads ok s rv
  exact⟨_,.tuple ho hc hd (by simpa using ra)⟩
 | _,_,.lst (a:=a) e s,u,r=>by
  cases (show u=Value.ref a from r)
  obtain⟨_,its,n,rv,ho⟩:=ok a _ e
  obtain⟨as,ra⟩:=zBm.reads ok s rv
  exact⟨_,.list ho rfl rfl (by simpa using ra)⟩
theorem zBm.reads (ok:HOk P w H h):∀{xs:List V}{ds:List PyData},zBm H xs ds->∀{us:List Value},zBR xs us->∃as,ReadsAll h us ds as
 | _,_,.nil,us,r=>by cases r;exact⟨_,.nil⟩
 | _,_,.cons s t,us,r=>by
  cases r with
  | cons r1 r2=>
   obtain⟨a1,h1⟩:=zCx.reads ok s r1
   obtain⟨a2,h2⟩:=zBm.reads ok t r2
   exact⟨_,.cons h1 h2⟩
end
end
structure Fn (n p:Nat)(d:PyData):Prop where
 wt:d.weight<=n
 dp:d.depth<=p
 cl:d.canLay0=true
 sh:d.intsShort 13=true
 sw:d.showable=true
theorem Fn.mono {n p n' p':Nat}{d:PyData}(h:Fn n p d)(hn:n<=n')(hp:p<=p'):Fn n' p' d:=⟨zy h.wt hn,zy h.dp hp,h.cl,h.sh,h.sw⟩
theorem zLY:Fn 0 0 .none:=⟨zL _,zL _,rfl,rfl,rfl⟩
theorem zHA {i:Int}(h:i.natAbs<1000000000):i.natAbs.log2<30:=by
 by_cases h0:i.natAbs=0
 . rw[h0];decide
 . exact (Nat.log2_lt h0).mpr (by omega)
theorem zFd {i:Int}(h:i.natAbs<1000000000):Fn 30 0 (.int i):=by
 have hl:=zHA h
 refine⟨?_,zL _,rfl,?_,?_⟩
 . simp only[PyData.weight]
   split <;> omega
 . simp only[PyData.intsShort,PyData.shown]
   refine zV ?_
   have e:=int_text_length_le10 (a:=i) (k:=9) (by decide) (by simpa using h)
   have e2:(Str.ofString (toString i)).length=(toString i).length:=by
    rw[Str.ofString_eq_toList]
    show ((toString i).toList.map Char.toNat).toArray.size=_
    rw[zP,zB,String.length_toList]
   show (Str.ofString (toString i)).length<=13
   omega
 . simp only[PyData.showable]
   exact zV (by omega)
theorem zIc {n p:Nat}:∀{ds:List PyData},(∀d∈ds,Fn n p d)->PyData.weightAll ds<=ds.length*(n+1)/\PyData.depthAll ds<=p/\PyData.canLayAll0 ds=true/\PyData.intsShortAll 13 ds=true/\PyData.showableAll ds=true
 | [],_=>⟨by simp[PyData.weightAll],by simp[PyData.depthAll],by simp[PyData.canLayAll0],by simp[PyData.intsShortAll],by simp[PyData.showableAll]⟩
 | d::ds,h=>by
  obtain⟨a,b,c,e,f⟩:=zIc (ds:=ds) fun x hx=>h x (zv _ hx)
  have g:=h d zl
  refine⟨?_,?_,?_,?_,?_⟩
  . simp only[PyData.weightAll,zAG]
    have:=g.wt
    rw[Nat.add_mul]
    omega
  . simp only[PyData.depthAll]
    have:=g.dp
    omega
  . simp only[PyData.canLayAll0,g.cl,c,Bool.and_self]
  . simp only[PyData.intsShortAll,g.sh,e,Bool.and_self]
  . simp only[PyData.showableAll,g.sw,f,Bool.and_self]
theorem zGi {n p L:Nat}{ds:List PyData}(h:∀d∈ds,Fn n p d)(hl:ds.length<=L):Fn (L*(n+1)) (p+1) (.tuple ds):=by
 obtain⟨a,b,c,e,f⟩:=zIc h
 refine⟨?_,?_,?_,?_,?_⟩
 . simp only[PyData.weight]
   exact zy a (Nat.mul_le_mul_right _ hl)
 . simp only[PyData.depth];omega
 . simp only[PyData.canLay0];exact c
 . simp only[PyData.intsShort];exact e
 . simp only[PyData.showable];exact f
theorem Fn.len {n p:Nat}{d:PyData}(h:Fn n p d)(hn:n<=1048576)(hp:p<=60):d.shown.length<=sizeLine/\d.hasDict=false:=by
 have hl:PyData.layable0 d=true:=by
  show (PyData.canLay0 d && decide (PyData.depth d<=64) && decide (PyData.weight d<=2 ^ 20))=true
  rw[h.cl,zV (show PyData.depth d<=64 by have:=h.dp;omega),zV (show PyData.weight d<=2 ^ 20 by have:=h.wt;omega)]
  rfl
 have e:=shown_le13 hl h.sh
 have:sizeLine=16777216:=rfl
 exact⟨by omega,PyData.hasDict_of_layable hl⟩
section
variable {X:Cx}
theorem zC5 {k:Nat}(hr:zDN k X.A):zCn X (.builtin "repr") (fun xs H Q=>∃x d,xs=[x]/\zCx H x d/\Fn 1048576 50 d/\Q (.str d.shown) H):=by
 intro pins s σ H xs us Q I r h
 obtain⟨x,d,rfl,sh,f,q⟩:=h
 obtain⟨u,rfl,rx⟩:=zCt r
 obtain⟨hz,hnd⟩:=f.len (zL _) (by decide)
 have hu:=hr.units
 cases sh with
 | non=>
  cases (show u=Value.none from rx)
  exact PySem.P.repr_of_none ⟨.str _,H,I.tok _,⟨_,rfl⟩,by simpa only [PyData.shown] using q⟩
 | bl b=>
  cases (show u=Value.bool b from rx)
  exact PySem.P.repr_of_bool ⟨.str _,H,I.tok _,⟨_,rfl⟩,by simpa only [PyData.shown] using q⟩
 | int i=>
  obtain⟨t,rfl⟩:=rx
  exact PySem.P.repr_of_int (by have:=f.sw;simpa only [PyData.showable,decide_eq_true_eq] using this) ⟨.str _,H,I.tok _,⟨_,rfl⟩,by simpa only [PyData.shown] using q⟩
 | str z=>
  obtain⟨t,rfl⟩:=rx
  exact PySem.P.repr_of_str ⟨.str _,H,I.tok _,⟨_,rfl⟩,by simpa only [PyData.shown] using q⟩ (by simpa only [PyData.shown] using hz)
 | tup e al=>
  cases (show u=Value.ref _ from rx)
  obtain⟨as,rd⟩:=zCx.reads I.hok (.tup e al) (u:=.ref _) rfl
  exact repr_of_reads' rd f.sw (PyData.noDict_hsm hnd) hr.gd (by have:=f.dp;omega) (fun _ _ e=>e) (fun h' u tk hk=>⟨.str _,H,I.kept hk,⟨u,rfl⟩,q⟩) hz
 | lst e al=>
  cases (show u=Value.ref _ from rx)
  obtain⟨as,rd⟩:=zCx.reads I.hok (.lst e al) (u:=.ref _) rfl
  exact repr_of_reads' rd f.sw (PyData.noDict_hsm hnd) hr.gd (by have:=f.dp;omega) (fun _ _ e=>e) (fun h' u tk hk=>⟨.str _,H,I.kept hk,⟨u,rfl⟩,q⟩) hz
end
end L2
namespace L2
open PySem PySem.Spec PyProof.Rows
section
variable {X:Cx}{es xs:List Expr}{t t1:TA}
theorem zCV {i j pos} (hr:PA X es t):PA X (.Constant (.int i) j pos::es) (zKZ (tC (.int i)) t):=zF zAA hr (by rfl)
theorem pa_lst {pos} (h:PA X xs t1)(hr:PA X es t):PA X (.List xs pos::es) (zKZ (tLst t1) t):=zF (zB1 h) hr (by rfl)
end
inductive zD6:List Expr->List Int->Prop where
 | nil:zD6 [] []
 | cons {i:Int}{j:Nat}{pos:Pos}{es:List Expr}{ns:List Int}:zD6 es ns->zD6 (.Constant (.int i) j pos::es) (i::ns)
theorem zH7 {X:Cx}{es:List Expr}{ns:List Int}(h:zD6 es ns):PA X es (fun _ H Q=>Q (ns.map V.int) H):=by
 induction h with
 | nil=>exact zT
 | cons _ ih=>
  intro pos pins s σ H Q I q
  exact (zCV ih) pos pins s σ H Q I q
inductive zC7:List Expr->List (List Int)->Prop where
 | nil:zC7 [] []
 | cons {xs:List Expr}{ns:List Int}{pos:Pos}{es:List Expr}{nss:List (List Int)}:zD6 xs ns->ns.length<=sizeLine->zC7 es nss->zC7 (.List xs pos::es) (ns::nss)
noncomputable def zJ6:List (List Int)->TA
 | []=>tNil
 | ns::r=>fun σ H Q=>∀p,H p=none->zJ6 r σ (upd H p (.lst (ns.map V.int))) fun xs H2=>Q (.ref p::xs) H2
theorem zJa {X:Cx}{es:List Expr}{nss:List (List Int)}(h:zC7 es nss):PA X es (zJ6 nss):=by
 induction h with
 | nil=>exact zT
 | cons hx hl _ ih=>
  intro pos pins s σ H Q I q
  exact (pa_lst (zH7 hx) ih) pos pins s σ H Q I ⟨by rw[zB];exact hl,fun p hp=>q p hp⟩
end L2
namespace WM
theorem zKJ {α:Type} [DecidableEq α]:∀{l₁ l₂:List α},l₁.Nodup->(∀x∈l₁,x∈l₂)->l₁.length<=l₂.length
 | [],_,_,_=>zc _
 | x::r,l₂,h,s=>by
  obtain⟨h1,h2⟩:=zA3.mp h
  have hx:x∈l₂:=s x zl
  have ih:=zKJ (l₁:=r) (l₂:=l₂.erase x) h2 fun y hy=>by
   have hne:y≠x:=fun e=>h1 (e ▸ hy)
   exact (List.mem_erase_of_ne hne).mpr (s y (zv _ hy))
  rw[List.length_erase_of_mem hx] at ih
  have:0<l₂.length:=List.length_pos_of_mem hx
  rw[zAG]
  omega
noncomputable def lowTo (n:Nat):List Int:=(List.range n).map fun (i:Nat)=>(i:Int)
variable {x:Int}
theorem mem_ints {n:Nat}:x∈lowTo n↔0<=x/\x<n:=by
 unfold lowTo
 rw[zi]
 constructor
 . rintro ⟨i,hi,rfl⟩
   have:=zCD.mp hi
   omega
 . rintro ⟨h0,h1⟩
   exact⟨x.toNat,zCD.mpr (by omega),by omega⟩
theorem nd_len {n:Nat}{l:List Int}(h:l.Nodup)(hb:∀x∈l,0<=x/\x<n):l.length<=n:=by
 have:=zKJ h (l₂:=lowTo n) fun x hx=>mem_ints.mpr (hb x hx)
 simpa [lowTo] using this
theorem zDt (n:Nat):(lowTo n).Pairwise (· < ·):=by
 unfold lowTo
 rw[zAW]
 exact List.pairwise_lt_range.imp fun h=>by omega
noncomputable abbrev T3:=Int×Int×Int
noncomputable def tl (t:T3):List Int:=[t.1,t.2.1,t.2.2]
structure GW (n:Int)(ts:List T3):Prop where
 n1:1<=n
 n24:n<=24
 len:ts.length<64
 rng:∀t∈ts,0<=t.1/\t.1<t.2.1/\t.2.1<n/\1<=t.2.2/\t.2.2<=99
 dis:ts.Pairwise fun s t=>¬ (s.1=t.1/\s.2.1=t.2.1)
noncomputable def Adj (ts:List T3)(x y l:Int):Prop:=(x,y,l)∈ts\/(y,x,l)∈ts
variable {l y:Int}{ts:List T3}
theorem Adj.symm (h:Adj ts x y l):Adj ts y x l:=h.elim .inr .inl
variable {n:Int}
theorem GW.uniq (g:GW n ts){l':Int}(h:Adj ts x y l)(h':Adj ts x y l'):l=l':=by
 have key:∀{ts:List T3},ts.Pairwise (fun s t=>¬ (s.1=t.1/\s.2.1=t.2.1))->∀{a b l l':Int},(a,b,l)∈ts->(a,b,l')∈ts->l=l':=by
  intro ts
  induction ts with
  | nil=>intro _ a b l l' h;simp at h
  | cons t r ih=>
   intro hp a b l l' h h'
   obtain⟨q,hr⟩:=List.pairwise_cons.mp hp
   rcases zm.mp h with e | e
   . rcases zm.mp h' with e' | e'
     . rw[<-e] at e';injection e' with _ e2;injection e2 with _ e3;exact e3.symm
     . exact absurd (by rw[<-e];exact⟨rfl,rfl⟩) (q _ e')
   . rcases zm.mp h' with e' | e'
     . exact absurd (by rw[<-e'];exact⟨rfl,rfl⟩) (q _ e)
     . exact ih hr e e'
 rcases h with h | h <;> rcases h' with h' | h'
 . exact key g.dis h h'
 . have:=g.rng _ h;have:=g.rng _ h';simp only at *;omega
 . have:=g.rng _ h;have:=g.rng _ h';simp only at *;omega
 . exact key g.dis h h'
theorem GW.adj (g:GW n ts)(h:Adj ts x y l):0<=x/\x<n/\0<=y/\y<n/\x≠y/\1<=l/\l<=99:=by
 rcases h with h | h <;> (have:=g.rng _ h;simp only at *;omega)
noncomputable def fd (p:Int):List T3->List (List Int)
 | []=>[]
 | t::r=>(if t.1=p then [[t.2.1,t.2.2]] else [])++(if t.2.1=p then [[t.1,t.2.2]] else [])++fd p r
theorem zFf (p:Int):∀a b:List T3,fd p (a++b)=fd p a++fd p b
 | [],b=>rfl
 | t::r,b=>by show _++_++fd p (r++b)=_;rw[zFf p r b];simp[fd,List.append_assoc]
theorem zER {p:Int}{k:List Int}:∀{ts:List T3},k∈fd p ts↔∃y l,k=[y,l]/\Adj ts p y l
 | []=>by simp[fd,Adj]
 | (a,b,c)::r=>by
  have ih:=zER (p:=p) (k:=k) (ts:=r)
  show k∈_++_++fd p r↔_
  rw[zu,zu,ih]
  simp only
  constructor
  . rintro ((h | h) | ⟨y,l,e,h⟩)
    . split at h
      . rename_i e;simp at h;subst e;exact⟨b,c,h,.inl zl⟩
      . simp at h
    . split at h
      . rename_i e;simp at h;subst e;exact⟨a,c,h,.inr zl⟩
      . simp at h
    . exact⟨y,l,e,h.elim (fun z=>.inl (zv _ z)) fun z=>.inr (zv _ z)⟩
  . rintro ⟨y,l,e,h⟩
    rcases h with h | h
    . rcases zm.mp h with q | q
      . injection q with q1 q2;injection q2 with q2 q3;subst q1 q2 q3
        exact .inl (.inl (by simp[e]))
      . exact .inr ⟨y,l,e,.inl q⟩
    . rcases zm.mp h with q | q
      . injection q with q1 q2;injection q2 with q2 q3;subst q1 q2 q3
        exact .inl (.inr (by simp[e]))
      . exact .inr ⟨y,l,e,.inr q⟩
theorem zGj {n:Int}(p:Int):∀{ts:List T3},(∀t∈ts,t.1<t.2.1)->(fd p ts).length<=ts.length
 | [],_=>zL _
 | t::r,h=>by
  have ih:=zGj (n:=n) p (ts:=r) fun t ht=>h t (zv _ ht)
  have h0:=h t zl
  show (_++_++fd p r).length<=_
  rw[zI,zI,zAG]
  have:(if t.1=p then [[t.2.1,t.2.2]] else ([]:List (List Int))).length+(if t.2.1=p then [[t.1,t.2.2]] else ([]:List (List Int))).length<=1:=by
   split <;> split <;> simp <;> omega
  omega
noncomputable def hd (k:List Int):Int:=k.getD 0 0
theorem zJq (g:GW n ts)(p:Int):((fd p ts).map hd).Nodup:=by
 have key:∀(ts:List T3),(∀t∈ts,t.1<t.2.1)->ts.Pairwise (fun s t=>¬ (s.1=t.1/\s.2.1=t.2.1))->((fd p ts).map hd).Nodup:=by
  intro ts
  induction ts with
  | nil=>intro _ _;exact zCC
  | cons t r ih=>
   intro hlt hp
   obtain⟨q,hr⟩:=List.pairwise_cons.mp hp
   have h0:=hlt t zl
   have hr':∀t∈r,t.1<t.2.1:=fun t ht=>hlt t (zv _ ht)
   have ih':=ih hr' hr
   have no:∀y c,(∀l,Adj r p y l->False)->([y,c]:List Int)=[y,c]->¬ y∈(fd p r).map hd:=by
    intro y c hn _ hm
    obtain⟨k,hk,e⟩:=zi.mp hm
    obtain⟨y',l,ek,ha⟩:=zER.mp hk
    subst ek
    have:y'=y:=e
    subst this
    exact hn l ha
   show ((_++_++fd p r).map hd).Nodup
   by_cases h1:t.1=p
   . have h2:¬ t.2.1=p:=by omega
     rw[if_pos h1,if_neg h2]
     show (t.2.1::(fd p r).map hd).Nodup
     refine zA3.mpr ⟨no _ t.2.2 (fun l ha=>?_) rfl,ih'⟩
     rcases ha with ha | ha
     . exact q _ ha ⟨h1,rfl⟩
     . have:=hr' _ ha;simp only at this;omega
   . by_cases h2:t.2.1=p
     . rw[if_neg h1,if_pos h2]
       show (t.1::(fd p r).map hd).Nodup
       refine zA3.mpr ⟨no _ t.2.2 (fun l ha=>?_) rfl,ih'⟩
       rcases ha with ha | ha
       . have:=hr' _ ha;simp only at this;omega
       . exact q _ ha ⟨rfl,h2⟩
     . rw[if_neg h1,if_neg h2]
       exact ih'
 exact key ts (fun t ht=>(g.rng t ht).2.1) g.dis
end WM
namespace WM
inductive Way (ts:List T3):Int->Int->Int->Prop where
 | nil (x:Int):Way ts x x 0
 | cons {x z y l d:Int}:Adj ts x z l->Way ts z y d->Way ts x y (l+d)
variable {n x y:Int}{ts:List T3}
theorem Way.nn (g:GW n ts){d:Int}(h:Way ts x y d):0<=d:=by
 induction h with
 | nil=>exact zB5 _
 | cons ha _ ih=>have:=g.adj ha;omega
variable {l:Int}
theorem Way.one (h:Adj ts x y l):Way ts x y l:=by
 have:=Way.cons h (.nil y)
 rwa [Int.add_zero] at this
theorem Way.trans {z d e:Int}(h:Way ts x y d)(h':Way ts y z e):Way ts x z (d+e):=by
 induction h with
 | nil=>rw[zAi];exact h'
 | cons ha _ ih=>rw[Int.add_assoc];exact .cons ha (ih h')
theorem Way.symm {ts:List T3}{x y d:Int}(h:Way ts x y d):Way ts y x d:=by
 induction h with
 | nil=>exact .nil _
 | cons ha _ ih=>have:=ih.trans (.one ha.symm);rwa [Int.add_comm] at this
theorem Way.snoc {z d:Int}(h:Way ts x y d)(ha:Adj ts y z l):Way ts x z (d+l):=h.trans (.one ha)
noncomputable def IsD (ts:List T3)(x y d:Int):Prop:=Way ts x y d/\∀e,Way ts x y e->d<=e
noncomputable def Len (ts:List T3)(x y:Int):Option Int->Prop
 | some d=>IsD ts x y d
 | none=>∀d,¬ Way ts x y d
theorem IsD.uniq {d e:Int}(h:IsD ts x y d)(h':IsD ts x y e):d=e:=Int.le_antisymm (h.2 _ h'.1) (h'.2 _ h.1)
theorem Len.uniq {ts:List T3}{x y:Int}{o o':Option Int}(h:Len ts x y o)(h':Len ts x y o'):o=o':=by
 cases o with
 | none=>
  cases o' with
  | none=>rfl
  | some e=>exact absurd h'.1 (h e)
 | some d=>
  cases o' with
  | none=>exact absurd h.1 (h' d)
  | some e=>exact congrArg some (IsD.uniq h h')
theorem IsD.symm {d:Int}(h:IsD ts x y d):IsD ts y x d:=⟨h.1.symm,fun e he=>h.2 e he.symm⟩
theorem Len.symm {ts:List T3}{x y:Int}{o:Option Int}(h:Len ts x y o):Len ts y x o:=by
 cases o with
 | none=>exact fun d hd=>h d hd.symm
 | some d=>exact IsD.symm h
theorem zCS (g:GW n ts)(x:Int):IsD ts x x 0:=⟨.nil x,fun _ h=>h.nn g⟩
structure Dj (ts:List T3)(s:Int)(kn wt:Int->Option Int):Prop where
 kd:∀p d,kn p=some d->IsD ts s p d
 wk:∀p d,wt p=some d->kn p=none/\Way ts s p d
 ord:∀p d q e,kn p=some d->wt q=some e->d<=e
 nb:∀p d q l,kn p=some d->Adj ts p q l->(∃e,kn q=some e)\/∃e,wt q=some e/\e<=d+l
 st:(∃d,kn s=some d)\/wt s=some 0
variable {s:Int}{kn wt:Int->Option Int}
theorem Dj.front (g:GW n ts)(h:Dj ts s kn wt){d:Int}(w:Way ts s y d):(∃e,kn y=some e)\/∃q e,wt q=some e/\e<=d:=by
 have key:∀{x y d:Int},Way ts x y d->∀dx,kn x=some dx->(∃e,kn y=some e)\/∃q e,wt q=some e/\e<=dx+d:=by
  intro x y d w
  induction w with
  | nil=>intro dx hx;exact .inl ⟨dx,hx⟩
  | cons ha w' ih=>
   intro dx hx
   rename_i x z y l d
   have hl:=g.adj ha
   have hw:=w'.nn g
   rcases h.nb x dx z l hx ha with ⟨e,he⟩ | ⟨e,he,hle⟩
   . have hez:e<=dx+l:=(h.kd z e he).2 _ ((h.kd x dx hx).1.snoc ha)
     rcases ih e he with q | ⟨q,e',hq,hle⟩
     . exact .inl q
     . exact .inr ⟨q,e',hq,by omega⟩
   . exact .inr ⟨z,e,he,by omega⟩
 rcases h.st with ⟨ds,hs⟩ | hs
 . have:ds=0:=IsD.uniq (h.kd s ds hs) (zCS g s)
   subst this
   rcases key w 0 hs with q | ⟨q,e,a,b⟩
   . exact .inl q
   . exact .inr ⟨q,e,a,by omega⟩
 . exact .inr ⟨s,0,hs,w.nn g⟩
variable {p:Int}
theorem Dj.pick (g:GW n ts)(h:Dj ts s kn wt){d:Int}(hp:wt p=some d)(hm:∀q e,wt q=some e->d<=e):IsD ts s p d:=by
 obtain⟨hk,hw⟩:=h.wk p d hp
 refine⟨hw,fun e he=>?_⟩
 rcases h.front g he with ⟨e',q⟩ | ⟨q,e',hq,hle⟩
 . rw[hk] at q;cases q
 . exact Int.le_trans (hm q e' hq) hle
theorem Dj.done (g:GW n ts)(h:Dj ts s kn wt)(hw:∀q,wt q=none)(y:Int):Len ts s y (kn y):=by
 cases e:kn y with
 | some d=>exact h.kd y d e
 | none=>
  intro d w
  rcases h.front g w with ⟨e',q⟩ | ⟨q,e',hq,_⟩
  . rw[e] at q;cases q
  . rw[hw] at hq;cases hq
structure Dm (ts:List T3)(s p d:Int)(kn wt:Int->Option Int)(seen:Int->Prop):Prop where
 kd:∀q e,kn q=some e->IsD ts s q e
 wk:∀q e,wt q=some e->kn q=none/\Way ts s q e
 ord:∀q e r f,kn q=some e->wt r=some f->e<=f
 nb:∀q e r l,kn q=some e->Adj ts q r l->(q=p/\¬ seen r)\/(∃f,kn r=some f)\/∃f,wt r=some f/\f<=e+l
 st:∃e,kn s=some e
 pd:kn p=some d
 mx:∀q e,kn q=some e->e<=d
theorem Dj.enter (g:GW n ts)(h:Dj ts s kn wt){d:Int}(hp:wt p=some d)(hm:∀q e,wt q=some e->d<=e) :
 Dm ts s p d (fun q=>if q=p then some d else kn q) (fun q=>if q=p then none else wt q) (fun _=>False):=by
 have hd:=h.pick g hp hm
 have hk:=(h.wk p d hp).1
 refine⟨fun q e hq=>?_,fun q e hq=>?_,fun q e r f hq hr=>?_,fun q e r l hq ha=>?_,?_,if_pos rfl,fun q e hq=>?_⟩
 . by_cases hqp:q=p
   . rw[if_pos hqp] at hq;cases hq;rw[hqp];exact hd
   . rw[if_neg hqp] at hq;exact h.kd q e hq
 . by_cases hqp:q=p
   . rw[if_pos hqp] at hq;cases hq
   . rw[if_neg hqp] at hq ⊢;exact h.wk q e hq
 . by_cases hrp:r=p
   . rw[if_pos hrp] at hr;cases hr
   . rw[if_neg hrp] at hr
     by_cases hqp:q=p
     . rw[if_pos hqp] at hq;cases hq;exact hm r f hr
     . rw[if_neg hqp] at hq;exact h.ord q e r f hq hr
 . by_cases hqp:q=p
   . exact .inl ⟨hqp,fun z=>z⟩
   . rw[if_neg hqp] at hq
     by_cases hrp:r=p
     . exact .inr (.inl ⟨d,if_pos hrp⟩)
     . rcases h.nb q e r l hq ha with ⟨f,hf⟩ | ⟨f,hf,hle⟩
       . exact .inr (.inl ⟨f,by rw[if_neg hrp];exact hf⟩)
       . exact .inr (.inr ⟨f,by rw[if_neg hrp];exact hf,hle⟩)
 . by_cases hsp:s=p
   . exact⟨d,if_pos hsp⟩
   . rcases h.st with ⟨e,he⟩ | he
     . exact⟨e,by rw[if_neg hsp];exact he⟩
     . -- s waits with 0: then d is 0 too,and p is come to by a way of 0
       have h0:=hm s 0 he
       have:=hd.1.nn g
       have hd0:d=0:=by omega
       subst hd0
       exfalso
       have:∀{x y d:Int},Way ts x y d->d=0->x=y:=by
        intro x y d w
        cases w with
        | nil=>intro _;rfl
        | cons ha w'=>intro e;have:=g.adj ha;have:=w'.nn g;omega
       exact hsp (this hd.1 rfl)
 . by_cases hqp:q=p
   . rw[if_pos hqp] at hq;cases hq;exact zB5 _
   . rw[if_neg hqp] at hq;exact h.ord q e p d hq hp
variable {seen:Int->Prop}
theorem Dm.skip {d:Int}(h:Dm ts s p d kn wt seen){r:Int}(hr:∃f,kn r=some f):Dm ts s p d kn wt (fun x=>seen x\/x=r):=
 ⟨h.kd,h.wk,h.ord,fun q e x l hq ha=>by
  rcases h.nb q e x l hq ha with ⟨a,b⟩ | c
  . by_cases hx:x=r
    . subst hx;exact .inr (.inl hr)
    . exact .inl ⟨a,fun z=>z.elim b hx⟩
  . exact .inr c,h.st,h.pd,h.mx⟩
theorem Dm.wait (g:GW n ts){d:Int}(h:Dm ts s p d kn wt seen){r:Int}(ha:Adj ts p r l)(hr:kn r=none){f:Int}
 (hf:(wt r=none/\f=d+l)\/∃e,wt r=some e/\f=min (d+l) e):Dm ts s p d kn (fun x=>if x=r then some f else wt x) (fun x=>seen x\/x=r):=by
 have hl:=g.adj ha
 have hway:Way ts s r (d+l):=(h.kd p d h.pd).1.snoc ha
 have hf1:f<=d+l:=by
  rcases hf with ⟨_,e⟩ | ⟨e,_,e'⟩
  . omega
  . omega
 have hf2:Way ts s r f:=by
  rcases hf with ⟨_,rfl⟩ | ⟨e,he,rfl⟩
  . exact hway
  . by_cases hle:d+l<=e
    . rw[Int.min_eq_left hle];exact hway
    . rw[Int.min_eq_right (by omega)];exact (h.wk r e he).2
 have hf3:d<=f:=by
  rcases hf with ⟨_,rfl⟩ | ⟨e,he,rfl⟩
  . omega
  . have:=h.ord p d r e h.pd he;omega
 refine⟨h.kd,fun q e hq=>?_,fun q e x y hq hx=>?_,fun q e x k hq hax=>?_,h.st,h.pd,h.mx⟩
 . by_cases hqr:q=r
   . rw[if_pos hqr] at hq;cases hq;rw[hqr];exact⟨hr,hf2⟩
   . rw[if_neg hqr] at hq;exact h.wk q e hq
 . by_cases hxr:x=r
   . rw[if_pos hxr] at hx;cases hx;have:=h.mx q e hq;omega
   . rw[if_neg hxr] at hx;exact h.ord q e x y hq hx
 . by_cases hxr:x=r
   . subst hxr
     refine .inr (.inr ⟨f,if_pos rfl,?_⟩)
     rcases h.nb q e x k hq hax with ⟨a,_⟩ | ⟨y,hy⟩ | ⟨y,hy,hle⟩
     . subst a
       rw[h.pd] at hq;cases hq
       rw[g.uniq hax ha];exact hf1
     . rw[hr] at hy;cases hy
     . rcases hf with ⟨e1,_⟩ | ⟨e1,he1,e2⟩
       . rw[e1] at hy;cases hy
       . rw[he1] at hy;cases hy;omega
   . rcases h.nb q e x k hq hax with ⟨a,b⟩ | c | ⟨y,hy,hle⟩
     . exact .inl ⟨a,fun z=>z.elim b hxr⟩
     . exact .inr (.inl c)
     . exact .inr (.inr ⟨y,by rw[if_neg hxr];exact hy,hle⟩)
theorem Dm.leave {d:Int}(h:Dm ts s p d kn wt seen)(hs:∀r l,Adj ts p r l->seen r):Dj ts s kn wt:=
 ⟨h.kd,h.wk,h.ord,fun q e r l hq ha=>by
  rcases h.nb q e r l hq ha with ⟨a,b⟩ | c
  . subst a;exact absurd (hs r l ha) b
  . exact c,.inl h.st⟩
inductive zEZ (ts:List T3)(k:Int):Int->Int->Int->Prop where
 | nil (x:Int):zEZ ts k x x 0
 | tie {x y l:Int}:Adj ts x y l->zEZ ts k x y l
 | cons {x z y l d:Int}:Adj ts x z l->z<k->zEZ ts k z y d->zEZ ts k x y (l+d)
theorem zEZ.way {k d:Int}(h:zEZ ts k x y d):Way ts x y d:=by
 induction h with
 | nil=>exact .nil _
 | tie ha=>exact .one ha
 | cons ha _ _ ih=>exact .cons ha ih
theorem Way.toK (g:GW n ts){d:Int}(h:Way ts x y d):zEZ ts n x y d:=by
 induction h with
 | nil=>exact .nil _
 | cons ha _ ih=>exact .cons ha (g.adj ha).2.2.2.1 ih
theorem zEZ.split (g:GW n ts){k d:Int}(h:zEZ ts (k+1) x y d):zEZ ts k x y d\/∃d1 d2,zEZ ts k x k d1/\zEZ ts k k y d2/\d1+d2<=d:=by
 induction h with
 | nil=>exact .inl (.nil _)
 | tie ha=>exact .inl (.tie ha)
 | cons ha hz w ih=>
  rename_i x z y l d
  by_cases hk:z<k
  . rcases ih with q | ⟨d1,d2,a,b,c⟩
    . exact .inl (.cons ha hk q)
    . exact .inr ⟨l+d1,d2,.cons ha hk a,b,by omega⟩
  . have e:z=k:=by omega
    subst e
    rcases ih with q | ⟨d1,d2,a,b,c⟩
    . exact .inr ⟨l,d,.tie ha,q,zB5 _⟩
    . have:=a.way.nn g
      exact .inr ⟨l,d2,.tie ha,b,by omega⟩
theorem zEZ.zero (g:GW n ts){d:Int}(h:zEZ ts 0 x y d):(x=y/\d=0)\/Adj ts x y d:=by
 cases h with
 | nil=>exact .inl ⟨rfl,rfl⟩
 | tie ha=>exact .inr ha
 | cons ha hz _=>have:=g.adj ha;omega
structure Fw (ts:List T3)(n:Int)(F:Int->Int->Option Int):Prop where
 snd:∀x y d,0<=x->x<n->0<=y->y<n->F x y=some d->Way ts x y d
noncomputable def Cov (ts:List T3)(n k:Int)(F:Int->Int->Option Int):Prop:=∀x y d,0<=x->x<n->0<=y->y<n->zEZ ts k x y d->∃e,F x y=some e/\e<=d
theorem Fw.len (g:GW n ts){F:Int->Int->Option Int}(h:Fw ts n F)(c:Cov ts n n F)(hx:0<=x)(hx':x<n)(hy:0<=y)(hy':y<n):Len ts x y (F x y):=by
 cases e:F x y with
 | some d=>
  refine⟨h.snd x y d hx hx' hy hy' e,fun e' he=>?_⟩
  obtain⟨f,hf,hle⟩:=c x y e' hx hx' hy hy' (he.toK g)
  rw[e] at hf;cases hf;exact hle
 | none=>
  intro d hd
  obtain⟨f,hf,_⟩:=c x y d hx hx' hy hy' (hd.toK g)
  rw[e] at hf;cases hf
end WM
namespace WM
noncomputable def fnl (kn:List (Option Int))(p:Int):Option Int:=if 0<=p then kn.getD p.toNat none else none
noncomputable def cnt (kn:List (Option Int)):Nat:=(kn.filter Option.isSome).length
theorem zIo (kn:List (Option Int)):cnt kn<=kn.length:=zq _ _
theorem zIb {kn:List (Option Int)}{p:Int}{o:Option Int}(h0:0<=p)(h1:p.toNat<kn.length)(q:Int):fnl (kn.set p.toNat o) q=if q=p then o else fnl kn q:=by
 unfold fnl
 by_cases hq:0<=q
 . rw[if_pos hq,if_pos hq,zD,zD,List.getElem?_set]
   by_cases e:q=p
   . subst e;simp[h1]
   . have:¬ p.toNat=q.toNat:=by omega
     rw[if_neg this,if_neg e]
 . rw[if_neg hq,if_neg (by omega),if_neg hq]
theorem zGB:∀{kn:List (Option Int)}{j:Nat}{d:Int},kn[j]? = some none->cnt (kn.set j (some d))=cnt kn+1
 | [],_,_,h=>by simp at h
 | o::r,0,d,h=>by
  have:o=none:=by simpa using h
  subst this
  simp[cnt,List.set]
 | o::r,j+1,d,h=>by
  have ih:=zGB (kn:=r) (j:=j) (d:=d) (by simpa using h)
  unfold cnt at ih ⊢
  rw[List.set_cons_succ]
  cases o with
  | none=>rw[zBU (by simp),zBU (by simp)];exact ih
  | some x=>rw[zBT (by simp),zBT (by simp),zAG,zAG,ih]
theorem zLf (n:Nat):cnt (List.replicate n none)=0:=by
 unfold cnt
 rw[List.filter_replicate]
 simp
theorem zDw (n:Nat)(q:Int):fnl (List.replicate n none) q=none:=by
 unfold fnl
 split
 . rw[zD,zBS]
   split <;> rfl
 . rfl
structure Dl (ts:List T3)(n s:Int)(kn:List (Option Int))(wt:Int->Option Int):Prop where
 dj:Dj ts s (fnl kn) wt
 ln:kn.length=n.toNat
 bk:∀p d,fnl kn p=some d->d<=99*cnt kn
 bw:∀p e,wt p=some e->e<=99*cnt kn/\0<=p/\p<n
structure Dn (ts:List T3)(n s p d:Int)(kn:List (Option Int))(wt:Int->Option Int)(seen:Int->Prop):Prop where
 dm:Dm ts s p d (fnl kn) wt seen
 ln:kn.length=n.toNat
 bk:∀q e,fnl kn q=some e->e<=99*cnt kn
 bd:d+99<=99*cnt kn
 bw:∀q e,wt q=some e->e<=99*cnt kn/\0<=q/\q<n
theorem Dl.start {n:Int}{ts:List T3}(g:GW n ts){s:Int}(h0:0<=s)(h1:s<n):Dl ts n s (List.replicate n.toNat none) (fun q=>if q=s then some 0 else none):=by
 refine⟨⟨fun p d h=>?_,fun p d h=>?_,fun p d q e h=>?_,fun p d q l h=>?_,.inr (if_pos rfl)⟩,zAa,fun p d h=>?_,fun p e h=>?_⟩
 . rw[zDw] at h;cases h
 . by_cases e:p=s
   . rw[if_pos e] at h;cases h;rw[e];exact⟨zDw _ _,.nil s⟩
   . rw[if_neg e] at h;cases h
 . rw[zDw] at h;cases h
 . rw[zDw] at h;cases h
 . rw[zDw] at h;cases h
 . by_cases e:p=s
   . rw[if_pos e] at h;cases h;rw[e,zLf];exact⟨by simp,h0,h1⟩
   . rw[if_neg e] at h;cases h
theorem Dl.enter {n:Int}{ts:List T3}(g:GW n ts){s:Int}{kn:List (Option Int)}{wt:Int->Option Int}(h:Dl ts n s kn wt){p d:Int}(hp:wt p=some d)(hm:∀q e,wt q=some e->d<=e) :
 kn[p.toNat]? = some none/\0<=p/\p<n/\cnt (kn.set p.toNat (some d))=cnt kn+1/\Dn ts n s p d (kn.set p.toNat (some d)) (fun q=>if q=p then none else wt q) (fun _=>False):=by
 obtain⟨hb,h0,h1⟩:=h.bw p d hp
 have hl:=h.ln
 have hlt:p.toNat<kn.length:=by omega
 have hk:=(h.dj.wk p d hp).1
 have hn:kn[p.toNat]? = some none:=by
  unfold fnl at hk
  rw[if_pos h0,zD,zA hlt] at hk
  rw[zA hlt]
  exact congrArg some hk
 have hc:=zGB (d:=d) hn
 have ef:fnl (kn.set p.toNat (some d))=fun q=>if q=p then some d else fnl kn q:=funext fun q=>zIb h0 hlt q
 refine⟨hn,h0,h1,hc,⟨?_,by rw[zAg];exact hl,fun q e hq=>?_,by rw[hc];omega,fun q e hq=>?_⟩⟩
 . rw[ef];exact h.dj.enter g hp hm
 . rw[ef] at hq
   simp only at hq
   rw[hc]
   by_cases e':q=p
   . rw[if_pos e'] at hq;cases hq;omega
   . rw[if_neg e'] at hq;have:=h.bk q e hq;omega
 . by_cases e':q=p
   . rw[if_pos e'] at hq;cases hq
   . rw[if_neg e'] at hq;have:=h.bw q e hq;rw[hc];exact⟨by omega,this.2⟩
theorem Dn.skip {n:Int}{ts:List T3}{s p d:Int}{kn:List (Option Int)}{wt:Int->Option Int}{seen:Int->Prop}(h:Dn ts n s p d kn wt seen){r f:Int}(hr:fnl kn r=some f):Dn ts n s p d kn wt (fun x=>seen x\/x=r):=
 ⟨h.dm.skip ⟨f,hr⟩,h.ln,h.bk,h.bd,h.bw⟩
theorem Dn.wait {n:Int}{ts:List T3}(g:GW n ts){s p d:Int}{kn:List (Option Int)}{wt:Int->Option Int}{seen:Int->Prop}(h:Dn ts n s p d kn wt seen){r l:Int}(ha:Adj ts p r l)(hr:fnl kn r=none) :
 Dn ts n s p d kn (fun x=>if x=r then some (if (wt r).getD (d+l)<d+l then (wt r).getD (d+l) else d+l) else wt x) (fun x=>seen x\/x=r):=by
 have hl:=g.adj ha
 have hf:(wt r=none/\(if (wt r).getD (d+l)<d+l then (wt r).getD (d+l) else d+l)=d+l)\/∃e,wt r=some e/\(if (wt r).getD (d+l)<d+l then (wt r).getD (d+l) else d+l)=min (d+l) e:=by
  cases e:wt r with
  | none=>exact .inl ⟨rfl,by simp⟩
  | some x=>
   refine .inr ⟨x,rfl,?_⟩
   simp only[Option.getD_some]
   split <;> omega
 refine⟨h.dm.wait g ha hr hf,h.ln,h.bk,h.bd,fun q e hq=>?_⟩
 by_cases e':q=r
 . rw[if_pos e'] at hq
   have hd:=h.bd
   have e2:=zR hq
   refine⟨?_,by omega,by omega⟩
   split at e2 <;> omega
 . rw[if_neg e'] at hq;exact h.bw q e hq
theorem Dn.leave {n:Int}{ts:List T3}{s p d:Int}{kn:List (Option Int)}{wt:Int->Option Int}{seen:Int->Prop}(h:Dn ts n s p d kn wt seen)(hs:∀r l,Adj ts p r l->seen r):Dl ts n s kn wt:=
 ⟨h.dm.leave hs,h.ln,h.bk,h.bw⟩
structure zI6 (ts:List T3)(n s:Int)(kn:List (Option Int)):Prop where
 ln:kn.length=n.toNat
 len:∀y,0<=y->y<n->Len ts s y (fnl kn y)
 bd:∀o∈kn,∀d,o=some d->0<=d/\d<=2376
theorem Dl.done {n:Int}{ts:List T3}(g:GW n ts){s:Int}{kn:List (Option Int)}{wt:Int->Option Int}(h:Dl ts n s kn wt)(hw:∀q,wt q=none):zI6 ts n s kn:=by
 refine⟨h.ln,fun y _ _=>h.dj.done g hw y,fun o ho d e=>?_⟩
 obtain⟨j,hj,ej⟩:=zd ho
 have hf:fnl kn (j:Int)=some d:=by
  unfold fnl
  rw[if_pos (by omega),zD,zBH,zA hj,ej,e];rfl
 have h1:=h.bk _ _ hf
 have h2:=(h.dj.kd _ _ hf).1.nn g
 have h3:=zIo kn
 have:=h.ln
 have:=g.n24
 omega
end WM
namespace WM
noncomputable def oadd:Option Int->Option Int->Option Int
 | some a,some b=>some (a+b)
 | _,_=>none
noncomputable def oles:Option Int->Option Int->Option Int
 | none,o=>o
 | some a,none=>some a
 | some a,some b=>some (if b<a then b else a)
variable {ts:List T3}
theorem zEZ.mono {k k' x y d:Int}(h:zEZ ts k x y d)(hk:k<=k'):zEZ ts k' x y d:=by
 induction h with
 | nil=>exact .nil _
 | tie ha=>exact .tie ha
 | cons ha hz _ ih=>exact .cons ha (by omega) ih
structure Fm (ts:List T3)(n k:Int)(F:Int->Int->Option Int)(done:Int->Int->Prop):Prop where
 fw:Fw ts n F
 cv:Cov ts n k F
 dn:∀x y d,0<=x->x<n->0<=y->y<n->done x y->zEZ ts (k+1) x y d->∃e,F x y=some e/\e<=d
variable {o p:Option Int}
theorem zK9 {d:Int}(h:(∃e,o=some e/\e<=d)\/∃e,p=some e/\e<=d):∃e,oles o p=some e/\e<=d:=by
 rcases h with ⟨e,rfl,h⟩ | ⟨e,rfl,h⟩
 . cases p with
   | none=>exact⟨e,rfl,h⟩
   | some b=>exact⟨_,rfl,by split <;> omega⟩
 . cases o with
   | none=>exact⟨e,rfl,h⟩
   | some a=>exact⟨_,rfl,by split <;> omega⟩
theorem zK8 {d:Int}(h:oles o p=some d):o=some d\/p=some d:=by
 cases o with
 | none=>exact .inr h
 | some a=>
  cases p with
  | none=>exact .inl h
  | some b=>
   have e:(if b<a then b else a)=d:=zR h
   split at e
   . exact .inr (by rw[e])
   . exact .inl (by rw[e])
theorem zFU {d:Int}(h:oadd o p=some d):∃a b,o=some a/\p=some b/\a+b=d:=by
 cases o with
 | none=>cases h
 | some a=>
  cases p with
  | none=>cases h
  | some b=>exact⟨a,b,rfl,rfl,zR h⟩
variable {n a b:Int}{F:Int->Int->Option Int}
theorem Fm.step (g:GW n ts){k:Int}{done:Int->Int->Prop}(h:Fm ts n k F done)(ha:0<=a)(ha':a<n)(hb:0<=b)(hb':b<n)(hk:0<=k)(hk':k<n) :
 Fm ts n k (fun x y=>if x=a/\y=b then oles (F a b) (oadd (F a k) (F k b)) else F x y) (fun x y=>done x y\/(x=a/\y=b)):=by
 have snd:∀d,oles (F a b) (oadd (F a k) (F k b))=some d->Way ts a b d:=fun d hd=>by
  rcases zK8 hd with e | e
  . exact h.fw.snd a b d ha ha' hb hb' e
  . obtain⟨d1,d2,e1,e2,rfl⟩:=zFU e
    exact (h.fw.snd a k d1 ha ha' hk hk' e1).trans (h.fw.snd k b d2 hk hk' hb hb' e2)
 have cov1:∀d,zEZ ts (k+1) a b d->∃e,oles (F a b) (oadd (F a k) (F k b))=some e/\e<=d:=fun d w=>by
  refine zK9 ?_
  rcases w.split g with q | ⟨d1,d2,q1,q2,hle⟩
  . exact .inl (h.cv a b d ha ha' hb hb' q)
  . obtain⟨e1,f1,l1⟩:=h.cv a k d1 ha ha' hk hk' q1
    obtain⟨e2,f2,l2⟩:=h.cv k b d2 hk hk' hb hb' q2
    exact .inr ⟨e1+e2,by rw[f1,f2];rfl,by omega⟩
 refine⟨⟨fun x y d hx hx' hy hy' e=>?_⟩,fun x y d hx hx' hy hy' w=>?_,fun x y d hx hx' hy hy' hd w=>?_⟩
 . by_cases c:x=a/\y=b
   . rw[if_pos c] at e;rw[c.1,c.2];exact snd d e
   . rw[if_neg c] at e;exact h.fw.snd x y d hx hx' hy hy' e
 . by_cases c:x=a/\y=b
   . rw[if_pos c];rw[c.1,c.2] at w;exact cov1 d (w.mono (by omega))
   . rw[if_neg c];exact h.cv x y d hx hx' hy hy' w
 . by_cases c:x=a/\y=b
   . rw[if_pos c];rw[c.1,c.2] at w;exact cov1 d w
   . rw[if_neg c];exact h.dn x y d hx hx' hy hy' (hd.resolve_right c) w
theorem Fm.enter {k:Int}(h:Fw ts n F)(c:Cov ts n k F):Fm ts n k F (fun _ _=>False):=⟨h,c,fun _ _ _ _ _ _ _ z=>z.elim⟩
theorem Fm.leave {k:Int}{done:Int->Int->Prop}(h:Fm ts n k F done)(hd:∀x y,0<=x->x<n->0<=y->y<n->done x y):Fw ts n F/\Cov ts n (k+1) F:=
 ⟨h.fw,fun x y d hx hx' hy hy' w=>h.dn x y d hx hx' hy hy' (hd x y hx hx' hy hy') w⟩
noncomputable def Ft (ts:List T3)(n:Int)(F:Int->Int->Option Int):Prop:=∀x y d,0<=x->x<n->0<=y->y<n->(F x y=some d↔(x=y/\d=0)\/Adj ts x y d)
theorem Ft.fw (g:GW n ts)(h:Ft ts n F):Fw ts n F/\Cov ts n 0 F:=by
 refine⟨⟨fun x y d hx hx' hy hy' e=>?_⟩,fun x y d hx hx' hy hy' w=>?_⟩
 . rcases (h x y d hx hx' hy hy').mp e with ⟨rfl,rfl⟩ | ha
   . exact .nil x
   . exact .one ha
 . refine⟨d,(h x y d hx hx' hy hy').mpr ?_,zB5 _⟩
   rcases w.zero g with q | q
   . exact .inl q
   . exact .inr q
theorem Ft.nil (n:Int)(h:∀x y,0<=x->x<n->0<=y->y<n->F x y=if x=y then some 0 else none):Ft [] n F:=fun x y d hx hx' hy hy'=>by
 rw[h x y hx hx' hy hy']
 constructor
 . intro e
   split at e
   . rename_i c;exact .inl ⟨c,(zR e).symm⟩
   . cases e
 . rintro (⟨rfl,rfl⟩ | ha)
   . rw[if_pos rfl]
   . rcases ha with z | z <;> simp at z
theorem Ft.put {pre post:List T3}{l:Int}(g:GW n (pre++(a,b,l)::post))(h:Ft pre n F) :
 Ft (pre++[(a,b,l)]) n (fun x y=>if x=b/\y=a then some l else if x=a/\y=b then some l else F x y):=fun x y d hx hx' hy hy'=>by
 have hr:=g.rng (a,b,l) (by simp)
 simp only at hr
 have sub:∀{x y d:Int},Adj pre x y d->Adj (pre++(a,b,l)::post) x y d:=fun z=>z.elim (fun z=>.inl (zAE _ z)) fun z=>.inr (zAE _ z)
 have own:Adj (pre++(a,b,l)::post) a b l:=.inl (by simp)
 have hadj:Adj (pre++[(a,b,l)]) x y d↔Adj pre x y d\/(x=a/\y=b/\d=l)\/(x=b/\y=a/\d=l):=by
  unfold Adj
  simp only[zu,zk,Prod.mk.injEq]
  constructor
  . rintro ((z | z) | (z | z))
    . exact .inl (.inl z)
    . exact .inr (.inl z)
    . exact .inl (.inr z)
    . exact .inr (.inr ⟨z.2.1,z.1,z.2.2⟩)
  . rintro ((z | z) | z | z)
    . exact .inl (.inl z)
    . exact .inr (.inl z)
    . exact .inl (.inr z)
    . exact .inr (.inr ⟨z.2.1,z.1,z.2.2⟩)
 rw[hadj]
 show (if x=b/\y=a then some l else if x=a/\y=b then some l else F x y)=some d↔_
 by_cases c1:x=b/\y=a
 . rw[if_pos c1]
   constructor
   . intro e;exact .inr (.inr (.inr ⟨c1.1,c1.2,(zR e).symm⟩))
   . rintro (⟨e,_⟩ | z | ⟨e1,e2,e3⟩ | ⟨_,_,e3⟩)
     . omega
     . have z':=sub z;rw[c1.1,c1.2] at z';rw[g.uniq z' own.symm]
     . rw[e3]
     . rw[e3]
 . rw[if_neg c1]
   by_cases c2:x=a/\y=b
   . rw[if_pos c2]
     constructor
     . intro e;exact .inr (.inr (.inl ⟨c2.1,c2.2,(zR e).symm⟩))
     . rintro (⟨e,_⟩ | z | ⟨e1,e2,e3⟩ | ⟨_,_,e3⟩)
       . omega
       . have z':=sub z;rw[c2.1,c2.2] at z';rw[g.uniq z' own]
       . rw[e3]
       . rw[e3]
   . rw[if_neg c2,h x y d hx hx' hy hy']
     constructor
     . rintro (z | z)
       . exact .inl z
       . exact .inr (.inl z)
     . rintro (z | z | z | z)
       . exact .inl z
       . exact .inr z
       . exact absurd ⟨z.1,z.2.1⟩ c2
       . exact absurd ⟨z.1,z.2.1⟩ c1
noncomputable def mat (M:List (List (Option Int)))(x y:Int):Option Int:=if 0<=x then fnl (M.getD x.toNat []) y else none
noncomputable def zHL (M:List (List (Option Int)))(a b:Int)(v:Option Int):List (List (Option Int)):=M.set a.toNat ((M.getD a.toNat []).set b.toNat v)
structure Sqm (n:Int)(M:List (List (Option Int))):Prop where
 ln:M.length=n.toNat
 rw_:∀r∈M,r.length=n.toNat
variable {M:List (List (Option Int))}
theorem Sqm.row (h:Sqm n M)(ha:0<=a)(ha':a<n):∃r,M[a.toNat]? = some r/\M.getD a.toNat []=r/\r.length=n.toNat:=by
 have hl:=h.ln
 have hlt:a.toNat<M.length:=by omega
 exact⟨M[a.toNat],zA hlt,by rw[zD,zA hlt];rfl,h.rw_ _ (zAX hlt)⟩
theorem Sqm.set (h:Sqm n M){v:Option Int}(ha:0<=a)(ha':a<n):Sqm n (zHL M a b v):=by
 obtain⟨r,h1,h2,h3⟩:=h.row ha ha'
 refine⟨by unfold zHL;rw[zAg];exact h.ln,fun q hq=>?_⟩
 unfold zHL at hq
 rcases List.mem_or_eq_of_mem_set hq with z | z
 . exact h.rw_ q z
 . rw[z,zAg,h2,h3]
theorem zF7 (h:Sqm n M){v:Option Int}(ha:0<=a)(ha':a<n)(hb:0<=b)(hb':b<n){x y:Int}(hx:0<=x)(hx':x<n) :
 mat (zHL M a b v) x y=if x=a/\y=b then v else mat M x y:=by
 obtain⟨r,h1,h2,h3⟩:=h.row ha ha'
 have hl:=h.ln
 unfold mat zHL
 rw[if_pos hx,if_pos hx,zD,List.getElem?_set]
 by_cases e:x=a
 . subst e
   rw[if_pos rfl,if_pos (by omega),Option.getD_some,h2,zIb hb (by omega)]
   by_cases e2:y=b
   . rw[if_pos e2,if_pos ⟨rfl,e2⟩]
   . rw[if_neg e2,if_neg fun z=>e2 z.2]
 . rw[if_neg (by omega),if_neg fun z=>e z.1,<-zD]
theorem Fm.congr {k:Int}{G:Int->Int->Option Int}{done done':Int->Int->Prop}(h:Fm ts n k F done)(e:∀x y,0<=x->x<n->0<=y->y<n->G x y=F x y)(hd:∀x y,0<=x->x<n->0<=y->y<n->done' x y->done x y):Fm ts n k G done':=
 ⟨⟨fun x y d a b c d' z=>h.fw.snd x y d a b c d' (by rw[<-e x y a b c d'];exact z)⟩,fun x y d a b c d' w=>by rw[e x y a b c d'];exact h.cv x y d a b c d' w,fun x y d a b c d' z w=>by rw[e x y a b c d'];exact h.dn x y d a b c d' (hd x y a b c d' z) w⟩
theorem Ft.congr {G:Int->Int->Option Int}(h:Ft ts n F)(e:∀x y,0<=x->x<n->0<=y->y<n->G x y=F x y):Ft ts n G:=fun x y d a b c d'=>by rw[e x y a b c d'];exact h x y d a b c d'
noncomputable def Rows (ts:List T3)(n:Int)(M:List (List (Option Int))):Prop:=M.length=n.toNat/\∀x,0<=x->x<n->zI6 ts n x (M.getD x.toNat [])
theorem zE6 (g:GW n ts)(x y:Int)(hx:0<=x)(hx':x<n)(d:Int)(h:IsD ts x y d):0<=d/\d<=2376:=by
 have ex:∀(m:Nat)(kn:List (Option Int))(wt:Int->Option Int),Dl ts n x kn wt->n.toNat-cnt kn<=m->(∃L:List Int,∀q e,wt q=some e->q∈L)->∃kn',zI6 ts n x kn':=by
  intro m
  induction m with
  | zero=>
   intro kn wt D hm _
   refine⟨kn,D.done g fun q=>?_⟩
   cases e:wt q with
   | none=>rfl
   | some d=>
    have hk:=(D.dj.wk q d e).1
    obtain⟨_,h0,h1⟩:=D.bw q d e
    have hl:=D.ln
    have hlt:q.toNat<kn.length:=by omega
    have hn:kn[q.toNat]? = some none:=by
     unfold fnl at hk
     rw[if_pos h0,zD,zA hlt] at hk
     rw[zA hlt]
     exact congrArg some hk
    have h1:=zGB (d:=0) hn
    have h2:=zIo (kn.set q.toNat (some 0))
    rw[zAg] at h2
    omega
  | succ m ih=>
   intro kn wt D hm hL
   by_cases hw:∀q,wt q=none
   . exact⟨kn,D.done g hw⟩
   . -- pick the nearest
     obtain⟨L,hL⟩:=hL
     have pick:∀L:List Int,(∃q∈L,(wt q).isSome)->∃p d,wt p=some d/\∀q∈L,∀e,wt q=some e->d<=e:=by
      intro L
      induction L with
      | nil=>rintro ⟨q,hq,_⟩;simp at hq
      | cons z L ihL=>
       rintro ⟨q,hq,hs⟩
       by_cases hr:∃q∈L,(wt q).isSome
       . obtain⟨p,d,hp,hmin⟩:=ihL hr
         cases ez:wt z with
         | none=>
          refine⟨p,d,hp,fun q' hq' e he=>?_⟩
          rcases zm.mp hq' with rfl | hq'
          . rw[ez] at he;cases he
          . exact hmin q' hq' e he
         | some dz=>
          by_cases hz:dz<d
          . refine⟨z,dz,ez,fun q' hq' e he=>?_⟩
            rcases zm.mp hq' with rfl | hq'
            . rw[ez] at he;cases he;exact zB5 _
            . have:=hmin q' hq' e he;omega
          . refine⟨p,d,hp,fun q' hq' e he=>?_⟩
            rcases zm.mp hq' with rfl | hq'
            . rw[ez] at he;cases he;omega
            . exact hmin q' hq' e he
       . rcases zm.mp hq with rfl | hq
         . obtain⟨d,hd⟩:=zA4.mp hs
           refine⟨q,d,hd,fun q' hq' e he=>?_⟩
           rcases zm.mp hq' with rfl | hq'
           . rw[hd] at he;cases he;exact zB5 _
           . exact absurd ⟨q',hq',by rw[he];rfl⟩ hr
         . exact absurd ⟨q,hq,hs⟩ hr
     obtain⟨p,d,hp,hmin⟩:=pick L (by
      apply zAo
      intro hno
      refine hw fun q=>?_
      cases e:wt q with
      | none=>rfl
      | some d=>exact absurd ⟨q,hL q d e,by rw[e];rfl⟩ hno)
     obtain⟨hn,h0,h1,hc,N⟩:=D.enter g hp (fun q e he=>hmin q (hL q e he) e he)
     have all:∀(ns:List (Int×Int))(wt':Int->Option Int)(seen:Int->Prop),Dn ts n x p d (kn.set p.toNat (some d)) wt' seen->(∃L:List Int,∀q e,wt' q=some e->q∈L)->(∀r l,(r,l)∈ns->Adj ts p r l) ->
      ∃(wt'':Int->Option Int)(seen':Int->Prop),Dn ts n x p d (kn.set p.toNat (some d)) wt'' seen'/\(∃L:List Int,∀q e,wt'' q=some e->q∈L)/\(∀r,seen r->seen' r)/\∀r l,(r,l)∈ns->seen' r:=by
      intro ns
      induction ns with
      | nil=>intro wt' seen N hL _;exact⟨wt',seen,N,hL,fun _ z=>z,fun r l z=>by simp at z⟩
      | cons t ns ih'=>
       intro wt' seen N hL' ha
       obtain⟨r,l⟩:=t
       have har:=ha r l zl
       have ha':∀r l,(r,l)∈ns->Adj ts p r l:=fun r l z=>ha r l (zv _ z)
       cases ek:fnl (kn.set p.toNat (some d)) r with
       | some f=>
        obtain⟨w2,s2,N2,L2,m2,a2⟩:=ih' wt' _ (N.skip ek) hL' ha'
        refine⟨w2,s2,N2,L2,fun q z=>m2 q (.inl z),fun q l' z=>?_⟩
        rcases zm.mp z with e | z
        . cases e;exact m2 _ (.inr rfl)
        . exact a2 q l' z
       | none=>
        obtain⟨L',hL'⟩:=hL'
        obtain⟨w2,s2,N2,L2,m2,a2⟩:=ih' _ _ (N.wait g har ek) ⟨r::L',fun q e he=>by
         by_cases e':q=r
         . rw[e'];exact zl
         . rw[if_neg e'] at he;exact zv _ (hL' q e he)⟩ ha'
        refine⟨w2,s2,N2,L2,fun q z=>m2 q (.inl z),fun q l' z=>?_⟩
        rcases zm.mp z with e | z
        . cases e;exact m2 _ (.inr rfl)
        . exact a2 q l' z
     have nbr:∃ns:List (Int×Int),(∀r l,(r,l)∈ns->Adj ts p r l)/\∀r l,Adj ts p r l->(r,l)∈ns:=by
      refine⟨(ts.filterMap fun t=>if t.1=p then some (t.2.1,t.2.2) else none)++(ts.filterMap fun t=>if t.2.1=p then some (t.1,t.2.2) else none),fun r l z=>?_,fun r l z=>?_⟩
      . rcases zu.mp z with z | z
        . obtain⟨⟨a,b,c⟩,ht,e⟩:=zA9.mp z
          split at e
          . rename_i c1
            have c1':a=p:=c1
            have e':=zR e
            simp only[Prod.mk.injEq] at e'
            obtain⟨rfl,rfl⟩:=e'
            subst c1'
            exact .inl ht
          . cases e
        . obtain⟨⟨a,b,c⟩,ht,e⟩:=zA9.mp z
          split at e
          . rename_i c1
            have c1':b=p:=c1
            have e':=zR e
            simp only[Prod.mk.injEq] at e'
            obtain⟨rfl,rfl⟩:=e'
            subst c1'
            exact .inr ht
          . cases e
      . rcases z with z | z
        . exact zAE _ (zA9.mpr ⟨_,z,by simp⟩)
        . exact zj _ (zA9.mpr ⟨_,z,by simp⟩)
     obtain⟨ns,hns1,hns2⟩:=nbr
     obtain⟨w2,s2,N2,L2,_,a2⟩:=all ns _ _ N ⟨L,fun q e he=>by
      by_cases e':q=p
      . rw[if_pos e'] at he;cases he
      . rw[if_neg e'] at he;exact hL q e he⟩ hns1
     exact ih _ _ (N2.leave fun r l ha=>a2 r l (hns2 r l ha)) (by omega) L2
 obtain⟨kn,K⟩:=ex n.toNat _ _ (Dl.start g hx hx') (by omega) ⟨[x],fun q e he=>by
  by_cases e':q=x
  . simp[e']
  . rw[if_neg e'] at he;cases he⟩
 have hy:(0<=y/\y<n)\/y=x:=by
  have:∀{x y d:Int},Way ts x y d->x=y\/(0<=y/\y<n):=by
   intro x y d w
   induction w with
   | nil=>exact .inl rfl
   | cons ha _ ih=>
    rcases ih with rfl | q
    . have:=g.adj ha;exact .inr ⟨this.2.2.1,this.2.2.2.1⟩
    . exact .inr q
  rcases this h.1 with e | q
  . exact .inr e.symm
  . exact .inl q
 have hy':0<=y/\y<n:=hy.elim id fun e=>by omega
 have hl:=K.len y hy'.1 hy'.2
 have hlen:=K.ln
 have hlt:y.toNat<kn.length:=by omega
 have e1:fnl kn y=kn[y.toNat]:=by
  unfold fnl
  rw[if_pos hy'.1,zD,zA hlt];rfl
 have e2:=Len.uniq hl (show Len ts x y (some d) from h)
 exact K.bd _ (zAX hlt) d (by rw[<-e1];exact e2)
theorem zKu (g:GW n ts)(h:Sqm n M)(f:Fw ts n (mat M))(c:Cov ts n n (mat M)):Rows ts n M:=by
 refine⟨h.ln,fun x hx hx'=>?_⟩
 obtain⟨r,h1,h2,h3⟩:=h.row hx hx'
 have e:∀y,mat M x y=fnl r y:=fun y=>by unfold mat;rw[if_pos hx,h2]
 rw[h2]
 refine⟨h3,fun y hy hy'=>by rw[<-e];exact f.len g c hx hx' hy hy',fun o ho d ed=>?_⟩
 obtain⟨j,hj,ej⟩:=zd ho
 have hf:fnl r (j:Int)=some d:=by
  unfold fnl
  rw[if_pos (by omega),zD,zBH,zA hj,ej,ed];rfl
 have hl:=f.len g c hx hx' (y:=(j:Int)) (by omega) (by omega)
 rw[e,hf] at hl
 exact zE6 g x j hx hx' d hl
end WM
namespace WM
noncomputable def Btw (ts:List T3)(x y p:Int):Prop:=∃a b,IsD ts x p a/\IsD ts p y b/\IsD ts x y (a+b)
noncomputable def Nxt (ts:List T3)(x y p:Int):Prop:=∃l b,Adj ts x p l/\IsD ts p y b/\IsD ts x y (l+b)
variable {n x y:Int}{ts:List T3}
theorem Way.in_ (g:GW n ts){d:Int}(w:Way ts x y d)(hx:0<=x)(hx':x<n):0<=y/\y<n:=by
 induction w with
 | nil=>exact⟨hx,hx'⟩
 | cons ha _ ih=>have:=g.adj ha;exact ih this.2.2.1 this.2.2.2.1
theorem Way.least (g:GW n ts){d:Int}(h:Way ts x y d):∃e,IsD ts x y e:=by
 have:∀(m:Nat)(d:Int),Way ts x y d->d.toNat<=m->∃e,IsD ts x y e:=by
  intro m
  induction m with
  | zero=>
   intro d hd hm
   have:=hd.nn g
   have e:d=0:=by omega
   subst e
   exact⟨0,hd,fun f hf=>hf.nn g⟩
  | succ m ih=>
   intro d hd hm
   by_cases hl:∃f,Way ts x y f/\f<d
   . obtain⟨f,hf,hlt⟩:=hl
     have:=hf.nn g
     exact ih f hf (by omega)
   . refine⟨d,hd,fun f hf=>?_⟩
     apply zAo
     intro hn
     exact hl ⟨f,hf,by omega⟩
 exact this _ d h (zL _)
theorem Nxt.exists (g:GW n ts){d:Int}(h:IsD ts x y d)(hne:x≠y):∃p,Nxt ts x y p:=by
 obtain⟨hw,hmin⟩:=h
 cases hw with
 | nil=>exact absurd rfl hne
 | cons ha w=>
  rename_i z l e
  obtain⟨f,hf⟩:=w.least g
  have h1:=hf.2 _ w
  have h2:=hmin _ (.cons ha hf.1)
  have:f=e:=by omega
  subst this
  exact⟨z,l,f,ha,hf,.cons ha hf.1,hmin⟩
theorem Nxt.ne (g:GW n ts){p:Int}(h:Nxt ts x y p):x≠y:=by
 obtain⟨l,b,ha,hb,hd⟩:=h
 intro e
 subst e
 have:=IsD.uniq hd (zCS g x)
 have:=g.adj ha
 have:=hb.1.nn g
 omega
theorem Len.via {p a d:Int}{o:Option Int}(h1:IsD ts x p a)(h2:IsD ts x y d)(h3:Len ts p y o):∃b,o=some b/\d<=a+b:=by
 cases o with
 | none=>exact absurd (h1.1.symm.trans h2.1) (h3 _)
 | some b=>exact⟨b,rfl,h2.2 _ (h1.1.trans h3.1)⟩
end WM
namespace WM
end WM
namespace L2
open PySem PySem.Spec PyProof.Rows
noncomputable def intO:KeyOrd:=⟨Int,fun a b=>decide (a<b),fun a=>ze (by omega),fun a b c h1 h2=>zV (by have:=of_decide_eq_true h1;have:=of_decide_eq_true h2;omega),
 fun a b c h=>by
  have h':a<c:=of_decide_eq_true h
  by_cases hab:a<b
  . exact .inl (zV hab)
  . exact .inr (zV (by omega)),
 fun a b h1 h2=>by have:=of_decide_eq_false h1;have:=of_decide_eq_false h2;omega⟩
theorem zIw {prog:Program}{w:World}{A:Around}{s:Shared}{a:Addr}{vs:List Value}{ns:List Int}(hI:IntsAre vs ns)(h2:2<=vs.length) :
 SortT.Asks prog w A s a vs (O:=intO) (fun i=>ns.getD i 0) oneType':=by
 have hl:=hI.length
 have at_:∀i,i<vs.length->∃t,vs.getD i Value.none = .int (ns.getD i 0) t:=fun i hi=>by
  obtain⟨n,hn⟩:∃n,ns[i]? = some n:=⟨_,zA (by omega)⟩
  obtain⟨t,ht⟩:=hI.get i n hn
  exact⟨t,by rw[zD,zD,ht,hn];rfl⟩
 refine⟨fun h' Q E kh q=>?_,fun h' i j Q E kh hi hj q=>?_⟩
 . rw[ksk_kind (keys:=vs.toArray) (kz:=ns) (by simpa using hI) (by simpa using h2)]
   exact zH q
 . obtain⟨t,e1⟩:=at_ i hi
   obtain⟨u,e2⟩:=at_ j hj
   rw[e1,e2]
   exact PySem.W.kat_lt_int q
theorem zJP {vs:List Value}{ns:List Int}{out:List Nat}(hI:IntsAre vs ns)(p:SortT.Put (O:=intO) (fun i=>ns.getD i 0) vs.length out) :
 ∃ms:List Int,ms.Perm ns/\ms.Pairwise (· <= ·)/\zBR (ms.map V.int) (out.map fun i=>vs.getD i Value.none)/\ms.length=ns.length:=by
 have hl:=hI.length
 have hb:∀i∈out,i<vs.length:=fun i hi=>zCD.mp (p.perm.mem_iff.mp hi)
 refine⟨out.map fun i=>ns.getD i 0,?_,?_,?_,?_⟩
 . have h1:=p.perm.map fun i=>ns.getD i 0
   have h2:(List.range vs.length).map (fun i=>ns.getD i 0)=ns:=by
    rw[show vs.length=ns.length by omega]
    apply List.ext_getElem?
    intro j
    rw[zO]
    by_cases hj:j<ns.length
    . rw[List.getElem?_range hj,zA hj];simp[hj]
    . rw[zAw (by rw[zAn];omega),zAw (by omega)];rfl
   rw[h2] at h1
   exact h1
 . refine zAC.mpr fun i j hi hj hij=>?_
   rw[zB] at hi hj
   have:=p.rise i j out[i] out[j] (zBq hij) (by simp) (by simp)
   have h3:decide (ns.getD out[j] 0<ns.getD out[i] 0)=false:=this
   have h4:=of_decide_eq_false h3
   rw[List.getElem_map,List.getElem_map]
   omega
 . have:∀l:List Nat,(∀i∈l,i<vs.length)->zBR ((l.map fun i=>ns.getD i 0).map V.int) (l.map fun i=>vs.getD i Value.none):=by
    intro l
    induction l with
    | nil=>intro _;exact .nil
    | cons i l ih=>
     intro h
     have hi:=h i zl
     obtain⟨n,hn⟩:∃n,ns[i]? = some n:=⟨_,zA (by omega)⟩
     obtain⟨t,ht⟩:=hI.get i n hn
     refine .cons ?_ (ih fun j hj=>h j (zv _ hj))
     show zBi (V.int (ns.getD i 0)) (vs.getD i Value.none)
     rw[zD,zD,ht,hn]
     exact⟨t,rfl⟩
   exact this out hb
 . rw[zB,p.perm.length_eq,zAn];omega
section
variable {X:Cx}
theorem zCT (hc:X.calm=true):zCn X (.builtin "sorted") (fun xs H Q=>∃p kvs ns,xs=[.ref p]/\H p=some (.dK kvs)/\kvs.map (·.1)=ns.map Sum.inl/\ns.length<64 /\
 ∀(l:Addr)(ms:List Int),H l=none->ms.Perm ns->ms.Pairwise (· <= ·)->Q (.ref l) (upd H l (.lst (ms.map V.int)))):=by
 intro pins s σ H xs us Q I r h
 obtain⟨p,kvs,ns,rfl,hd,hks,h64,q⟩:=h
 obtain⟨u,rfl,rx⟩:=zCt r
 cases rx
 obtain⟨hz,lo,vs,rel,o,es,ep,ho,hx,hdat,_,hpr,hnd⟩:=zHE I.hok hd
 have key:∀(es:List DictEntry)(kvs:List (Key×V))(vs:List (Key×Value))(ns:List Int),KV kvs vs->Pairs (zAj X.prog X.w) es vs->kvs.map (·.1)=ns.map Sum.inl->IntsAre (es.map (·.key)) ns:=by
  intro es
  induction es with
  | nil=>
   intro kvs vs ns rel pr e
   cases pr
   cases rel
   cases ns with
   | nil=>exact .nil
   | cons n ns=>simp at e
  | cons d es ih=>
   intro kvs vs ns rel pr e
   cases pr with
   | cons k1 k2 k3=>
    cases rel with
    | cons hpq t=>
     cases ns with
     | nil=>simp at e
     | cons n ns=>
      simp only[zAS,List.cons.injEq] at e
      rw[<-hpq.1,e.1] at k1
      obtain⟨t0,e0⟩:=Value.isInt_shape (k:=n) (v:=d.key) k1
      rw[zAS,e0]
      exact .cons n t0 (ih _ _ _ t k3 e.2)
 have hI:IntsAre (es.toList.map (·.key)) ns:=key _ _ _ _ rel hpr hks
 have hl:=hI.length
 refine SortT.sorted_dict (O:=intO) (key:=fun i=>ns.getD i 0) (κ:=oneType') (vs:=es.toList.map (·.key)) (I.ok.hd hc) lo ⟨o,ho,hx,hdat⟩ rfl (by omega) (fun h2 s' a fa kp=>zIw hI h2) fun h1 D h' t' out c pt k1 hD k2 ho=>?_
 obtain⟨ms,hp,hr,rz,hlz⟩:=zJP hI pt
 have I1:Inv X pins σ H { s with heap:=h1,toks:=s.toks }:=I.kept k1
 refine⟨.ref D,_,zC9 (s:={ s with heap:=h1,toks:=s.toks }) (t':=t') I1 hD k2 ho rz ?_,rfl,q D ms (I1.hok.fresh hD) hp hr⟩
 have:sizeLine=16777216:=rfl
 rw[zB]
 omega
end
noncomputable def zI1 (c:Addr)(q:Str):Heap->Prop:=fun h=>∃o vs t,h.get? c=some o/\o.data = .fields vs/\vs[1]? = some (.str q t)
noncomputable def zC6 (H:Hp)(P:Addr)(pos:Pos)(q:Str):Prop:=∃ps,H P=some (.tbl ps)/\TriplesOk ps.toList/\(codeAmong pos ps.toList=none\/∃c,codeAmong pos ps.toList=some (.ref c)/\H c=some (.ext (zI1 c q)))
noncomputable def SmT (H H':Hp):Prop:=∀b o,H b=some o->(∃ps,o = .tbl ps)\/H' b=some o
theorem SmT.refl (H:Hp):SmT H H:=fun _ _ e=>.inr e
variable {H H':Hp}
theorem SmT.of (h:zA1 H H'):SmT H H':=fun b o e=>.inr (h b o e)
theorem SmT.trans {H1 H2:Hp}(a:SmT H H1)(b:SmT H1 H2):SmT H H2:=fun c o e=>by
 rcases a c o e with z | z
 . exact .inl z
 . exact b c o z
theorem zC6.keep {P:Addr}{pos:Pos}{q:Str}(h:zC6 H P pos q)(k:∀o,H P=some o->H' P=some o)(k2:∀c φ,H c=some (.ext φ)->H' c=some (.ext φ)):zC6 H' P pos q:=by
 obtain⟨ps,a,b,c⟩:=h
 exact⟨ps,k _ a,b,c.imp id fun ⟨c,e,f⟩=>⟨c,e,k2 _ _ f⟩⟩
theorem zC6.same {P:Addr}{pos:Pos}{q:Str}(h:zC6 H P pos q)(k:zA1 H H'):zC6 H' P pos q:=h.keep (fun _=>k _ _) fun _ _=>k _ _
noncomputable def zI2 (mg:Str->Option Value)(h:Heap):Prop:=∃bm ob,mg "__builtins__" = some (.ref bm)/\bm≠builtinsNs/\h.get? bm=some ob/\ob.cls = .type "module" /\ ob.dict=some builtinsNs/\ob.data = .plain
theorem zKI {h:Heap}{a:Addr}{m m':Str->Option Value}(x:h.Ns a m)(y:h.Ns a m'):m=m':=by
 obtain⟨o,es,ep,e,d,_,f⟩:=x
 obtain⟨o',es',ep',e',d',_,f'⟩:=y
 rw[e] at e';cases e'
 rw[d] at d';cases d'
 funext n
 rw[<-f n,<-f' n]
section
variable {X:Cx}{pins:List (Addr×Obj)}{σ:St}{H:Hp}{s:Shared}
theorem Inv.growL {Pt c':Addr}{ps more:Array Value}{o:HO}{t':Nat}{h':Heap}(I:Inv X pins σ H s)(hP:H Pt=some (.tbl ps))(hp:s.heap.objs.size<=c')(k:∀b u,b≠Pt->s.heap.get? b=some u->h'.get? b=some u)
 (newP:h'.get? Pt=some (PySem.W.tabObj (ps++more)))(new:zBs X.prog X.w (upd (upd H Pt (.tbl (ps++more))) c' o) h' c' o) :
 Inv X pins σ (upd (upd H Pt (.tbl (ps++more))) c' o) { s with heap:=h',toks:=t' }:=by
 have hc:H c'=none:=I.hok.fresh hp
 have nP:∀b,H b=none->b≠Pt:=fun b n z=>by rw[z,hP] at n;cases n
 have nc:∀b u,s.heap.get? b=some u->b≠c':=fun b u e=>zY (zt (zX e) hp)
 have up:∀b u,H b=some u->b≠Pt->(upd (upd H Pt (.tbl (ps++more))) c' o) b=some u:=fun b u e hb=>by rw[zZ (zh e hc),zZ hb];exact e
 refine I.un ⟨fun b u e n _ _=>k b u (nP b n) e,fun b u e n _ _=>⟨u.slots,k b u (nP b n) e⟩,fun b u e n _=>by rw[zZ (nc b u e),zZ (nP b n)];exact n,fun b u e _=>?_,fun b xs e=>up b _ e (zA5 e hP (by intro z;cases z)),fun b ob u e=>up b _ e (zA5 e hP (by intro z;cases z)),fun b qs e=>?_⟩ ?_
 . by_cases hb:b=Pt
   . rw[hb];exact⟨_,newP⟩
   . exact⟨u,k b u hb e⟩
 . by_cases hb:b=Pt
   . subst hb
     rw[hP] at e;cases e
     exact⟨more,by rw[zZ (zh hP hc),zJ]⟩
   . exact⟨#[],by rw[up b _ e hb];simp⟩
 . intro b u e
   by_cases hbc:b=c'
   . subst hbc;rw[zJ] at e;cases e;exact new
   . rw[zZ hbc] at e
     by_cases hb:b=Pt
     . subst hb;rw[zJ] at e;cases e;exact newP
     . rw[zZ hb] at e
       refine (I.hok b u e).stay (fun d v hd q=>k d v ?_ q) (fun d q=>up d _ q (zA5 q hP (by intro z;cases z))) fun d xs q=>up d _ q (zA5 q hP (by intro z;cases z))
       rcases hd with z | z
       . rw[z];exact hb
       . exact zA5 z hP (by intro z';cases z')
theorem lam_ev {P c:Addr}{params:Arguments}{body:Expr}{lscope:Scope}{lpos:Pos}{Q:Value->Shared->Prop}{E:Value->Shared->Prop}(I:Inv X pins σ H s)(T:zC6 H P lpos (X.env.qual ++ "<lambda>"))
 (hcode:X.env.code = .ref c)(C:PySem.W.CodeHd X.base c P)(hbm:zI2 X.mg X.base)(hfree:∀y∈lscope.names,y.2 = .free->X.env.kindOf y.1=some .cell)(hdef:defaultsOf params X.env=([],[]))
 (h:∀(f:Addr)(pm cv ctv:Value)(s':Shared)(H':Hp),Inv X pins σ H' s'->SmT H H'->zC6 H' P lpos (X.env.qual ++ "<lambda>")->s.heap.objs.size<=f ->
  s'.heap.get? f=some { cls:=.type "function",data:=.func (PySem.W.kla_fn "<lambda>" (X.env.qual ++ "<lambda>") params body lscope (zCs X.env.cells lscope.names []) pm cv ctv) } ->
  s'.heap.CodeRec cv (X.env.qual ++ "<lambda>")->Q (.ref f) s') :
 wpAny (model X.prog X.w) X.A (eval (.Lambda params body lscope lpos) X.env) Q E s:=by
 obtain⟨ps,hP,ht,hcase⟩:=T
 have oP:s.heap.get? P=some (PySem.W.tabObj ps):=I.hok P _ hP
 have hg:=I.mod.glob.keeps I.bk
 have C':PySem.W.CodeHd s.heap c P:=C.keeps I.bk
 have hcl:closureFor lscope X.env=pure (zCs X.env.cells lscope.names []):=zCb fun y hy hf=>I.ok.has y.1 (.inl (hfree y hy hf))
 have nP:∀b o,X.base.get? b=some o->b≠P:=fun b o e z=>by
  have:=(I.bs b o e).2
  rw[z,hP] at this;cases this
 have hgP:mainGlobals≠P:=by
  obtain⟨o,es,ep,e,_⟩:=I.mod.glob
  exact nP _ _ e
 have hb:s.heap.BuiltinsAt X.mg P:=by
  obtain⟨bm,ob,b1,b2,b3,b4,b5,b6⟩:=hbm
  refine⟨bm,ob,b1,b2,fun z=>?_,nP _ _ b3,I.bk _ _ b3,b4,b5,b6⟩
  obtain⟨o,es,ep,e,hd,_⟩:=I.mod.glob
  rw[z,e] at b3;cases b3;rw[hd] at b6;cases b6
 refine PySem.W.kla_eval hdef ?_
 rcases hcase with hn | ⟨c1,hc1,hH⟩
 . refine PySem.W.kla_makeFunction (mg:=X.mg) hcl I.ok.glob hg hcode C' oP ht hn hgP hb fun c' ctv h' tk hx hge hlt hrec htb=>?_
   obtain⟨c2,oc,vs,t,e2,hoc,hd,hv⟩:=id hrec
   cases e2
   have kp:∀b u,b≠P->s.heap.get? b=some u->(h'.push (PySem.W.kla_obj "<lambda>" (X.env.qual ++ "<lambda>") params body lscope (zCs X.env.cells lscope.names []) ((X.mg "__name__").getD .none) c' ctv)).get? b=some u:=fun b u hb' e=>zK _ (hx b u hb' e)
   have hcn:H c'=none:=I.hok.fresh hge
   have nPc:P≠c':=zh hP hcn
   refine h h'.objs.size ((X.mg "__name__").getD .none) (.ref c') ctv _ _ (I.growL (c':=c') (o:=.ext (zI1 c' (X.env.qual ++ "<lambda>"))) (t':=tk) hP hge kp (zK _ htb) ⟨⟨oc,vs,t,zK _ hoc,hd,hv⟩,⟨oc,zK _ hoc⟩,fun h1 h2 ⟨o1,v1,t1,a1,a2,a3⟩ k12=>⟨o1,v1,t1,k12 _ a1,a2,a3⟩⟩) ?_ ?_ ?_ ?_ ?_
   . intro b o e
     by_cases hbP:b=P
     . left
       rw[hbP,hP] at e
       exact⟨ps,(zR e).symm⟩
     . right
       rw[zZ (zh e hcn),zZ hbP];exact e
   . refine⟨ps ++ #[rawInt lpos.line,rawInt lpos.col,.ref c'],by rw[zZ nPc,zJ],?_,.inr ⟨c',?_,zJ⟩⟩
     . rw[Array.toList_append];exact TriplesOk_snoc _ _ _ _ ht
     . rw[Array.toList_append];exact codeAmong_snoc _ ht hn
   . have:=zBq (zAD hge hlt)
     exact this
   . exact zU _ rfl
   . exact hrec.keeps fun b o e=>zK _ e
 . obtain⟨⟨oc,vs,t,hoc,hd,hv⟩,_⟩:=I.hok c1 _ hH
   refine PySem.W.kla_makeFunctionHit (mg:=X.mg) hcl I.ok.glob hg hcode C' oP ht hc1 hb fun ctv h' tk hk hsz=>?_
   refine h h'.objs.size ((X.mg "__name__").getD .none) (.ref c1) ctv _ _ (I.kept (t':=tk) fun b u e=>zK _ (hk b u e)) (SmT.refl _) ⟨ps,hP,ht,.inr ⟨c1,hc1,hH⟩⟩ hsz (zU _ rfl) ⟨c1,oc,vs,t,rfl,zK _ (hk _ _ hoc),hd,hv⟩
end
theorem zLX {X:Cx}{sc:Scope}(h:(sc.names.all fun y=>y.2 != .free || X.env.kindOf y.1==some .cell)=true):∀y∈sc.names,y.2 = .free->X.env.kindOf y.1=some .cell:=fun y hy e=>by
 have a:=zAy.mp h y hy
 rw[e] at a
 simpa using a
section
variable {X:Cx}
noncomputable def zKW (j:Nat)(P:Addr)(lpos:Pos)(q:Str)(t:TA):TE:=fun σ H Q=>t σ H fun vs H1=>∃(l d:Addr)(ns:List Int)(kvs:List (Key×V))(val:Int->Int),vs=[.ref l]/\H1 l=some (.lst (ns.map V.int))/\ns≠[]/\σ[j]? = some (some (.ref d))/\H1 d=some (.dK kvs) /\
 (∀n∈ns,zBv kvs (Sum.inl n)=some (.int (val n)))/\zC6 H1 P lpos q/\∀(M:Int)(H2:Hp),M∈ns->(∀n∈ns,val M<=val n)->SmT H1 H2->zC6 H2 P lpos q->Q (.int M) H2
theorem zH2 {k j:Nat}{P c:Addr}{dn pn:Str}{e:Expr}{t:TA}{params:Arguments}{lscope:Scope}{lpos pos np p1 p2 p3 kpos:Pos}
 (hc:X.calm=true)(hr:zDN (k+1) X.A)(hg:Gl X "min") (hm:X.mg "min" = none) (he:PA X [e] t)(hcode:X.env.code = .ref c)(C:PySem.W.CodeHd X.base c P)(hbm:zI2 X.mg X.base)
 (hN:X.N[j]? = some dn)(hkd:X.env.kindOf dn=some .cell)(hS:lscope.kind = .function)(hco:lscope.isCoroutine=false)(hgen:lscope.isGenerator=false)(hcell:∀x∈lscope.names,x.2 ≠ .cell)
 (hfree:∀y∈lscope.names,y.2 = .free->X.env.kindOf y.1=some .cell)(hdn:lscope.names.lookup dn=some .free)(hpn:lscope.names.lookup pn=some .local)(hdef:defaultsOf params X.env=([],[]))
 (hbind:∀(q:Str)(body:Expr)(cl:List (Str×Addr))(pm cdv ct v:Value),bindArgs (PySem.W.kla_fn "<lambda>" q params body lscope cl pm cdv ct) ⟨[v],[]⟩=pure [(pn,v)])
 (hd1:(dn==("__debug__" : Str))=false:=by decide) (hd2:(dn==("__classdict__" : Str))=false:=by decide) (hd3:(pn==("__debug__" : Str))=false:=by decide)
 (hs1:backTo pos (starEach [e] X.env)=(false,eval e X.env)::backTo pos (starEach [] X.env):=by rfl)(hs2:(backTo pos (starEach [e] X.env)).any (·.1)=false:=by rfl) :
 PE X (.Call (.Name "min" np) [e] [⟨some "key",.Lambda params (.Subscript (.Name dn p1) (.Name pn p2) p3) lscope lpos,kpos⟩] pos) (zKW j P lpos (X.env.qual ++ "<lambda>") t):=by
 intro pins s σ H Q I h
 refine wpAny_Call_Name_kw (zCh I hg hm (by decide +kernel:bootBuiltins "min" = some (.builtin "min")) ?_)
 refine PyProof.Rows.callWith_kw (thn (he pos pins s σ H _ I h) fun us s1 ⟨vs,H1,I1,r,q1⟩=>?_) hs1 hs2
 obtain⟨l,d,ns,kvs,val,rfl,hl,hne,hσ,hdd,hval,T,q⟩:=q1
 obtain⟨u,rfl,rx⟩:=zCt r
 cases rx
 show wpAny _ _ (evalAll ((do let v <-eval (.Lambda params (.Subscript (.Name dn p1) (.Name pn p2) p3) lscope lpos) X.env;standAt pos;pure v)::[])) _ _ s1
 refine wpAny_evalAll_cons (zC (lam_ev I1 T hcode C hbm hfree hdef fun f pm cv ctv s2 H2 I2 sm T2 hfge hf hrec=>zC (wpAny_standAt (zH (wpAny_evalAll_nil ?_)))))
 show wpAny _ _ (call (.builtin "min") [.ref l] [(Str.ofString "key",.ref f)]) _ _ s2
 have keep2:∀b o,H1 b=some o->(∀ps,o ≠ .tbl ps)->H2 b=some o:=fun b o e ho=>by
  rcases sm b o e with ⟨ps,z⟩ | z
  . exact absurd z (ho ps)
  . exact z
 have hl2:H2 l=some (.lst (ns.map V.int)):=keep2 _ _ hl (by intro ps z;cases z)
 have hd2':H2 d=some (.dK kvs):=keep2 _ _ hdd (by intro ps z;cases z)
 obtain⟨_,its,nn,rv,ho⟩:=I2.hok l _ hl2
 obtain⟨hz,lo,vs,rel,od,es,ep,hod,hdr⟩:=zHE I2.hok hd2'
 have hI:IntsAre its ns:=zCF rv
 obtain⟨m,F0⟩:=I2.fr
 have notL:∀b o,H2 b=some o->b≠X.env.locals:=fun b o e z=>by rw[z,I2.free] at e;cases e
 have kp:∀(h':Heap)(own:List (Addr×Obj)),Fr X.base X.env.locals h' m->News X.base X.env.locals h' (zD5 X.base s2.heap X.env.locals++own)->∀b o,b≠X.env.locals->s2.heap.get? b=some o->h'.get? b=some o:=fun h' own F' N' b o hb e'=>by
  cases qb:X.base.get? b with
  | some u=>
   have z:=I2.bk b u qb
   rw[e'] at z;cases z
   exact F'.keep b _ qb
  | none=>exact (N' (b,o) (zAE _ (zF5 hb qb e'))).1
 obtain⟨m',hn',hloc⟩:=I2.loc
 have em:m'=m:=zKI hn' F0.ns
 subst em
 obtain⟨ud,rd,lk⟩:=hloc j dn (.ref d) hN hσ (.inr (.inl hkd))
 cases (show ud=Value.ref d from rd)
 obtain⟨cc,hcc,oc,hoc,hdc⟩:∃cc,X.env.cells.lookup dn=some cc/\s2.heap.IsCell cc (some (.ref d)):=by
  rcases lk with ⟨z,_⟩ | ⟨_,cc,a,b⟩
  . rw[hkd] at z;cases z
  . exact⟨cc,a,b⟩
 have hcl:(zCs X.env.cells lscope.names []).lookup dn=some cc:=by
  obtain⟨c',hc'⟩:=zCp ⟨cc,hcc⟩ lscope.names [] (PySem.mem_of_lookup hdn)
  rcases zC4 _ _ hc' with z | z
  . simp at z
  . rw[hcc] at z;cases z;exact hc'
 have hsz0:X.env.locals<s1.heap.objs.size:=I1.lt
 have hfL:f≠X.env.locals:=zAM (zt hsz0 hfge)
 refine PyProof.Rows.kmk_min_letter (h₀:=X.base) (L:=X.env.locals) (m:=m') (news:=zD5 X.base s2.heap X.env.locals) (ns:=ns) val (I2.ok.hd hc) F0 zJh (fun h' F' N'=>?_) hI (List.length_pos_iff.mpr hne) (fun n tn h' tk own hn F' N'=>?_) (fun M tM h' tk F' N' hM hbest=>?_)
 . exact⟨_,kp h' [] F' (by rw[zAB];exact N') l _ (notL _ _ hl2) ho,rfl,nn,rfl⟩
 . have kk:=kp h' own F' N'
   obtain⟨c1,o1,v1,t1,e1,ho1,hd1',hv1⟩:=id hrec
   subst e1
   have hc1L:c1≠X.env.locals\/True:=.inr trivial
   have rec':h'.CodeRec (.ref c1) (X.env.qual ++ "<lambda>"):=by
    refine⟨c1,o1,v1,t1,rfl,kk c1 o1 (fun z=>?_) ho1,hd1',hv1⟩
    obtain⟨oL,esL,epL,hoL,hdL,_⟩:=F0.ns
    rw[z,hoL] at ho1;cases ho1;rw[hdL] at hd1';cases hd1'
   refine wpAny_call (PySem.W.kla_callFunE hr.in1.depth (kk f _ hfL hf) rfl hco hgen rfl rec' ?_)
   rw[hbind]
   refine zH (wpAny_newFunctionEnv hcell (fun y hy=>?_) (fun h₁ hns hsb=>?_) hS)
   . obtain rfl:y=(pn,Value.int n tn):=zk.mp hy
     exact hpn
   . have hk₁:∀b o,h'.get? b=some o->h₁.get? b=some o:=fun b o e'=>hsb.extBut b o (zY (zX e')) (zK _ e')
     refine⟨I2.mod.nolimit.keeps fun b o e'=>hk₁ b o (F'.keep b o e'),?_⟩
     show codeAny _ _ (.expr (.Subscript (.Name dn p1) (.Name pn p2) p3) (PySem.W.envX (X.env.qual ++ "<lambda>") lscope h'.objs.size f (.ref c1) (zCs X.env.cells lscope.names []))) _ _
     refine PySem.W.kla_codeExpr (zHW PySem.F.slot_dict_getitem.lookup (fun _ _=>rfl) ?_)
     refine wpAny_Name (wpAny_loadName_free hS (show (PySem.W.envX (X.env.qual ++ "<lambda>") lscope h'.objs.size f (.ref c1) (zCs X.env.cells lscope.names [])).kindOf dn=some .free from hdn) hcl ⟨oc,hk₁ _ _ (kk cc oc (I2.cne dn cc hcc) hoc),hdc⟩ ?_ hd2) hd1
     refine wpAny_Name (wpAny_loadName_local hS (show (PySem.W.envX (X.env.qual ++ "<lambda>") lscope h'.objs.size f (.ref c1) (zCs X.env.cells lscope.names [])).kindOf pn=some .local from hpn) hns (v:=.int n tn) (by simp) ?_) hd3
     have dd:h₁.DictOf (zAj X.prog X.w) d vs:=⟨od,es,ep,hk₁ _ _ (kk d od (notL _ _ hd2') hod),hdr⟩
     refine⟨dd.typeIs,?_⟩
     obtain⟨w',hw,rw'⟩:=zGG.some_of (v:=.int (val n)) (o:=valueAt vs (Sum.inl n)) (by rw[<-hval n hn];exact rel.val (Sum.inl n))
     obtain⟨t',rfl⟩:=rw'
     refine wpAny_getItem_of (zDs (k:=Sum.inl n) ⟨tn,rfl⟩) dd.mapOf hw ?_
     exact⟨h₁,_,t',rfl,rfl,⟨F'.ns.keeps hk₁,fun b o e'=>hk₁ b o (F'.keep b o e'),F'.above⟩,fun p hp=>⟨hk₁ _ _ (N' p hp).1,(N' p hp).2⟩⟩
 . have kk:=kp h' [] F' (by rw[zAB];exact N')
   have I3:Inv X pins σ H2 { s2 with heap:=h',toks:=tk }:=by
    refine I2.step (g':=s2.gens) (d':=s2.drawn) (ch:=[]) (fun _ z=>nomatch z) (fun b o hb _ _ e' _=>kk b o hb e') (fun b o hb _ _ e' _=>⟨o.slots,kk b o hb e'⟩) (fun _ _ _ _ n=>n) (fun b o _ e'=>?_) (fun _ _ e'=>e') (fun _ _ _ e'=>e') (fun b ps e'=>⟨#[],by rw[e'];simp⟩) (fun mm hmm=>?_) ?_ I2.bare
    . by_cases hb:b=X.env.locals
      . obtain⟨oL,esL,epL,hoL,_⟩:=F'.ns
        exact⟨oL,by rw[hb];exact hoL⟩
      . exact⟨o,kk b o hb e'⟩
    . have:=zKI hmm F0.ns
      subst this
      exact F'.ns
    . intro b u e'
      refine (I2.hok b u e').stay (fun x v hx z=>kk x v ?_ z) (fun _ z=>z) fun _ _ z=>z
      rcases hx with z1 | z1
      . rw[z1];exact notL _ _ e'
      . exact notL _ _ z1
   exact⟨.int M,H2,I3,⟨tM,rfl⟩,q M H2 hM hbest sm T2⟩
end
theorem zIM {P:Program}{w:World}{K:PySem.W.Frag}{mg mb:Str->Option Value}{CX:CXT}{k:Nat}{fa a PT:Addr}{fd:FuncData}{x:Str}{sp:Sp}{s₁:Shared}{vs:List Value}{ns:List Int}
 (KX:K.In s₁.heap)(hns:s₁.heap.Ns mainGlobals mg)(hb:s₁.heap.Ns builtinsNs mb)(hbb:∀x:Str,x ≠ "__name__" -> mb x=bootBuiltins x) (hlim:s₁.heap.NoLimit)(hg:s₁.gens = #[])
 (ha:s₁.heap.get? a=some { cls:=.type "list",data:=.seq vs.toArray }) (hi:IntsAre vs ns)(hl:ns.length<=sizeLine)(hr:zDN k callerA)
 (hT:s₁.heap.get? PT=some (PySem.W.tabObj #[]))(hC:isCodeTable s₁.heap PT)(hK:PySem.W.noTabs K=true)(hbm:zI2 mg s₁.heap)
 (F:∀base:Heap,K.In base->base.Ns mainGlobals mg->zI2 mg base->zAq P w K mg base CX k fa fd [x] sp)(hbind:∀(s:Shared)(u:Value),BindsTo s fd ⟨[u],[]⟩ [(x,u)])
 (hsp:∀H:Hp,H PT=some (.tbl #[])->SqL K H a (ns.map V.int)->sp [.ref a] H (fun v _=>v = .bl true) fun _ _ _=>False)
 (hCX:∀H e s',CX [] H s₁ (fun _ _ _=>False) e s'->False) :
 codeAny (model P w) callerA (.call (.ref fa) ⟨[.ref a],[]⟩) (fun r s'=>r = .ok (.ret (.bool true))/\OldK s₁.heap s'.heap/\s'.os=s₁.os/\AllBare s'.gens) s₁:=by
 have rv:=zE7 hi
 have lenV:=hi.length
 have npa:PT≠a:=fun e=>by rw[e,ha] at hT;cases hT
 have kPT:K.lookup PT=none:=by
  cases q:K.lookup PT with
  | none=>rfl
  | some o=>
   have e:=KX PT o q
   rw[hT] at e
   cases e
   have h2:=zAy.mp hK (PT,_) (PySem.W.mem_of_lookupK q)
   exact absurd (show false=true from h2) zg
 have core:∀H:Hp,(∀b u,H b=some u->(b=PT/\u = .tbl #[])\/(b=a/\K.lookup a=none/\∃o xs,u = .frz o (.lst xs)))->H PT=some (.tbl #[])->SqL K H a (ns.map V.int)->HOk P w H s₁.heap ->
  codeAny (model P w) callerA (.call (.ref fa) ⟨[.ref a],[]⟩) (fun r s'=>r = .ok (.ret (.bool true))/\OldK s₁.heap s'.heap/\s'.os=s₁.os/\AllBare s'.gens) s₁:=by
  intro H hA hP hS hok
  have base_of:∀{b:Addr}{o:Obj},s₁.heap.get? b=some o->H b=none->(zI5 s₁.heap H).get? b=some o:=fun e n=>zJn e n
  have noA:∀{b:Addr}{o:Obj},s₁.heap.get? b=some o->(∀ps,o.data ≠ .fields ps)->(∀ps n,o.data ≠ .seq ps n)->H b=none:=fun {b o} e d1 d2=>by
   cases q:H b with
   | none=>rfl
   | some u=>
    rcases hA b u q with ⟨rfl,_⟩ | ⟨rfl,_⟩
    . rw[hT] at e;cases e;exact absurd rfl (d1 #[])
    . rw[ha] at e;cases e;exact absurd rfl (d2 _ _)
  have nsK:∀{b:Addr}{m:Str->Option Value},s₁.heap.Ns b m->(zI5 s₁.heap H).Ns b m:=fun {b m} ⟨o,es,ep,e,d,r⟩=>⟨o,es,ep,base_of e (noA e (fun ps z=>by rw[d] at z;cases z) (fun ps n z=>by rw[d] at z;cases z)),d,r⟩
  have hKb:K.In (zI5 s₁.heap H):=fun b o e=>base_of (KX b o e) (by
   cases q:H b with
   | none=>rfl
   | some u=>
    rcases hA b u q with ⟨rfl,_⟩ | ⟨rfl,z,_⟩
    . rw[kPT] at e;cases e
    . rw[z] at e;cases e)
  have hBm:zI2 mg (zI5 s₁.heap H):=by
   obtain⟨bm,ob,b1,b2,b3,b4,b5,b6⟩:=hbm
   exact⟨bm,ob,b1,b2,base_of b3 (noA b3 (fun ps z=>by rw[b6] at z;cases z) (fun ps n z=>by rw[b6] at z;cases z)),b4,b5,b6⟩
  have hM:Mod K mg (zI5 s₁.heap H):=⟨hKb,nsK hns,⟨mb,nsK hb,hbb⟩,let ⟨mc,h1,h2⟩:=hlim;⟨mc,nsK h1,h2⟩⟩
  have e0:Env0 P w K mg (zI5 s₁.heap H) callerA [] s₁ H:=⟨rfl,hM,fun b o e=>zLL e,Nat.le_of_eq (zIW _ _),trivial,fun b hb=>absurd (show b∈([]:List Addr) from hb) (by simp),hok,.of_eq hg⟩
  refine codeAny_mono ((F _ hKb (nsK hns) hBm).run callerA [] s₁ H ⟨[.ref a],[]⟩ [.ref a] [.ref a] _ _ hr e0 (hbind s₁ (.ref a)) (.cons rfl .nil) (hsp H hP hS)) fun r s' h=>?_
  cases r with
  | error e=>exact (hCX H e s' h).elim
  | ok fl=>
   cases fl with
   | next=>exact False.elim h
   | brk=>exact False.elim h
   | cont=>exact False.elim h
   | ret u=>
    obtain⟨v,H',os,bare,un,hok',r',q⟩:=h
    have q':v = .bl true:=q
    subst q'
    obtain rfl:u=Value.bool true:=r'
    obtain⟨more,hPn⟩:=un.tbls PT _ hP
    have objP:s'.heap.get? PT=some { cls:=.none,data:=.fields (#[]++more) }:=hok' PT _ hPn
    have keep:∀b o,b≠PT->s₁.heap.get? b=some o->s'.heap.get? b=some o:=fun b o hb e=>by
     cases q:H b with
     | none=>exact un.keep b o e q (by intro z;exact absurd (show b∈([]:List Addr) from z) (by simp)) (by simp)
     | some u=>
      rcases hA b u q with ⟨z,_⟩ | ⟨_,_,ob,xs,z⟩
      . exact absurd z hb
      . subst z
        have z2:=un.frzs b ob _ q
        obtain⟨e1,_⟩:=hok b _ q
        obtain⟨e2,_⟩:=hok' b _ z2
        rw[e] at e1;cases e1
        exact e2
    refine⟨rfl,⟨fun b o e=>?_,fun b o e=>?_⟩,os,bare⟩
    . by_cases hb:b=PT
      . subst hb
        rw[hT] at e;cases e
        exact .inr (.inl ⟨hC,rfl,#[],more,rfl,objP⟩)
      . exact .inl (keep b o hb e)
    . by_cases hb:b=PT
      . rw[hb];exact⟨_,objP⟩
      . exact⟨o,keep b o hb e⟩
 have okP:∀H:Hp,zBs P w H s₁.heap PT (.tbl #[]):=fun H=>hT
 cases hk:K.lookup a with
 | some o=>
  have e:=KX a o hk
  rw[ha] at e
  cases e
  refine core (fun b=>if b=PT then some (.tbl #[]) else none) (fun b u z=>?_) (if_pos rfl) (.inr ⟨_,vs.toArray,_,hk,rfl,rfl,rfl,by rw[zP,lenV];exact hl,by simpa using rv⟩) (fun b u z=>?_)
  all_goals
   have z':(if b=PT then some (HO.tbl #[]) else none)=some u:=z
   by_cases hb:b=PT
   . rw[if_pos hb] at z';cases z'
     first
      | exact .inl ⟨hb,rfl⟩
      | (subst hb;exact okP _)
   . rw[if_neg hb] at z';cases z'
 | none=>
  refine core (fun b=>if b=PT then some (.tbl #[]) else if b=a then some (.frz { cls:=.type "list",data:=.seq vs.toArray } (.lst (ns.map V.int))) else none) (fun b u z=>?_) (if_pos rfl)
   (.inl (.inr ⟨{ cls:=.type "list",data:=.seq vs.toArray },by show (if a=PT then _ else if a=a then _ else _)=_;rw[if_neg npa.symm,if_pos rfl]⟩)) (fun b u z=>?_)
  all_goals
   have z':(if b=PT then some (HO.tbl #[]) else if b=a then some (.frz { cls:=.type "list",data:=.seq vs.toArray } (.lst (ns.map V.int))) else none)=some u:=z
   by_cases hb:b=PT
   . rw[if_pos hb] at z';cases z'
     first
      | exact .inl ⟨hb,rfl⟩
      | (subst hb;exact okP _)
   . rw[if_neg hb] at z'
     by_cases hba:b=a
     . rw[if_pos hba] at z';cases z'
       first
        | exact .inr ⟨hba,hk,_,_,rfl⟩
        | (subst hba;exact⟨ha,by rw[zB];exact hl,vs,_,rv,ha⟩)
     . rw[if_neg hba] at z';cases z'
theorem walk_T {l:PySem.W.OpenLaw}{n k:Nat}{q:Program}{loose:List Str}{XP:(Str->Option Value)->Heap->Prop}{YP:World->Heap->Prop}{d:DefRec}{K:Params->PySem.W.Frag}{CX:CXT}{sp:PySem.W.Frag->Addr->Sp}{x tn:Str}
 (hn:l.most=some n)(hn2:n<=sizeLine)(hdf:d.params.defaults=[])(hr:zDN k callerA)(hrec:∃dn,(recsOf q).find? (fun e=>e.name==tn)=some dn)
 (hY:∀(w:World)(h:Heap),YP w h->(K w.params).In h)
 (F:∀(w:World)(mg:Str->Option Value)(fa:Addr)(h:Heap),(K w.params).In h->h.Ns mainGlobals mg->mg d.name=some (.ref fa) ->
  ∃(fd:FuncData)(c PT:Addr),PySem.W.tabIn (K w.params) tn=some (c,PT)/\PySem.W.noTabs (K w.params)=true/\(∀(s:Shared)(u:Value),BindsTo s fd ⟨[u],[]⟩ [(x,u)]) /\
   ∀base:Heap,(K w.params).In base->base.Ns mainGlobals mg->zI2 mg base->zAq l.prog w (K w.params) mg base CX k fa fd [x] (sp (K w.params) PT))
 (hsp:∀(K:PySem.W.Frag)(PT:Addr)(H:Hp)(a:Addr)(ns:List Int),ns.length<=n->H PT=some (.tbl #[])->SqL K H a (ns.map V.int)->sp K PT [.ref a] H (fun v _=>v = .bl true) fun _ _ _=>False)
 (hCX:∀(H:Hp)(s:Shared)(e:Value)(s':Shared),CX [] H s (fun _ _ _=>False) e s'->False) :
 PySem.W.WalkO q loose XP YP l.row.toRowW d [] (fun f vs=>PySem.call f vs):=by
 refine Att.attach_call hn hdf fun w s₀ s₁ mg mb fa o pm cd doc a vs ns G Y ho hd hcd hmg hobj hints hlen hg=>?_
 have KX:=hY w _ Y
 obtain⟨fd,c,PT,htab,hnt,hb,hF⟩:=F w mg fa _ KX G.T.g hmg
 obtain⟨dn,hdn⟩:=hrec
 obtain⟨C,hPT⟩:=PySem.W.tab_of G.T KX hdn htab
 exact zIM KX G.T.g G.T.b G.T.builtins G.T.nolimit hg hobj hints (zy hlen hn2) hr hPT (C.tab hPT).isCodeTable hnt G.T.bmain hF hb (fun H hP hS=>hsp _ PT H a ns hlen hP hS) fun H e s'=>hCX H s₁ e s'
end L2
namespace L2
open PySem PySem.Spec PyProof.Rows
structure zJ1 (K:PySem.W.Frag)(x qual:Str)(st:Stmt)(f:Addr)(fd:FuncData)(c:Addr):Prop where
 ex:∃(oc:Value)(od:Option Addr)(kV doc pm:Value)(an:Option Addr)(ct:Value)(osl:Array (Option Value)),
  fd=PySem.W.fnOf x qual (defArgs st) (defBody st) (defScope st) .none kV doc pm an (.ref c) ct/\K.lookup f=some ⟨oc,od,.func fd,osl⟩/\PySem.W.codeIn K (.ref c) qual=true
 kp:PySem.W.keepIn K (.ref f)=true
variable {K:PySem.W.Frag}{x qual:Str}{st:Stmt}{f c:Addr}
theorem zJ1.fn {fd:FuncData}(F:zJ1 K x qual st f fd c):Fun K x qual st f fd:=by
 obtain⟨oc,od,kV,doc,pm,an,ct,osl,h⟩:=F.ex
 exact⟨⟨oc,od,kV,doc,pm,an,.ref c,ct,osl,h⟩,F.kp⟩
theorem zJ1.ok {P:Program}{w:World}{mg:Str->Option Value}{base:Heap}{fd:FuncData}{N ps:List Str}{k:Nat}{sp:Sp}(F:zJ1 K x qual st f fd c)(S:zAR N ps (defScope st))(len:∀vs H Q E,sp vs H Q E->vs.length=ps.length)
 (hbody:∀(A:Around)(outer:List Env)(s:Shared)(H:Hp)(vs:List V)(Q:VK)(E:XK),zDN k (A.deeper (envOfC qual (defScope st) s.heap.objs.size f (.ref c)))->sp vs H Q E ->
  ∃t,PSs (zLd CX0 P w K mg base N qual (defScope st) f (.ref c) A outer s H E).nox (defBody st) t/\t { nx:=fun _ H'=>Q .non H',rt:=Q } (start N vs) H):zAq P w K mg base CX0 (k+1) f fd ps sp:=by
 obtain⟨oc,od,kV,doc,pm,an,ct,osl,rfl,lk,hcd⟩:=F.ex
 refine fn_of lk hcd S len fun A outer s H vs Q E hr hsp=>?_
 obtain⟨t,h,q⟩:=hbody A outer s H vs Q E hr hsp
 exact⟨t,h.nox,q⟩
theorem zLW {oc:Value}{od an:Option Addr}{osl:Array (Option Value)}{kV doc pm ct:Value}(l:K.lookup f=some ⟨oc,od,.func (PySem.W.fnOf x qual (defArgs st) (defBody st) (defScope st) .none kV doc pm an (.ref c) ct),osl⟩)
 (hc:PySem.W.codeIn K (.ref c) qual=true)(k:PySem.W.keepIn K (.ref f)=true):zJ1 K x qual st f (PySem.W.fnOf x qual (defArgs st) (defBody st) (defScope st) .none kV doc pm an (.ref c) ct) c:=⟨⟨oc,od,kV,doc,pm,an,ct,osl,rfl,l,hc⟩,k⟩
section
variable {κ:Type} [DecidableEq κ]
theorem zJj {kvs:List (κ×V)}{k:κ}{v:V}{kv:κ×V}(h:kv∈zCP kvs k v):kv∈kvs\/kv=(k,v):=by
 unfold zCP at h
 split at h
 . obtain⟨q,hq,e⟩:=zi.mp h
   by_cases hk:q.1=k
   . rw[if_pos hk] at e;rw[<-e,hk];exact .inr rfl
   . rw[if_neg hk] at e;rw[<-e];exact .inl hq
 . rcases zu.mp h with q | q
   . exact .inl q
   . exact .inr (zk.mp q)
theorem nd_put {kvs:List (κ×V)}{k:κ}{v:V}(h:(kvs.map (·.1)).Nodup):((zCP kvs k v).map (·.1)).Nodup:=by
 cases e:zBv kvs k with
 | none=>exact zIF v h e
 | some x=>
  have ha:(kvs.any fun kv=>decide (kv.1=k))=true:=by rw[zCA,e];rfl
  unfold zCP
  rw[if_pos ha]
  have e3:(kvs.map fun kv=>if kv.1=k then (kv.1,v) else kv).map (·.1)=kvs.map (·.1):=by
   rw[zAZ]
   refine zBb fun kv _=>?_
   show (if kv.1=k then (kv.1,v) else kv).1=kv.1
   split <;> rfl
  rw[e3];exact h
theorem zFA (k j:κ):∀kvs:List (κ×V),zBv (zCM kvs k) j=if j=k then none else zBv kvs j
 | []=>by show (none:Option V)=_;split <;> rfl
 | p::r=>by
  have ih:=zFA k j r
  by_cases e:p.1=k
  . rw[zFh e,ih]
    by_cases hj:j=k
    . rw[if_pos hj,if_pos hj]
    . rw[if_neg hj,if_neg hj,zBY fun z=>hj (z.symm.trans e)]
  . rw[zFi e]
    by_cases hj:p.1=j
    . rw[zBj hj,zBj hj,if_neg fun z=>e (hj.trans z)]
    . rw[zBY hj,zBY hj,ih]
end
noncomputable def unkW:Key->Int
 | .inl i=>i
 | .inr _=>0
structure WD (n:Int)(kvs:List (Key×V))(wt:Int->Option Int):Prop where
 sh:∀kv∈kvs,∃p d,kv=(Sum.inl p,V.int d)/\0<=p/\p<n
 nd:(kvs.map (·.1)).Nodup
 at_:∀p:Int,zBv kvs (Sum.inl p)=(wt p).map V.int
noncomputable def zEF (kvs:List (Key×V)):List Int:=kvs.map fun kv=>unkW kv.1
variable {kvs:List (Key×V)}{n:Int}{wt:Int->Option Int}
theorem WD.keys (h:WD n kvs wt):kvs.map (·.1)=(zEF kvs).map Sum.inl:=by
 unfold zEF
 rw[zAZ]
 refine zBb fun kv hkv=>?_
 obtain⟨p,d,e,_⟩:=h.sh kv hkv
 rw[e];rfl
theorem WD.nds (h:WD n kvs wt):(zEF kvs).Nodup:=by
 have e:=h.nd
 rw[h.keys,List.Nodup,zAW] at e
 exact e.imp fun h e'=>h (by rw[e'])
theorem WD.len (h:WD n kvs wt)(h0:0<=n):(kvs.length:Int)<=n:=by
 have:=WM.nd_len (n:=n.toNat) h.nds fun x hx=>by
  obtain⟨kv,hkv,e⟩:=zi.mp hx
  obtain⟨p,d,e2,h1,h2⟩:=h.sh kv hkv
  have:x=p:=by rw[<-e,e2];rfl
  omega
 unfold zEF at this
 rw[zB] at this
 omega
variable {p:Int}
theorem WD.mem (h:WD n kvs wt):p∈zEF kvs↔∃e,wt p=some e:=by
 have e:p∈zEF kvs↔(Sum.inl p:Key)∈kvs.map (·.1):=by
  rw[h.keys]
  constructor
  . intro m;exact zi.mpr ⟨p,m,rfl⟩
  . intro m
    obtain⟨q,hq,e⟩:=zi.mp m
    cases e;exact hq
 rw[e]
 have ha:=h.at_ p
 constructor
 . intro m
   cases hw:wt p with
   | some d=>exact⟨d,rfl⟩
   | none=>rw[hw] at ha;exact absurd m (zGH ha)
 . rintro ⟨d,hw⟩
   rw[hw] at ha
   exact zKT ha
theorem WD.one {s:Int}(h0:0<=s)(h1:s<n):WD n [(Sum.inl s,V.int 0)] (fun q=>if q=s then some 0 else none):=by
 refine⟨fun kv hkv=>?_,by simp,fun p=>?_⟩
 . rw[zk.mp hkv];exact⟨s,0,rfl,h0,h1⟩
 . by_cases e:p=s
   . rw[if_pos e,e];exact zBj rfl
   . rw[if_neg e];exact (zBY fun z=>e (Sum.inl.inj z).symm).trans zEb
theorem WD.put (h:WD n kvs wt){d:Int}(h0:0<=p)(h1:p<n):WD n (zCP kvs (Sum.inl p) (.int d)) (fun q=>if q=p then some d else wt q):=by
 refine⟨fun kv hkv=>?_,nd_put h.nd,fun q=>?_⟩
 . rcases zJj hkv with z | z
   . exact h.sh kv z
   . exact⟨p,d,z,h0,h1⟩
 . rw[zEa]
   by_cases e:q=p
   . rw[if_pos e,if_pos (by rw[e])];rfl
   . rw[if_neg e,if_neg fun z=>e (Sum.inl.inj z)];exact h.at_ q
theorem WD.drop (h:WD n kvs wt):WD n (zCM kvs (Sum.inl p)) (fun q=>if q=p then none else wt q):=by
 refine⟨fun kv hkv=>h.sh kv (zFj hkv),zEu h.nd,fun q=>?_⟩
 rw[zFA]
 by_cases e:q=p
 . rw[if_pos e,if_pos (by rw[e])];rfl
 . rw[if_neg e,if_neg fun z=>e (Sum.inl.inj z)];exact h.at_ q
noncomputable def oV:Option Int->V
 | none=>.non
 | some d=>.int d
theorem zGg {n:Nat}{i:Int}(h0:0<=i)(h1:i<n):ixN n i=some i.toNat:=by
 unfold ixN
 rw[if_pos h0,if_pos h1]
theorem zBI {α:Type}{xs:List α}{i:Int}{v:α}(h0:0<=i)(h:xs[i.toNat]? = some v):atI xs i=some v:=by
 have:=zCw h
 rwa [Int.toNat_of_nonneg h0] at this
variable {H:Hp}{o:HO}
theorem SmT.get {H':Hp}(k:SmT H H'){b:Addr}(e:H b=some o)(h:∀ps,o ≠ .tbl ps):H' b=some o:=by
 rcases k b o e with ⟨ps,z⟩ | z
 . exact absurd z (h ps)
 . exact z
theorem SmT.chg {H':Hp}{l:Addr}(k:SmT H H')(h:H l=none):SmT H (upd H' l o):=fun b u e=>by
 rcases k b u e with z | z
 . exact .inl z
 . right
   rw[zZ (zh e h)];exact z
theorem zC6.chg {P l:Addr}{pos:Pos}{q:Str}{xs:List V}(T:zC6 H P pos q)(h:H l=some (.lst xs)):zC6 (upd H l o) P pos q:=by
 obtain⟨ps,hps,_⟩:=id T
 refine T.keep (fun u hu=>?_) fun c φ hc=>?_
 . rw[zZ (zA5 hps h (by intro z;cases z))];exact hu
 . rw[zZ (zA5 hc h (by intro z;cases z))];exact hc
end L2
namespace L2
open PySem PySem.Spec PyProof.Rows
section
variable {X:Cx}
end
end L2
namespace L2
open PySem PySem.Spec PyProof.Rows
section
variable {X:Cx}
end
end L2
namespace L2
open PySem PySem.Spec PyProof.Rows
noncomputable def zE2 (scope:Scope)(yc:Str)(cl:List (Str×Addr))(C:Addr)(env:Env):Env:=
 { scope:=relabel scope env,locals:=C,globals:=env.globals,cells:=(yc,C+1)::cl,qual:=env.qual,func:=none,code:=env.code,frame:=env.frame,builtins:=env.builtins }
variable {cl:List (Str×Addr)}
theorem zJg {M:Model}{A:Around}{E:Value->Shared->Prop}{s:Shared}{scope:Scope}{globals:Addr}{qual yc:Str}{env:Env}{Q:Env->Shared->Prop}(hcf:∀n acc,cellsFrom n scope.names acc=(yc,n)::acc)
 (hQ:∀h':Heap,h'.Ns s.heap.objs.size (fun _=>none)->(∀b o,s.heap.get? b=some o->h'.get? b=some o)->h'.IsCell (s.heap.objs.size+1) none ->
  Q (newEnv scope s.heap.objs.size globals ((yc,s.heap.objs.size+1)::cl) qual none .none (some env) builtinsNs) { s with heap:=h',toks:=s.toks }) :
 wpAny M A (newFunctionEnv scope globals cl [] qual none .none (some env)) Q E s:=by
 simp only[newFunctionEnv,Option.isSome_some,if_true]
 refine zC (wpAny_alloc ?_)
 refine zC (wpAny_layCells _ (fun name kind cells=>by cases hkc:kind==NameKind.cell <;> simp[hkc]) _ _ _ _ ?_)
 have ok:=cellsFrom_ok scope.names (s.heap.push { cls:=.type "dict",data:=.dict #[] }) (s.heap.objs.size+1) [] ⟨fun _ _ hm=>(nomatch hm),zBX⟩ (by rw[zAe];exact zL _)
 rw[zAe] at ok
 rw[show ({ s with heap:=s.heap.push { cls:=.type "dict",data:=.dict #[] } }:Shared).heap.objs.size=s.heap.objs.size+1 from zAe ..]
 rw[hcf] at ok ⊢
 refine zC ?_
 rw[List.forIn_nil]
 refine zH (zH ?_)
 exact hQ _ ((Heap.Ns.new s.heap (.type "dict")).keeps (pushCells_keeps _ _)) (fun b o e=>pushCells_keeps _ _ b o (zK _ e)) (ok.empty _ _ zl).1
noncomputable def zBg (X:Cx)(pl:List (Addr×Obj))(N':List Str)(scope:Scope)(yc:Str)(fp:List Addr)(s3:Shared)(H3:Hp):Cx where
 prog:=X.prog
 w:=X.w
 K:=X.K
 mg:=X.mg
 base:=X.base
 A:=X.A
 N:=N'
 s₀:=s3
 H₀:=H3
 env:=zE2 scope yc (zCs X.env.cells scope.names []) s3.heap.objs.size X.env
 outer:=X.stack
 stack:=X.stack
 ex:=fp
 fn:=fun x=>x==yc
 calm:=X.calm
 pn:=pl
 xe:=fun _ _=>False
structure zCy (X:Cx)(scope:Scope)(yc:Str):Prop where
 kind:scope.kind = .function
 cf:∀n acc,cellsFrom n scope.names acc=(yc,n)::acc
 own:scope.names.lookup yc=some .cell
 one:∀y∈scope.names,y.2 = .cell->y.1=yc
 names:∀y∈scope.names,y.2 = .local->scope.names.lookup y.1=some .local
 free:∀y∈scope.names,y.2 = .free->X.env.kindOf y.1=some .cell
variable {x:Str}{n:Addr}
section
variable {X:Cx}{pins:List (Addr×Obj)}{σ:St}{H3:Hp}{s3:Shared}{scope:Scope}{fp:List Addr}{N' own cn:List Str}{ci:List Nat}{cv:List V}{yc:Str}
theorem look1 {c:Addr}(h:((yc,n)::cl).lookup x=some c):(x=yc/\c=n)\/(x≠yc/\cl.lookup x=some c):=by
 rw[zBB] at h
 cases hx:x==yc with
 | true=>rw[hx] at h;cases h;exact .inl ⟨by simpa using hx,rfl⟩
 | false=>rw[hx] at h;exact .inr ⟨by simpa using hx,h⟩
theorem zGf (h:x≠yc):((yc,n)::cl).lookup x=cl.lookup x:=by
 rw[zBB,show (x==yc)=false by simpa using h]
theorem zFm (ok:X.Ok)(S:zCy X scope yc)(h:(relabel scope X.env).names.lookup x=some .cell\/(relabel scope X.env).names.lookup x=some .free) :
 ∃c,((yc,n)::zCs X.env.cells scope.names []).lookup x=some c:=by
 by_cases hxy:x=yc
 . subst hxy
   exact⟨n,by rw[zBB,beq_self_eq_true]⟩
 rw[zGf hxy]
 have e:(relabel scope X.env).names.lookup x=(scope.names.lookup x).map fun k=>if (k==NameKind.free && X.env.scope.kind == .function && X.env.kindOf x==some .cell)=true then NameKind.cell else k:=zBy scope.names
 have hf:scope.names.lookup x=some .free:=by
  cases q:scope.names.lookup x with
  | none=>rw[e,q] at h;simp at h
  | some k=>
   by_cases hk:k = .free
   . rw[hk]
   . have hb:(k==NameKind.free)=false:=by simpa using hk
     rw[e,q] at h
     simp only[zAs,hb,Bool.false_and,zBr,if_false,Option.some.injEq] at h
     rcases h with h | h
     . exact absurd (S.one _ (PySem.mem_of_lookup q) h) hxy
     . exact absurd h hk
 exact zCp (ok.has x (.inl (S.free _ (PySem.mem_of_lookup hf) rfl))) scope.names [] (PySem.mem_of_lookup hf)
theorem zCo (I:Inv X pins σ H3 s3){c:Addr}(h:((yc,n)::zCs X.env.cells scope.names []).lookup x=some c):(x=yc/\c=n)\/(x≠yc/\X.env.cells.lookup x=some c/\c<s3.heap.objs.size):=by
 rcases look1 h with z | ⟨z,e⟩
 . exact .inl z
 . have e':=zCj e
   obtain⟨v,o,ho,_⟩:=I.cell x c e'
   exact .inr ⟨z,e',zX ho⟩
theorem zJw (I:Inv X pins σ H3 s3)(S:zCy X scope yc)(f:∀b∈fp,zFv X pins H3 b)(fz:∀b∈fp,b<s3.heap.objs.size):(zBg X (X.pn++pins) N' scope yc fp s3 H3).Ok where
 mod:=I.ok.mod
 kind:=S.kind
 glob:=I.ok.glob
 blt:=I.ok.blt
 above:=zL _
 inj:=fun x y c h1 h2=>by
  rcases zCo I h1 with ⟨a,b⟩ | ⟨a,b,d⟩ <;> rcases zCo I h2 with ⟨a',b'⟩ | ⟨a',b',d'⟩
  . rw[a,a']
  . rw[b] at d';exact absurd d' (Nat.not_lt.mpr (zBt _))
  . rw[b'] at d;exact absurd d (Nat.not_lt.mpr (zBt _))
  . exact I.ok.inj x y c b b'
 has:=fun x h=>zFm I.ok S h
 cab:=fun x c h e=>by
  have hx:x=yc:=by simpa using (show (x==yc)=true from h)
  rcases zCo I e with ⟨_,b⟩ | ⟨a,_⟩
  . rw[b];exact zBt _
  . exact absurd hx a
 hd:=I.ok.hd
 frames:=I.ok.frames
 stk:=.inl rfl
 exf:=fun b hb=>⟨zY (fz b hb),fun x c h=>by
  have:=fz b hb
  rcases zCo I h with ⟨_,d⟩ | ⟨_,d,_⟩
  . intro z
    rw[<-z,d] at this;exact absurd this (Nat.not_lt.mpr (zBt _))
  . exact (f b hb).2.2.2.2.1 x c d⟩
 bs:=I.bs
 bsz:=zy I.ok.bsz I.sz
 noex:=fun b o e hb=>by
  rcases (f b hb).2.2.2.1 with z | z
  . exact I.ok.noex b o e z
  . exact absurd (zt (zX e) (zy I.ok.bsz z)) (zB3 _)
 exfs:=fun b hb z=>by
  rcases zm.mp (I.stkSub b z) with q | q
  . exact (f b hb).2.1 q
  . exact (f b hb).2.2.1 q
 funs:=I.stack
 frf:=I.stkFree
theorem zIn {h1:Heap}{t:Nat}(I:Inv X pins σ H3 s3)(S:zCy X scope yc)(f:∀b∈fp,zFv X pins H3 b)(fz:∀b∈fp,b<s3.heap.objs.size)
 (hN:N'=own++cn)(hc:zDQ X scope cn ci)(hv:ci.map (fun j=>σ[j]?)=cv.map fun v=>some (some v))(hl:cn.length=ci.length)
 (hns:h1.Ns s3.heap.objs.size (fun _=>none))(hk:∀b o,s3.heap.get? b=some o->h1.get? b=some o)(hcl:h1.IsCell (s3.heap.objs.size+1) none) :
 Inv (zBg X (X.pn++pins) N' scope yc fp s3 H3) [] (List.replicate own.length none++cv.map some) H3 { s3 with heap:=h1,toks:=t }:=by
 have lenv:cv.length=ci.length:=by
  have:=congrArg List.length hv
  simpa using this.symm
 refine⟨zJw I S f fz,rfl,I.bare,Un.kept hk,⟨_,hns,fun i x v e1 e2 e3=>?_⟩,fun x c e=>?_,I.hok.fresh (zL _),fun x c e=>?_,fun p hp=>?_,I.hok.kept hk,?_⟩
 . -- a captured name
   have hi:own.length<=i:=by
    by_cases hi:own.length<=i
    . exact hi
    . rw[zN (by simpa using hi),zBS] at e2
      split at e2 <;> cases e2
   rw[zM (by simpa using hi),zAa,zO] at e2
   have e1':(own++cn)[i]? = some x:=by rw[<-hN];exact e1
   rw[zM hi] at e1'
   obtain⟨j,hj,hNj,hkx,hfr⟩:=hc.get e1'
   have hcv:cv[i-own.length]? = some v:=by
    cases q:cv[i-own.length]? with
    | none=>rw[q] at e2;cases e2
    | some v'=>rw[q] at e2;cases e2;rfl
   have hσ:σ[j]? = some (some v):=by
    have:=congrArg (fun l:List (Option (Option V))=>l[i-own.length]?) hv
    simp only[zO,hj,hcv,zAs,Option.some.injEq] at this
    exact this
   obtain⟨m,_,hl'⟩:=I.loc
   obtain⟨u,r,q⟩:=hl' j x v hNj hσ (.inr (.inl hkx))
   have hkd:(relabel scope X.env).names.lookup x=some .cell\/(relabel scope X.env).names.lookup x=some .free:=by
    have e:(relabel scope X.env).names.lookup x=(scope.names.lookup x).map fun k=>if (k==NameKind.free && X.env.scope.kind == .function && X.env.kindOf x==some .cell)=true then NameKind.cell else k:=zBy scope.names
    rw[e,hfr,zAs]
    by_cases cc:(NameKind.free==NameKind.free && X.env.scope.kind == .function && X.env.kindOf x==some .cell)=true
    . rw[if_pos cc];exact .inl rfl
    . rw[if_neg cc];exact .inr rfl
   obtain⟨c',hc'⟩:=zFm (n:=s3.heap.objs.size+1) I.ok S hkd
   have hxy:x≠yc:=fun z=>by rw[z,S.own] at hfr;cases hfr
   refine⟨u,r,.inr ⟨hkd,c',hc',?_⟩⟩
   rcases q with ⟨z,_⟩ | ⟨_,c,hcc,o,ho,hd⟩
   . rw[hkx] at z;cases z
   . have e:c=c':=zR (hcc.symm.trans (zCj ((zGf hxy).symm.trans hc')))
     subst e
     exact⟨o,hk c o ho,hd⟩
 . rcases zCo I e with ⟨_,d⟩ | ⟨_,d,_⟩
   . rw[d];exact⟨_,hcl⟩
   . obtain⟨v,o,ho,hd⟩:=I.cell x c d
     exact⟨v,o,hk c o ho,hd⟩
 . rcases zCo I e with ⟨_,d⟩ | ⟨_,d,_⟩
   . rw[d];exact I.hok.fresh (zBt _)
   . exact I.freeC x c d
 . have hp':p∈X.pn++pins:=by rw[zAB] at hp;exact hp
   obtain⟨e,n,ne,nf,d⟩:=I.pin p hp'
   refine⟨hk _ _ e,n,zY (zX e),fun z=>?_,d⟩
   rcases zm.mp (I.stkSub p.1 z) with q | q
   . exact ne q
   . exact nf q
 . show (List.replicate own.length none++cv.map some).length=N'.length
   rw[hN,zI,zI,zAa,zB,lenv,hl]
theorem zEW {elt target iter:Expr}{ifs:List Expr}{pos cpos:Pos}{wi:TI}{g:TG}{ti:TT}{te:TE}{use:Option (Value->Sem Unit)}{Q0:Value->Shared->Prop}{s:Shared}{H:Hp}{Q:VK}(hcalm:X.calm=true)(S:zCy X scope yc)(hc:zDQ X scope cn ci)(hl:cn.length=ci.length)
 (hi:PI X target iter wi)(hg:∀pl fp s3 H3,PG (zBg X pl (own++cn) scope yc fp s3 H3) target g)(ht:∀pl fp s3 H3,PTs (zBg X pl (own++cn) scope yc fp s3 H3) ifs ti)
 (he:∀pl fp s3 H3,PE (zBg X pl (own++cn) scope yc fp s3 H3) elt te)(hs:∀x,foldedSetIterable iter X.env x=pure x)(I:Inv X pins σ H s)(h:zGw own.length ci wi g ti te σ H Q)
 (fin:∀(D C:Addr)(H5:Hp)(s6:Shared)(m6:Str->Option Value),Inv X pins σ H5 s6->s6.heap.Ns C m6->H5 C=none->C≠X.env.locals->X.s₀.heap.objs.size<=C->(∀x c,X.env.cells.lookup x=some c->c≠C) ->
  (∀p∈X.pn++pins,p.1≠C)->Q (.ref D) H5->compPost (model X.prog X.w) X.A X.xe use Q0 (.ref D) C (.ok .next) s6) :
 wpAny (model X.prog X.w) X.A (comprehension (.ListComp elt [⟨target,iter,ifs,0⟩] scope pos) scope X.env cpos (newList []) false (eval iter X.env) use) Q0 X.xe s:=by
 have hcl:closureFor scope X.env=pure (zCs X.env.cells scope.names []):=zCb fun y hy hf=>I.ok.has y.1 (.inl (S.free y hy hf))
 refine wpAny_comprehension_free (use:=use) rfl hs hcl S.kind S.names ?_
 refine thn (hi pins s σ H _ I h) fun v s1 h1=>thn h1 fun itv s2 h2=>?_
 obtain⟨it,fp,tn,J,H2,e,I2,T,st2,f2,cv,hv,hD⟩:=h2
 subst e
 have lenv:cv.length=ci.length:=by
  have:=congrArg List.length hv
  simpa using this.symm
 have I3:=I2.lnew (ys:=[]) (its:=[]) (t':=s2.toks) .nil (zc _)
 obtain⟨W,⟨m0,w0⟩,turn⟩:=hD s2.heap.objs.size I2.fresh
 have fz:∀b∈fp,b<s2.heap.objs.size:=fun b hb=>by
  obtain⟨o,ho,_⟩:=T.obj _ _ st2 b hb
  exact zX ho
 refine zAz ?_
 refine zJg S.cf (fun h4 hns4 hk4 hc4=>?_)
 generalize hs3:({ s2 with heap:=s2.heap.push { cls:=.type "list",dict:=none,data:=.seq ([]:List Value).toArray } }:Shared)=s3 at hns4 hk4 hc4 ⊢
 have I3':Inv X pins σ (upd H2 s2.heap.objs.size (.lst [])) s3:=by rw[<-hs3];exact I3
 have hsz3:s3.heap.objs.size=s2.heap.objs.size+1:=by rw[<-hs3];exact zAe ..
 have k23:∀b o,s2.heap.get? b=some o->s3.heap.get? b=some o:=fun b o e=>by rw[<-hs3];exact zK _ e
 have k34:∀b o,s3.heap.get? b=some o->h4.get? b=some o:=hk4
 have nD:∀b∈fp,b≠s2.heap.objs.size:=fun b hb=>zY (fz b hb)
 have f3:∀b∈fp,zFv X pins (upd H2 s2.heap.objs.size (.lst [])) b:=fun b hb=>⟨by rw[zZ (nD b hb)];exact (f2 b hb).1,(f2 b hb).2⟩
 have fz3:∀b∈fp,b<s3.heap.objs.size:=fun b hb=>by rw[hsz3];exact zA0 (fz b hb)
 have I4:Inv (zBg X (X.pn++pins) (own++cn) scope yc fp s3 (upd H2 s2.heap.objs.size (.lst []))) [] (List.replicate own.length none++cv.map some) (upd H2 s2.heap.objs.size (.lst [])) { s3 with heap:=h4,toks:=s3.toks }:=
  zIn I3' S f3 fz3 rfl hc hv hl hns4 k34 hc4
 have st4:tn 0 h4:=T.keep _ _ _ st2 fun b hb o e=>k34 b o (k23 b o e)
 generalize hX:zBg X (X.pn++pins) (own++cn) scope yc fp s3 (upd H2 s2.heap.objs.size (.lst []))=X' at I4
 have hg':PG X' target g:=by rw[<-hX];exact hg _ _ _ _
 have ht':PTs X' ifs ti:=by rw[<-hX];exact ht _ _ _ _
 have he':PE X' elt te:=by rw[<-hX];exact he _ _ _ _
 have ePr:X'.prog=X.prog:=by rw[<-hX];rfl
 have eW:X'.w=X.w:=by rw[<-hX];rfl
 have eK:X'.K=X.K:=by rw[<-hX];rfl
 have eA:X'.A=X.A:=by rw[<-hX];rfl
 have eE:X'.env=zE2 scope yc (zCs X.env.cells scope.names []) s3.heap.objs.size X.env:=by rw[<-hX];rfl
 have eXe:X'.xe=fun _ _=>False:=by rw[<-hX];rfl
 have eC:X'.calm=true:=by rw[<-hX];exact hcalm
 have eex:X'.ex=fp:=by rw[<-hX];rfl
 have epn:X'.pn=X.pn++pins:=by rw[<-hX];rfl
 have es0:X'.s₀=s3:=by rw[<-hX];rfl
 have eH0:X'.H₀=upd H2 s2.heap.objs.size (.lst []):=by rw[<-hX];rfl
 have efs:X'.fs=frs X.stack:=by rw[<-hX];rfl
 have ok':=I4.ok
 have stat:∀{H':Hp},(∀b∈fp,H' b=none)->∀b∈fp,zFv X' [] H' b:=fun hn b hb=>by
  have hb':b∈X'.ex:=by rw[eex];exact hb
  refine⟨hn b hb,(ok'.exf b hb').1,ok'.exfs b hb',.inl hb',(ok'.exf b hb').2,fun p hp=>?_⟩
  rw[epn,zAB] at hp
  exact (f2 b hb).2.2.2.2.2 p hp
 have wk:∀(σ2:St),(σ2.length=own.length+cv.length/\σ2.drop own.length=cv.map some)->∀{pl:List (Addr×Obj)}{H':Hp}{s':Shared},Inv X' pl σ2 H' s'->Inv X' pl (List.replicate own.length none++cv.map some) H' s':=fun σ2 hq pl H' s' I'=>by
  refine I'.weak (by rw[hq.1,zI,zAa,zB]) fun i v hi=>?_
  by_cases hlt:i<own.length
  . rw[zN (by simpa using hlt),zBS] at hi
    split at hi <;> cases hi
  . rw[zM (by simpa using hlt),zAa,<-hq.2,List.getElem?_drop] at hi
    rw[show own.length+(i-own.length)=i by omega] at hi
    exact hi
 have loop:codeAny (model X.prog X.w) X.A (.compLoop (.ListComp elt [⟨target,iter,ifs,0⟩] scope pos) 0 (.ref it) (.ref s2.heap.objs.size) (zE2 scope yc (zCs X.env.cells scope.names []) s3.heap.objs.size X.env))
  (compPost (model X.prog X.w) X.A X.xe use Q0 (.ref s2.heap.objs.size) s3.heap.objs.size) { s3 with heap:=h4,toks:=s3.toks }:=by
  refine zDL (fun n s'=>∃i ys H',Inv X' [] (List.replicate own.length none++cv.map some) H' s'/\tn i s'.heap/\(∀b∈fp,H' b=none)/\W i n ys H') ?_ m0
   ⟨0,[],_,I4,st4,fun b hb=>(f3 b hb).1,w0⟩
  rintro n s5 ⟨i,ys,H5,I5,st5,fr5,w5⟩
  rcases turn i n ys H5 w5 with ⟨stop,qn⟩ | ⟨go,hsz,N,hN,step⟩
  . have d:=T.done X' ePr eW eK eC i [] s5 _ H5 (fun _ _=>False) I5 (stat fr5) st5 stop
    rw[eA] at d
    refine thn d fun r s6 ⟨hr,I6⟩=>?_
    subst hr
    obtain⟨m6,hn6,_⟩:=I6.loc
    rw[eE] at hn6
    have hn6':s6.heap.Ns s3.heap.objs.size m6:=hn6
    have un6:Un (frs X.stack) fp (upd H2 s2.heap.objs.size (.lst [])) H5 s3.heap s6.heap:=by
     have b6:=I6.base
     rw[efs,eex,eH0,es0] at b6
     exact b6
    have os6:s6.os=s3.os:=by have o6:=I6.os;rw[es0] at o6;exact o6
    have hok6:HOk X.prog X.w H5 s6.heap:=by have o6:=I6.hok;rw[ePr,eW] at o6;exact o6
    have I7:Inv X pins σ H5 s6:=I3'.call' (ch:=fp) os6 un6 hok6 I6.bare fun b hb=>⟨(f2 b hb).2.2.2.1,(f2 b hb).2.1,(f2 b hb).2.2.2.2.1,(f2 b hb).2.2.2.2.2⟩
    have fr6:H5 s3.heap.objs.size=none:=by
     have q:=I6.free
     rw[eE] at q
     exact q
    refine fin s2.heap.objs.size s3.heap.objs.size H5 s6 m6 I7 hn6' fr6 (zAM I3'.lt) I3'.sz (fun x c e=>?_) (fun p hp=>?_) qn
    . obtain⟨_,o,ho,_⟩:=I3'.cell x c e
      exact zY (zX ho)
    . exact zY (zX (I3'.pin p hp).1)
  . have d:=T.item X' ePr eW eK eC i [] s5 _ H5 (fun _ _=>False) I5 (stat fr5) st5 go
    rw[eA] at d
    refine thn d fun r s6 ⟨u,hr,h6⟩=>?_
    subst hr
    refine thn h6 fun _ s7 ⟨x,H7,I7,r7,y7,st7,fr7⟩=>?_
    have I7':=I7.pinned (stat fr7) (T.obj _ _ st7)
    have g7:=hg' _ s7 _ H7 x u _ I7' r7 (step x H7 y7)
    rw[ePr,eW,eA,eE,eXe] at g7
    refine thn g7 fun _ s8 ⟨σ8,H8,I8,q8,ti8⟩=>?_
    have t8:=ht' _ s8 σ8 H8 _ I8 ti8
    rw[ePr,eW,eA,eE,eXe] at t8
    refine thn t8 fun ok s9 ⟨H9,I9,q9⟩=>?_
    have again:∀{ys':List V}{H':Hp}{s':Shared},Inv X' ([]++zEM fp s7.heap) σ8 H' s'->N ys' H' ->
     ∃m,m<n/\∃i ys H',Inv X' [] (List.replicate own.length none++cv.map some) H' s'/\tn i s'.heap/\(∀b∈fp,H' b=none)/\W i m ys H':=fun {ys' H' s'} I' n'=>by
     obtain⟨m',hm,w'⟩:=hN ys' H' n'
     refine⟨m',hm,i+1,ys',H',(wk σ8 q8 I').unpinned,T.keep _ _ _ st7 fun b hb o e=>(I'.pin (b,o) (zj _ (zj _ (zCN hb e)))).1,fun b hb=>?_,w'⟩
     obtain⟨o,e,_⟩:=T.obj _ _ st7 b hb
     exact (I'.pin (b,o) (zj _ (zj _ (zCN hb e)))).2.1
    cases ok with
    | false=>exact again I9 q9
    | true=>
     have e9:=he' _ s9 σ8 H9 _ I9 q9
     rw[ePr,eW,eA,eE,eXe] at e9
     refine thn e9 fun u10 s10 ⟨y,H10,I10,r10,hD10,n10⟩=>?_
     have a10:=zBP (X:=X') _ s10 σ8 H10 (.ref s2.heap.objs.size) [y] (.ref s2.heap.objs.size) [u10] (fun _ H'=>N (ys++[y]) H') I10 rfl (.cons r10 .nil) ⟨_,_,_,rfl,rfl,hD10,hsz,n10⟩
     rw[ePr,eW,eA,eXe] at a10
     exact thn a10 fun _ s11 ⟨_,H11,I11,_,n11⟩=>again I11 n11
 exact codeAny_compStart_list loop (T.self X.A 0 _ _ _ st4 loop)
theorem zGZ {elt target iter:Expr}{ifs:List Expr}{pos:Pos}{wi:TI}{g:TG}{ti:TT}{te:TE}(hcalm:X.calm=true)(S:zCy X scope yc)(hc:zDQ X scope cn ci)(hl:cn.length=ci.length)
 (hi:PI X target iter wi)(hg:∀pl fp s3 H3,PG (zBg X pl (own++cn) scope yc fp s3 H3) target g)(ht:∀pl fp s3 H3,PTs (zBg X pl (own++cn) scope yc fp s3 H3) ifs ti)
 (he:∀pl fp s3 H3,PE (zBg X pl (own++cn) scope yc fp s3 H3) elt te)(hs:∀x,foldedSetIterable iter X.env x=pure x:=by intro _;rfl) :
 PE X (.ListComp elt [⟨target,iter,ifs,0⟩] scope pos) (zGw own.length ci wi g ti te):=by
 intro pins s σ H Q I h
 rw[eval_ListComp]
 exact zEW hcalm S hc hl hi hg ht he hs I h fun D C H5 s6 m6 I7 hn fr nL ge nC nP q=>⟨m6,hn,fun h' hs'=>⟨.ref D,H5,I7.turned (t':=s6.toks) (it:=C) (fun b o hb e=>hs'.extBut b o hb e) fr nL (.inr ge) nC nP,rfl,q⟩⟩
theorem zJT {elt target iter:Expr}{ifs:List Expr}{pos pos' cpos:Pos}{wi:TI}{g:TG}{ti:TT}{te:TE}{i:Nat}{x:Str}(hN:X.N.Nodup)(hix:X.N[i]? = some x)(hx:Loc X.env.scope x)(hcalm:X.calm=true)(S:zCy X scope yc)(hc:zDQ X scope cn ci)(hl:cn.length=ci.length)
 (hi:PI X target iter wi)(hg:∀pl fp s3 H3,PG (zBg X pl (own++cn) scope yc fp s3 H3) target g)(ht:∀pl fp s3 H3,PTs (zBg X pl (own++cn) scope yc fp s3 H3) ifs ti)
 (he:∀pl fp s3 H3,PE (zBg X pl (own++cn) scope yc fp s3 H3) elt te)(hs:∀x,foldedSetIterable iter X.env x=pure x:=by intro _;rfl)
 (hsw:swapsWith (.ListComp elt [⟨target,iter,ifs,0⟩] scope cpos) (some (.Name x pos')) pos.line X.env=pure true:=by rfl)
 (hf:X.fn x=true\/X.env.scope.names.lookup x=some .local:=by first | exact .inl rfl | exact .inr rfl | assumption) :
 PS X (.Assign [.Name x pos'] (.ListComp elt [⟨target,iter,ifs,0⟩] scope cpos) pos) (tAsg (zGw own.length ci wi g ti te) (zJo i)):=by
 intro pins s σ H D I h
 rw[exec_Assign_Name_used _ _ _ _ hsw]
 refine zC (wpAny_standAt (zC ?_))
 show wpAny _ X.A (do let _ <-comprehension (.ListComp elt [⟨target,iter,ifs,0⟩] scope cpos) scope X.env _ (newList []) false (eval iter X.env) (some (assign (.Name x pos') X.env))) _ _ s
 refine zC (zBW (zEW (use:=some (assign (.Name x pos') X.env)) (Q0:=fun _ s'=>SP X pins D .next s') hcalm S hc hl hi hg ht he hs I h (fun D' C H5 s6 m6 I7 hn fr nL ge nC nP q=>?_)) (fun _ s' hq=>zH (zH hq)) fun _ _ e=>e)
 obtain⟨oC,es,ep,hoC,hd,r1⟩:=hn
 have nf:C∉X.fs:=fun hb=>by
  obtain⟨_,o,ho,_⟩:=I7.ok.funs.mem hb
  exact absurd (zt (zX ho) ge) (zB3 _)
 have I7':Inv X (pins++[(C,oC)]) σ H5 s6:=I7.pins_of fun p hp=>by
  rcases zu.mp hp with z | z
  . exact I7.pin p (zj _ z)
  . rw[zk.mp z]
    exact⟨hoC,fr,nL,nf,fun v e=>by rw[hd] at e;cases e⟩
 show wpAny _ X.A (assign (.Name x pos') X.env (.ref D')) _ _ s6
 refine wpAny_assign_Name (zDR I7' hN hix hx (show zBi (.ref D') (.ref D') from rfl) (fun s' I'=>?_) hf)
 have hC':=(I'.pin (C,oC) (zj _ (zj _ (zk.mpr rfl)))).1
 refine⟨m6,⟨oC,es,ep,hC',hd,r1⟩,fun h' hs'=>⟨_,H5,?_,q⟩⟩
 have I2:Inv X pins (σ.set i (some (.ref D'))) H5 s':=I'.pins_of fun p hp=>I'.pin p (zj _ (zAE _ hp))
 exact I2.turned (t':=s'.toks) (it:=C) (fun b o hb e=>hs'.extBut b o hb e) fr nL (.inr ge) nC nP
end
noncomputable def cscOk1 (outer inner:Scope)(yc:Str):Bool:=inner.names.all fun y=>(y.2 != .cell || y.1==yc) && (y.2 != .local || inner.names.lookup y.1==some .local) && (y.2 != .free || outer.names.lookup y.1==some .cell)
theorem csc1 {X:Cx}{scope:Scope}{yc:Str}(hk:scope.kind = .function)(hcf:∀n acc,cellsFrom n scope.names acc=(yc,n)::acc)(ho:scope.names.lookup yc=some .cell)(h:cscOk1 X.env.scope scope yc=true):zCy X scope yc:=by
 have a:=zAy.mp h
 refine⟨hk,hcf,ho,fun y hy e=>?_,fun y hy e=>?_,fun y hy e=>?_⟩
 . have:=a y hy
   rw[e] at this
   simpa using this
 . have:=a y hy
   rw[e] at this
   simpa using this
 . have:=a y hy
   rw[e] at this
   have h2:X.env.scope.names.lookup y.1=some .cell:=by simpa using this
   exact h2
end L2
namespace L2
open PySem PySem.Spec PyProof.Rows
noncomputable def zKX (ta:TA):TE:=fun σ H Q=>ta σ H fun vs H1=>∃j:Int,vs=[.int j]/\0<=j/\j<=1000/\∀l,H1 l=none->Q (.ref l) (upd H1 l (.lst ((WM.lowTo j.toNat).map V.int)))
theorem zI9:∀(vs:List Value)(n:Nat),vs.length=n->(∀(j:Nat)(v:Value),vs[j]? = some v->∃t,v = .int (0+(j:Int)*1) t)->zBR ((WM.lowTo n).map V.int) vs:=by
 have key:∀(vs:List Value)(a:Nat),(∀(j:Nat)(v:Value),vs[j]? = some v->∃t,v = .int ((a+j:Nat):Int) t)->zBR ((List.range' a vs.length).map fun (i:Nat)=>V.int (i:Int)) vs:=by
  intro vs
  induction vs with
  | nil=>intro _ _;exact .nil
  | cons v r ih=>
   intro a h
   obtain⟨t,ht⟩:=h 0 v rfl
   rw[zAG,List.range'_succ,zAS]
   refine .cons ⟨t,by rw[ht];rfl⟩ (ih (a+1) fun j u hj=>?_)
   obtain⟨t',ht'⟩:=h (j+1) u hj
   exact⟨t',by rw[ht'];congr 1;omega⟩
 intro vs n e h
 subst e
 have:=key vs 0 fun j v hj=>by
  obtain⟨t,ht⟩:=h j v hj
  exact⟨t,by rw[ht];congr 1;omega⟩
 unfold WM.lowTo
 rw[zAZ,List.range_eq_range']
 exact this
section
variable {X:Cx}
theorem zH3 {a:Expr}{ta:TA}{p1 p2 pos1 pos2:Pos}(hc:X.calm=true)(hgL:Gl X "list") (hmL:X.mg "list" = none) (hgR:Gl X "range") (hmR:X.mg "range" = none) (ha:PA X [a] ta)(hs:starEach [a] X.env=[(false,eval a X.env)]:=by rfl)
 (he:starEach [.Call (.Name "range" p2) [a] [] pos2] X.env=[(false,eval (.Call (.Name "range" p2) [a] [] pos2) X.env)]:=by rfl):PE X (.Call (.Name "list" p1) [.Call (.Name "range" p2) [a] [] pos2] [] pos1) (zKX ta):=by
 intro pins s σ H Q I h
 refine wpAny_Call_Name_kw (zCh I hgL hmL (by decide +kernel:bootBuiltins "list" = some (.type "list")) ?_ (by decide) (by decide))
 refine PyProof.Rows.callWith_type1 ?_ he rfl
 rw[he]
 refine Calls.spliced_cons ?_
 refine Call_ (zCh I hgR hmR boot_range (PyProof.Rows.callWith_type1 (thn (ha pos2 pins s σ H _ I h) fun us s1 ⟨vs,H1,I1,r1,q1⟩=>?_) hs rfl))
 obtain⟨j,e,h0,h1,q⟩:=q1
 subst e
 cases r1 with
 | cons r rr=>
  cases rr
  obtain⟨t,rfl⟩:=r
  refine call_range_1 ?_
  refine Calls.spliced_nil ?_
  have hz:Builtin.Range.rangeSize 0 j 1=(j.toNat:Int):=by rw[rangeSize_one];split <;> omega
  refine call_list_range (I.ok.hd hc) (IsRange.new ..) (small_one (by omega) (by omega) (by omega) (by omega)) hz (by omega) fun h' tk acc c' kp hD hI=>?_
  have kp1:∀b o,s1.heap.get? b=some o->h'.get? b=some o:=fun b o e=>kp b o (zK _ e)
  have rv:zBR ((WM.lowTo j.toNat).map V.int) acc.toList:=zI9 acc.toList _ (by rw[Array.length_toList];exact hI.1) fun i v hi=>hI.2 i v (by rw[<-hi,Array.getElem?_toList])
  have hsz:s1.heap.objs.size<=(s1.heap.push { cls:=.type "range",data:=.fields #[.int 0 s1.toks,.int j t,.int 1 (s1.toks+1)] }).objs.size:=by rw[zAe];exact zBt _
  refine⟨.ref _,_,I1.laid (t':=tk) kp1 hsz (show zBs X.prog X.w _ h' _ (.lst ((WM.lowTo j.toNat).map V.int)) from ⟨?_,acc.toList,c',rv,by rw[Array.toArray_toList];exact hD⟩),rfl,q _ (I1.hok.fresh hsz)⟩
  rw[zB,WM.lowTo,zB,zAn]
  have:sizeLine=16777216:=rfl
  omega
end
section
variable {X:Cx}{pl:List (Addr×Obj)}{N':List Str}{sc:Scope}{fp:List Addr}{s3:Shared}{H3:Hp}
end
section
variable {X:Cx}
noncomputable def rNeE (K:PySem.W.Frag):R2:=fun x y H Q=>∃(a b:Addr)(xs:List V),x = .ref a/\y = .ref b/\SqL K H a xs/\SqL K H b []/\Q (.bl (!xs.isEmpty)) H
noncomputable def rEqE (K:PySem.W.Frag):R2:=fun x y H Q=>∃(a b:Addr)(xs:List V),x = .ref a/\y = .ref b/\SqL K H a xs/\SqL K H b []/\Q (.bl xs.isEmpty) H
theorem zKE (hu:X.A.units<cLine):OpR X (compareOp .NotEq) (rNeE X.K):=by
 intro pins s σ H x y v u Q I rx ry h
 obtain⟨a,b,xs,rfl,rfl,ha,hb,q⟩:=h
 cases rx
 cases ry
 obtain⟨its,r,pl,hz⟩:=I.list ha
 obtain⟨its2,r2,pl2,hz2⟩:=I.list hb
 have l1:=r.length
 have l2:=r2.length
 cases xs with
 | nil=>
  refine PySem.EqBoolInt.of_rcne (SeqAt.RcNeAt.lists (e:=fun _=>true) pl.isList pl2.isList (by rw[zP,zP,<-l1,<-l2]) hu (fun j a b=>absurd a (by rw[zP,<-l1];exact zBw _))) ⟨.bl _,H,I,rfl,?_⟩
  rw[zP,<-l1]
  exact q
 | cons x xs=>
  refine PySem.EqBoolInt.of_rcne (SeqAt.RcNeAt.lists_lengths pl.isList pl2.isList (by rw[zP,zP,<-l1,<-l2];rfl) hu) ⟨.bl _,H,I,rfl,?_⟩
  exact q
theorem zKF (hu:X.A.units<cLine):OpR X (compareOp .Eq) (rEqE X.K):=by
 intro pins s σ H x y v u Q I rx ry h
 obtain⟨a,b,xs,rfl,rfl,ha,hb,q⟩:=h
 cases rx
 cases ry
 obtain⟨its,r,pl,hz⟩:=I.list ha
 obtain⟨its2,r2,pl2,hz2⟩:=I.list hb
 have l1:=r.length
 have l2:=r2.length
 cases xs with
 | nil=>
  refine SeqAt.eq_listAt (e:=fun _=>true) pl.isList pl2.isList (by rw[zP,zP,<-l1,<-l2]) hu (fun j a b=>absurd a (by rw[zP,<-l1];exact zBw _)) ⟨.bl _,H,I,rfl,?_⟩
  rw[zP,<-l1]
  exact q
 | cons x xs=>
  refine SeqAt.eq_list_lengthsAt pl.isList pl2.isList (by rw[zP,zP,<-l1,<-l2];rfl) hu ⟨.bl _,H,I,rfl,?_⟩
  exact q
end
end L2
namespace L2
open PySem PyProof.Rows
noncomputable def Kp (s0:Shared)(h:Heap):Prop:=∀b o,s0.heap.get? b=some o->h.get? b=some o
structure MinIt (prog:Program)(w:World)(A:Around)(s0:Shared)(I:Addr)(its:List Value)(itAt:Nat->Heap->Prop):Prop where
 stay:∀j h h',itAt j h->h'.get? I=h.get? I->itAt j h'
 next:∀(j:Nat)(h:Heap)(tk:Nat)(v:Value)(Q:Option Value->Shared->Prop)(E:Value->Shared->Prop),Kp s0 h->itAt j h->its[j]? = some v ->
  (∀h',itAt (j+1) h'->(∀b,b≠I->h'.get? b=h.get? b)->Q (some v) { s0 with heap:=h',toks:=tk })->wpAny (model prog w) A (pyNext (.ref I)) Q E { s0 with heap:=h,toks:=tk }
 fin:∀(j:Nat)(h:Heap)(tk:Nat)(Q:Option Value->Shared->Prop)(E:Value->Shared->Prop),Kp s0 h->itAt j h->its[j]? = none ->
  (∀h',(∀b o,b≠I->h.get? b=some o->h'.get? b=some o)->Q none { s0 with heap:=h',toks:=tk })->wpAny (model prog w) A (pyNext (.ref I)) Q E { s0 with heap:=h,toks:=tk }
section
variable {prog:Program}{w:World}{A:Around}{s0:Shared}{I S:Addr}{its:List Value}{itAt:Nat->Heap->Prop}
theorem Kp.upd {h:Heap}{f:Obj->Obj}(K:Kp s0 h)(hS:s0.heap.objs.size<=S):Kp s0 (h.update S f):=fun b o e=>by
 rw[Heap.get?_update_ne _ _ _ _ (zY (zt (zX e) hS))];exact K b o e
theorem Kp.but {h h':Heap}(K:Kp s0 h)(hI:s0.heap.objs.size<=I)(k:∀b o,b≠I->h.get? b=some o->h'.get? b=some o):Kp s0 h':=fun b o e=>
 k b o (zY (zt (zX e) hI)) (K b o e)
theorem zIJ {R:Result->Shared->Prop}{kw:List (Str×Value)}(M:MinIt prog w A.in1 s0 I its itAt)(bt:Nat->Nat->Bool)(hS:s0.heap.objs.size<=S)(hI:s0.heap.objs.size<=I)(hSI:S≠I)
 (cmp:∀(i j:Nat)(vi vj:Value)(h:Heap)(tk:Nat)(Q E:Value->Shared->Prop),Kp s0 h->its[i]? = some vi->its[j]? = some vj->Q (.bool (bt i j)) { s0 with heap:=h,toks:=tk }->wpAny (model prog w) A.in1 (richCompare .Lt vi vj) Q E { s0 with heap:=h,toks:=tk })
 (hR:∀(v:Value)(h:Heap)(tk:Nat),its[argBest bt (its.length-1)]? = some v->Kp s0 h->R (.ok (.ret v)) { s0 with heap:=h,toks:=tk })
 : ∀(r j:Nat)(h:Heap)(tk:Nat)(vb:Value)(c:Nat),its.length-(j+1)=r->j+1<=its.length->Kp s0 h->itAt (j+1) h->its[argBest bt j]? = some vb ->
  h.get? S=some { cls:=.type "list",data:=.seq #[vb,vb] c }->codeAny (model prog w) A (.builtin "min.loop" { pos:=[.ref I,.none,.ref S],kw:=kw }) R { s0 with heap:=h,toks:=tk }:=by
 intro r
 induction r with
 | zero=>
  intro j h tk vb c hr hj K hit hv hSo
  refine codeAny_builtin PySem.F.entry_min_loop ?_
  unfold Builtin.«min.loop»
  refine zC (zA6 hSo rfl ?_)
  dsimp only
  refine zC (wpAny_tryCatch (M.fin (j+1) h tk _ _ K hit (zAw (by omega)) fun h' k=>?_))
  have hS':=k S _ hSI hSo
  refine zC (wpAny_updateSeq hS' rfl (zC (wpAny_letGo (zH ?_))) (by show 2<=sizeLine;decide) (by show 0<=sizeLine+1;decide))
  refine hR vb _ tk ?_ ((K.but hI k).upd hS)
  rw[show its.length-1=j by omega];exact hv
 | succ r ih=>
  intro j h tk vb c hr hj K hit hv hSo
  obtain⟨x,hx⟩:∃x,its[j+1]? = some x:=⟨_,zA (by omega)⟩
  refine codeAny_builtin PySem.F.entry_min_loop ?_
  unfold Builtin.«min.loop»
  refine zC (zA6 hSo rfl ?_)
  dsimp only
  refine zC (wpAny_tryCatch (M.next (j+1) h tk x _ _ K hit hx fun h' hit' k=>?_))
  have K':Kp s0 h':=K.but hI fun b o hb e=>by rw[k b hb];exact e
  have hS':h'.get? S=some { cls:=.type "list",data:=.seq #[vb,vb] c }:=by rw[k S hSI];exact hSo
  refine zC (zH ?_)
  refine zC (wpAny_tryCatch (zAY (zC (cmp (j+1) (argBest bt j) x vb h' tk _ _ K' hx hv ?_))))
  refine zC (zAY (zBV (zC (wpAny_letGo (zH ?_)))))
  have eb:argBest bt (j+1)=if bt (j+1) (argBest bt j)=true then j+1 else argBest bt j:=argBest.eq_2 bt j
  cases e:bt (j+1) (argBest bt j) with
  | true=>
   rw[if_pos e] at eb
   refine zC (wpAny_updateSeq hS' rfl (zC (wpAny_letGo (zH ⟨rfl,?_⟩))) (by show 2<=sizeLine;decide) (by show 2<=sizeLine+1;decide))
   exact ih (j+1) _ tk x c (by omega) (by omega) (K'.upd hS) (M.stay _ _ _ hit' (Heap.get?_update_ne _ _ _ _ (Ne.symm hSI))) (by rw[eb];exact hx) (Heap.get?_update_self _ hS' rfl)
  | false=>
   rw[e,if_neg (by decide)] at eb
   refine zC (wpAny_letGo (zH ⟨rfl,?_⟩))
   exact ih (j+1) h' tk vb c (by omega) (by omega) K' hit' (by rw[eb];exact hv) hS'
theorem zEO {R:Result->Shared->Prop}{d:Value}(M:MinIt prog w A.in1 s0 I its itAt)(bt:Nat->Nat->Bool)(hS:s0.heap.objs.size<=S)(hI:s0.heap.objs.size<=I)(hSI:S≠I)
 (cmp:∀(i j:Nat)(vi vj:Value)(h:Heap)(tk:Nat)(Q E:Value->Shared->Prop),Kp s0 h->its[i]? = some vi->its[j]? = some vj->Q (.bool (bt i j)) { s0 with heap:=h,toks:=tk }->wpAny (model prog w) A.in1 (richCompare .Lt vi vj) Q E { s0 with heap:=h,toks:=tk })
 (hR:∀(v:Value)(h:Heap)(tk:Nat),its[argBest bt (its.length-1)]? = some v->Kp s0 h->R (.ok (.ret v)) { s0 with heap:=h,toks:=tk })
 (h0:its=[]->∀(h:Heap)(tk:Nat),Kp s0 h->R (.ok (.ret d)) { s0 with heap:=h,toks:=tk })
 (h:Heap)(tk:Nat)(c:Nat)(K:Kp s0 h)(hit:itAt 0 h)(hSo:h.get? S=some { cls:=.type "list",data:=.seq #[] c }) :
 codeAny (model prog w) A (.builtin "min.loop" { pos:=[.ref I,.none,.ref S],kw:=[(Str.ofString "default",d)] }) R { s0 with heap:=h,toks:=tk }:=by
 refine codeAny_builtin PySem.F.entry_min_loop ?_
 unfold Builtin.«min.loop»
 refine zC (zA6 hSo rfl ?_)
 dsimp only
 cases e:its with
 | nil=>
  subst e
  refine zC (wpAny_tryCatch (M.fin 0 h tk _ _ K hit rfl fun h' k=>?_))
  exact zC (zB9 (zH (h0 rfl h' tk (K.but hI k))))
 | cons x xs=>
  have hx:its[0]? = some x:=by rw[e];rfl
  refine zC (wpAny_tryCatch (M.next 0 h tk x _ _ K hit hx fun h' hit' k=>?_))
  have K':Kp s0 h':=K.but hI fun b o hb e=>by rw[k b hb];exact e
  have hS':h'.get? S=some { cls:=.type "list",data:=.seq #[] c }:=by rw[k S hSI];exact hSo
  refine zC (zH ?_)
  refine zC (wpAny_updateSeq hS' rfl (zH ⟨rfl,?_⟩) (by show 0<=sizeLine;decide) (by show 2<=sizeLine+1;decide))
  refine zIJ M bt hS hI hSI cmp hR (its.length-1) 0 _ tk x (c+1) rfl (by rw[e];simp) (K'.upd hS) (M.stay _ _ _ hit' (Heap.get?_update_ne _ _ _ _ (Ne.symm hSI))) hx (Heap.get?_update_self _ hS' rfl)
end
end L2
namespace L2
open PySem PyProof.Rows
theorem wpAny_of_eq {α:Type}{M:Model}{A:Around}{E:Value->Shared->Prop}{s:Shared}{m m':Sem α}{Q:α->Shared->Prop}(e:m=m')(h:wpAny M A m' Q E s):wpAny M A m Q E s:=by subst e;exact h
theorem zD4 {O:KeyOrd}(ky:Nat->O.α):∀k,argBest (fun i j=>O.blt (ky i) (ky j)) k<=k/\∀j,j<=k->O.blt (ky j) (ky (argBest (fun i j=>O.blt (ky i) (ky j)) k))=false
 | 0=>⟨zL _,fun j hj=>by obtain rfl:j=0:=(by omega);exact O.irrefl _⟩
 | k+1=>by
  obtain⟨h1,h2⟩:=zD4 ky k
  rw[argBest.eq_2]
  cases e:O.blt (ky (k+1)) (ky (argBest (fun i j=>O.blt (ky i) (ky j)) k)) with
  | true=>
   rw[if_pos rfl]
   refine⟨zL _,fun j hj=>?_⟩
   by_cases c:j=k+1
   . subst c;exact O.irrefl _
   . cases e2:O.blt (ky j) (ky (k+1)) with
     | false=>rfl
     | true=>rw[<-h2 j (by omega)];exact (O.trans _ _ _ e2 e).symm
  | false=>
   rw[if_neg (by decide)]
   refine⟨by omega,fun j hj=>?_⟩
   by_cases c:j=k+1
   . subst c;exact e
   . exact h2 j (by omega)
theorem zFn {prog:Program}{w:World}{A:Around}{s:Shared}{p:Addr}{its:List Value}{d:Value}{Q E:Value->Shared->Prop}(hA:A.handled=none)(bt:Nat->Nat->Bool)(hp:s.heap.IsList p its.toArray\/s.heap.IsTuple p its.toArray)
 (cmp:∀(i j:Nat)(vi vj:Value)(h:Heap)(tk:Nat)(Q E:Value->Shared->Prop),Kp s h->its[i]? = some vi->its[j]? = some vj->Q (.bool (bt i j)) { s with heap:=h,toks:=tk }->wpAny (model prog w) A.in1 (richCompare .Lt vi vj) Q E { s with heap:=h,toks:=tk })
 (hR:∀(v:Value)(h:Heap)(tk:Nat),its[argBest bt (its.length-1)]? = some v->Kp s h->Q v { s with heap:=h,toks:=tk })
 (h0:its=[]->∀(h:Heap)(tk:Nat),Kp s h->Q d { s with heap:=h,toks:=tk }) :
 wpAny (model prog w) A (call (.builtin "min") [.ref p] [(Str.ofString "default",d)]) Q E s:=by
 refine wpAny_call (codeAny_call_builtin PySem.F.plain_min PySem.F.entry_min (wpAny_of_eq (show checkBuiltinCall "min" { pos:=[.ref p],kw:=[(Str.ofString "default",d)] }=pure () from rfl) (zH ?_)))
 unfold Builtin.min
 refine zC (wpAny_of_eq (show Builtin.Builtins.bindParams "min" ["key", "default"] 0 { kw:=[(Str.ofString "default",d)] }=pure [none,some d] from rfl) (zH ?_))
 dsimp only
 refine zC (zH ?_)
 have kp0:∀(o1 o2:Obj),Kp s ((s.heap.push o1).push o2):=fun o1 o2 b o e=>zK _ (zK _ e)
 rcases hp with hp | hp
 . refine zC (wpAny_pyIter_list hp (zC (wpAny_newList (zH ⟨rfl,?_⟩) (by show 0<=sizeLine;decide))))
   have hSe:(s.heap.push { cls:=.type "list_iterator",data:=.fields #[.ref p,.int 0 0] }).objs.size=s.heap.objs.size+1:=zAe ..
   rw[hSe]
   refine zEO (s0:=s) (I:=s.heap.objs.size) (S:=s.heap.objs.size+1) (itAt:=fun j h=>h.IsListIter s.heap.objs.size p j) ⟨fun j h h' a e=>?_,fun j h tk v Q E K hit hv q=>?_,fun j h tk Q E K hit hv q=>?_⟩ bt (zBt _) (zL _) (Nat.succ_ne_self _) cmp hR h0 _ s.toks 0 (kp0 _ _) ?_ ?_
   . obtain⟨o,ho,hc⟩:=a
     exact⟨o,by rw[e];exact ho,hc⟩
   . obtain⟨o,ho,hc⟩:=hp
     exact wpAny_pyNext_list_item hit ⟨o,K _ _ ho,hc⟩ (by rw[zAv];exact hv) fun h' a b=>q h' a fun c hc=>b.2 c hc
   . obtain⟨o,ho,hc⟩:=hp
     exact wpAny_pyNext_list_end hA hit ⟨o,K _ _ ho,hc⟩ (by rw[zAv];exact hv) fun h' b=>q h' b
   . exact⟨_,zK _ (zU _ rfl),rfl,rfl⟩
   . rw[<-hSe];exact zU _ rfl
 . refine zC (zBp hp (zC (wpAny_newList (zH ⟨rfl,?_⟩) (by show 0<=sizeLine;decide))))
   have hSe:(s.heap.push { cls:=.type "tuple_iterator",data:=.fields #[.ref p,.int 0 0] }).objs.size=s.heap.objs.size+1:=zAe ..
   rw[hSe]
   refine zEO (s0:=s) (I:=s.heap.objs.size) (S:=s.heap.objs.size+1) (itAt:=fun j h=>h.IsTupleIter s.heap.objs.size p j) ⟨fun j h h' a e=>?_,fun j h tk v Q E K hit hv q=>?_,fun j h tk Q E K hit hv q=>?_⟩ bt (zBt _) (zL _) (Nat.succ_ne_self _) cmp hR h0 _ s.toks 0 (kp0 _ _) ?_ ?_
   . obtain⟨o,ho,hc⟩:=a
     exact⟨o,by rw[e];exact ho,hc⟩
   . obtain⟨o,ho,hc⟩:=hp
     exact wpAny_pyNext_tuple_item hit ⟨o,K _ _ ho,hc⟩ (by rw[zAv];exact hv) fun h' a b=>q h' a fun c hc=>b.2 c hc
   . obtain⟨o,ho,hc⟩:=hp
     exact wpAny_pyNext_tuple_end hA hit ⟨o,K _ _ ho,hc⟩ (by rw[zAv];exact hv) fun h' b=>q h' b
   . exact⟨_,zK _ (zU _ rfl),rfl,rfl⟩
   . rw[<-hSe];exact zU _ rfl
section
variable {X:Cx}
noncomputable def rMinD (K:PySem.W.Frag)(x dv:V)(H:Hp)(Q:VK):Prop:=∃(p:Addr)(ys:List V),x = .ref p/\(SqL K H p ys\/SqT K H p ys)/\(ys=[]->Q dv H) /\
 ((∃ks,zAT H ys ks/\∀(i:Nat)(y:V)(k:List Int),ys[i]? = some y->ks[i]? = some k->(∀k'∈ks,HT.lexLt k' k=false)->Q y H)\/(∃ns:List Int,ys=ns.map V.int/\∀n∈ns,(∀m∈ns,n<=m)->Q (.int n) H))
noncomputable def tMinD (K:PySem.W.Frag)(t:TA)(td:TE):TE:=fun σ H Q=>t σ H fun vs H1=>∃x,vs=[x]/\td σ H1 fun dv H2=>rMinD K x dv H2 Q
theorem zF0 {e de:Expr}{t:TA}{td:TE}{pos np kpos:Pos}(hc:X.calm=true)(hu:X.A.units+1<cLine)(hg:Gl X "min") (hm:X.mg "min" = none) (he:PA X [e] t)(hd:PE X de td)
 (hs1:backTo pos (starEach [e] X.env)=(false,eval e X.env)::backTo pos (starEach [] X.env):=by rfl)(hs2:(backTo pos (starEach [e] X.env)).any (·.1)=false:=by rfl) :
 PE X (.Call (.Name "min" np) [e] [⟨some "default",de,kpos⟩] pos) (tMinD X.K t td):=by
 intro pins s σ H Q I h
 refine wpAny_Call_Name_kw (zCh I hg hm (by decide +kernel:bootBuiltins "min" = some (.builtin "min")) ?_)
 refine PyProof.Rows.callWith_kw (thn (he pos pins s σ H _ I h) fun us s1 ⟨vs,H1,I1,r,q1⟩=>?_) hs1 hs2
 obtain⟨x,rfl,q1⟩:=q1
 obtain⟨u,rfl,rx⟩:=zCt r
 show wpAny _ _ (evalAll ((do let v <-eval de X.env;standAt pos;pure v)::[])) _ _ s1
 refine wpAny_evalAll_cons (zC (thn (hd pins s1 σ H1 _ I1 q1) fun ud s2 ⟨dv,H2,I2,rd,q2⟩=>zC (wpAny_standAt (zH (wpAny_evalAll_nil ?_)))))
 show wpAny _ _ (call (.builtin "min") [u] [(Str.ofString "default",ud)]) _ _ s2
 obtain⟨p,ys,rfl,hp,q0,hk⟩:=q2
 cases rx
 obtain⟨its,rv,hpp⟩:∃its:List Value,zBR ys its/\(s2.heap.IsList p its.toArray\/s2.heap.IsTuple p its.toArray):=by
  rcases hp with hp | hp
  . obtain⟨its,r',pl,_⟩:=I2.list hp
    exact⟨its,r',.inl pl.isList⟩
  . obtain⟨its,r',pl,_⟩:=I2.tuple hp
    exact⟨its,r',.inr pl⟩
 have hlen:=rv.length
 have e0:its=[]->ys=[]:=fun z=>List.length_eq_zero_iff.mp (by rw[hlen,z];rfl)
 rcases hk with ⟨ks,T,q⟩ | ⟨ns,rfl,q⟩
 . have hl:=T.length
   refine zFn (I2.ok.hd hc) (fun i j=>zJk.blt (ks.getD i []) (ks.getD j [])) hpp (fun i j vi vj h tk Q E K hi hj q=>?_) (fun v h tk hv K=>?_) (fun z h tk K=>⟨dv,H2,I2.kept K,rd,q0 (e0 z)⟩)
   . have look:∀(i:Nat)(v:Value),its[i]? = some v->∃(p:Addr)(k:List Int)(us:List Value),v = .ref p/\ks[i]? = some k/\IntsAre us k/\IsTup h p us.toArray:=fun i v hv=>by
      have hi:i<ys.length:=by have:=(zE.mp hv).1;omega
      obtain⟨p,k,e1,e2,e3,_⟩:=T.get (i:=i) (x:=ys[i]) (by simp[hi])
      obtain⟨u,hu,ru⟩:=rv.get (i:=i) (x:=ys[i]) (by simp[hi])
      rw[hv] at hu;cases hu
      rw[e1] at ru
      cases (show v=Value.ref p from ru)
      obtain⟨_,us,rv',o,ho,hc⟩:=I2.hok p _ e3
      exact⟨p,k,us,rfl,e2,zCF rv',o,K _ _ ho,hc⟩
     obtain⟨p1,k1,us1,rfl,g1,i1,t1⟩:=look i vi hi
     obtain⟨p2,k2,us2,rfl,g2,i2,t2⟩:=look j vj hj
     refine HT.lt_tupInts (ns:=k1) (ms:=k2) t1 t2 i1 i2 hu ?_
     have:zJk.blt (ks.getD i []) (ks.getD j [])=HT.lexLt k1 k2:=by rw[zD,zD,g1,g2];rfl
     rw[<-this];exact q
   . obtain⟨b1,b2⟩:=zD4 (O:=zJk) (fun i=>ks.getD i []) (its.length-1)
     have hlt:=(zE.mp hv).1
     generalize eb:argBest (fun i j=>zJk.blt (ks.getD i []) (ks.getD j [])) (its.length-1)=bi at hv hlt b1 b2
     have hy:bi<ys.length:=by omega
     obtain⟨u,hu,ru⟩:=rv.get (i:=bi) (x:=ys[bi]) (by simp[hy])
     rw[hv] at hu;cases hu
     obtain⟨pa,k,e1,e2,e3,_⟩:=T.get (i:=bi) (x:=ys[bi]) (by simp[hy])
     refine⟨ys[bi],H2,I2.kept K,ru,q bi ys[bi] k (by simp[hy]) e2 fun k' hk'=>?_⟩
     obtain⟨j,hj,ej⟩:=zd hk'
     have:=b2 j (by omega)
     have g1:ks.getD j []=k':=by rw[zD,zA hj,ej];rfl
     have g2:ks.getD bi []=k:=by rw[zD,e2];rfl
     rw[g1,g2] at this
     exact this
 . have hI:IntsAre its ns:=zCF rv
   have hl:=hI.length
   have look:∀(i:Nat)(v:Value),its[i]? = some v->∃t,v = .int (ns.getD i 0) t:=fun i v hv=>by
    have hi:i<ns.length:=by have:=(zE.mp hv).1;omega
    obtain⟨u,hu,ru⟩:=rv.get (i:=i) (x:=.int ns[i]) (by simp[hi])
    rw[hv] at hu;cases hu
    obtain⟨t,rfl⟩:=(show ∃t,v=Value.int ns[i] t from ru)
    exact⟨t,by rw[zD,zA hi];rfl⟩
   refine zFn (I2.ok.hd hc) (fun i j=>decide (ns.getD i 0<ns.getD j 0)) hpp (fun i j vi vj h tk Q E K hi hj q=>?_) (fun v h tk hv K=>?_) (fun z h tk K=>⟨dv,H2,I2.kept K,rd,q0 (e0 z)⟩)
   . obtain⟨t1,rfl⟩:=look i vi hi
     obtain⟨t2,rfl⟩:=look j vj hj
     exact PyProof.Rows.lt_int q
   . obtain⟨b1,b2⟩:=argBest_lt (fun i=>ns.getD i 0) (its.length-1)
     have hlt:=(zE.mp hv).1
     generalize eb:argBest (fun i j=>decide (ns.getD i 0<ns.getD j 0)) (its.length-1)=bi at hv hlt b1 b2
     obtain⟨t,rfl⟩:=look bi v hv
     have hy:bi<ns.length:=by omega
     refine⟨.int (ns.getD bi 0),H2,I2.kept K,⟨t,rfl⟩,q _ ?_ fun m hm=>?_⟩
     . rw[zD,zA hy];exact zAX hy
     . obtain⟨j,hj,ej⟩:=zd hm
       have:=b2 j (by omega)
       have g1:ns.getD j 0=m:=by rw[zD,zA hj,ej];rfl
       rw[g1] at this
       exact this
end
end L2
namespace L2
open PySem PyProof.Rows
variable {prog:Program}{w:World}
theorem zLM {A:Around}{s:Shared}{l:Addr}{its:Array Value}{Q:Option Value->Shared->Prop}{E:Value->Shared->Prop}(hA:A.handled=none)(hl:PlainL s.heap l its)
 (q:∀h' tk,Kp s h'->Q none { s with heap:=h',toks:=tk }):wpAny (model prog w) A (getAttr? (.ref l) (Str.ofString "keys")) Q E s:=by
 have ty:∀tk,Shared.TypeIs { s with toks:=tk } (.ref l) "list" := fun tk=>by
  obtain⟨o,ho,hc,_⟩:=hl.isList
  exact⟨o,ho,hc⟩
 unfold getAttr?
 refine zC (zC (wpAny_fresh (zH ?_)))
 unfold getAttrBy?
 refine zC (wpAny_attempt ?_)
 unfold getAttrBy
 refine zAY (zC (zBo (ty _) (zC (wpAny_of_eq (show typeLookup (.type "list") (Str.ofString "__getattribute__")=pure (some (.builtin "list.__getattribute__")) from rfl) (zH ?_)))))
 show wpAny _ _ (getAttrByItsOwn _ _ _ _ _ _) _ _ _
 unfold getAttrByItsOwn
 refine zC (wpAny_of_eq (show hookBefore (.type "list")=pure none from rfl) (zH (zC (wpAny_attempt (zAY ?_)))))
 show wpAny _ _ (boundAndCalled _ _ _) _ _ _
 unfold boundAndCalled
 refine zC (wpAny_of_eq (show bindSpecial (.builtin "list.__getattribute__") (.ref l)=pure (.builtin "list.__getattribute__",[.ref l]) from rfl) (zH ?_))
 refine wpAny_call (codeAny_call_builtin (by decide +kernel) PySem.am_entry_list_getattribute ?_)
 refine zC (zBL (ty _) (b:=true) rfl ?_)
 refine wpAny_of_eq (m':=pure ()) rfl (zH ?_)
 unfold Builtin.«object.__getattribute__»
 refine zC (wpAny_of_eq (m':=pure (Value.ref l,[Value.str (Str.ofString "keys") s.toks])) rfl (zH ?_))
 refine zC (zH (zC (zBo (ty _) (zC ?_))))
 unfold Builtin.ObjectAttr.find
 refine zC (wpAny_of_eq (m':=pure none) rfl (zH (zC (zH (zC (zH ?_))))))
 obtain⟨o,n,ho,hc,hd,hdat⟩:=id hl
 obtain⟨cls,dict,data,slots⟩:=o
 obtain rfl:cls=_:=hc
 obtain rfl:dict=_:=hd
 obtain rfl:data=_:=hdat
 refine zC (zC (zC (wpAny_loadPart ho (zC (wpAny_loadPart ho (zH (zH ?_)))))))
 refine zC (wpAny_of_eq (m':=pure ()) rfl (zH (zC (zB9 (zH ?_)))))
 show wpAny _ _ (Builtin.ObjectAttr.noSuchAttribute (Value.ref l) (Str.ofString "keys")) _ _ _
 unfold Builtin.ObjectAttr.noSuchAttribute
 refine zC (zC (zC (zBo (ty _) (wpAny_of_eq (m':=pure (Value.type "list")) rfl (zH (wpAny_of_eq (m':=pure "list") rfl (zH ?_)))))))
 refine wpAny_raiseAttrError hA (fun h' tk e ne=>?_) (by decide +kernel)
 obtain⟨t,u,he⟩:=ne.there
 have tye:∀tk,Shared.TypeIs { s with heap:=h',toks:=tk } (.ref e) "AttributeError" := fun tk=>⟨_,he,rfl⟩
 show wpAny _ _ (getattributeRaised _ _ _ _ _ _ _) _ _ _
 unfold getattributeRaised
 refine zC (zBL (tye _) (b:=true) rfl ?_)
 refine zC (wpAny_of_eq (m':=pure none) rfl (zH ?_))
 refine zC (wpAny_throw ?_)
 refine zC (zBL (tye _) (b:=true) rfl (zH ?_))
 exact q h' tk ne.keeps
theorem zFN (a:Args):(Code.builtin "dict.update.loop" a).quiet=true:=plainId_quiet (id := "dict.update.loop") (by decide +kernel) a
theorem zGy {κ:Type} [DecidableEq κ] (kvs:List (κ×Value))(k:κ)(v:Value):(stored kvs k v).length<=kvs.length+1:=by
 unfold stored
 split
 . rw[zB];omega
 . rw[zI];exact zL _
noncomputable def zD9 (qs:List (Key×Value)):List (Key×Value):=qs.foldl (fun a q=>stored a q.1 q.2) []
theorem zGz (qs:List (Key×Value))(q:Key×Value):zD9 (qs++[q])=stored (zD9 qs) q.1 q.2:=by unfold zD9;rw[List.foldl_append];rfl
theorem zHY (qs:List (Key×Value)):(zD9 qs).length<=qs.length:=by
 have:∀(qs:List (Key×Value))(a:List (Key×Value)),(qs.foldl (fun a q=>stored a q.1 q.2) a).length<=a.length+qs.length:=by
  intro qs
  induction qs with
  | nil=>intro a;exact zL _
  | cons q qs ih=>
   intro a
   have h1:=ih (stored a q.1 q.2)
   have h2:=zGy a q.1 q.2
   rw[List.foldl_cons,zAG];omega
 have:=this qs []
 simpa [zD9] using this
section
variable {prog:Program}{w:World}{A:Around}{s0:Shared}{D I l:Addr}{its:List Value}{qs:List (Key×Value)}
theorem zIg {R:Result->Shared->Prop}(hA:A.handled=none)(hD:s0.heap.objs.size<=D)(hI:s0.heap.objs.size<=I)(hDI:D≠I)(hl:s0.heap.IsList l its.toArray)(hz:its.length<=sizeLine)(hqs:qs.length=its.length)
 (look:∀(i:Nat)(v:Value),its[i]? = some v->∃(p:Addr)(kv u:Value)(k:Key),v = .ref p/\IsTup s0.heap p #[kv,u]/\(zAj prog w).is k kv=true/\qs[i]? = some (k,u))
 (hR:∀(h:Heap)(tk:Nat),Kp s0 h->h.DictOf (zAj prog w) D (zD9 qs)->R (.ok (.ret .none)) { s0 with heap:=h,toks:=tk }) :
 ∀(r j:Nat)(h:Heap)(tk:Nat),its.length-j=r->j<=its.length->Kp s0 h->h.IsListIter I l j->h.DictOf (zAj prog w) D (zD9 (qs.take j)) ->
  codeAny (model prog w) A (.builtin "dict.update.loop" { pos:=[.ref D,.ref I,rawInt j,.none] }) R { s0 with heap:=h,toks:=tk }:=by
 have hl':∀h,Kp s0 h->h.IsList l its.toArray:=fun h K=>by
  obtain⟨o,ho,hc⟩:=hl
  exact⟨o,K _ _ ho,hc⟩
 intro r
 induction r with
 | zero=>
  intro j h tk hr hj K hit hd
  refine codeAny_builtin (b:=Builtin.«dict.update.loop») (by rfl) ?_
  unfold Builtin.«dict.update.loop»
  refine zC (wpAny_pyNext_list_end hA hit (hl' h K) (by rw[zAv];exact zAw (by omega)) fun h' b=>?_)
  refine zC (wpAny_of_eq (m':=pure ()) rfl (zH (zH ?_)))
  refine hR h' tk (K.but hI b) ?_
  obtain⟨o,es,ep,ho,hrest⟩:=hd
  rw[zf (by omega)] at hrest
  exact⟨o,es,ep,b D o hDI ho,hrest⟩
 | succ r ih=>
  intro j h tk hr hj K hit hd
  obtain⟨x,hx⟩:∃x,its[j]? = some x:=⟨_,zA (by omega)⟩
  obtain⟨p,kv,u,k,rfl,tp,hk,hq⟩:=look j x hx
  refine codeAny_builtin (b:=Builtin.«dict.update.loop») (by rfl) ?_
  unfold Builtin.«dict.update.loop»
  refine zC (wpAny_pyNext_list_item hit (hl' h K) (by rw[zAv];exact hx) fun h' hit' b=>?_)
  have K':Kp s0 h':=K.but hI fun c o hc e=>by rw[b.2 c hc];exact e
  obtain⟨o,ho,hc,n,hdat⟩:=tp
  refine zC (zAY (zC (wpAny_tryCatch ?_)))
  unfold Builtin.Dict.pairItems
  refine zC (zBo (T := "tuple") ⟨o,K' _ _ ho,hc⟩ ?_)
  refine zC (zA6 (K' _ _ ho) hdat (zH ?_))
  have hd':h'.DictOf (zAj prog w) D (zD9 (qs.take j)):=by
   obtain⟨o,es,ep,ho,hrest⟩:=hd
   exact⟨o,es,ep,by rw[b.2 D hDI];exact ho,hrest⟩
  refine zAY (wpAny_dictSet_pairs hk hd' (fun h2 hd2 b2=>?_) (zy (zHY _) (by rw[zw];omega)))
  refine zH ⟨zFN _,?_⟩
  refine ih (j+1) h2 (tk+1) (by omega) (by omega) (fun c o e=>?_) ?_ ?_
  . rw[b2.2 c (zY (zt (zX e) hD))];exact K' c o e
  . obtain⟨o,ho,hc⟩:=hit'
    exact⟨o,by rw[b2.2 I (Ne.symm hDI)];exact ho,hc⟩
  . rw[zAI,hq]
    show h2.DictOf _ D (zD9 (qs.take j++[(k,u)]))
    rw[zGz]
    exact hd2
end
theorem zHF (h:Heap):(h.push { cls:=.type "dict",data:=.dict #[] }).DictOf (zAj prog w) h.objs.size []:=
 ⟨_,#[],0,zU _ rfl,⟨rfl,rfl,rfl⟩,rfl,by
  first | exact KeysOf.nil | (intro x hx;simp at hx) | trivial | decide,by
  first | exact .nil | trivial,zCC⟩
theorem zEH {A:Around}{s:Shared}{l:Addr}{its:List Value}{qs:List (Key×Value)}{Q E:Value->Shared->Prop}(hA:A.handled=none)(hl:PlainL s.heap l its.toArray)(hz:its.length<=sizeLine)(hqs:qs.length=its.length)
 (look:∀(i:Nat)(v:Value),its[i]? = some v->∃(p:Addr)(kv u:Value)(k:Key),v = .ref p/\IsTup s.heap p #[kv,u]/\(zAj prog w).is k kv=true/\qs[i]? = some (k,u))
 (q:∀(D:Addr)(h:Heap)(tk:Nat),s.heap.objs.size<=D->Kp s h->h.DictOf (zAj prog w) D (zD9 qs)->Q (.ref D) { s with heap:=h,toks:=tk }) :
 wpAny (model prog w) A (call (.type "dict") [.ref l]) Q E s:=by
 refine callType_codes (Q₁:=fun obj s₁=>obj = .ref s.heap.objs.size/\s₁={ s with heap:=s.heap.push { cls:=.type "dict",data:=.dict #[] } }) PySem.F.kt_called_dict (PySem.F.kt_typeCall_dict_1 _) PySem.F.entry_dict_init ?_ (fun obj s₁ e=>?_)
 . refine codeAny_call_builtin (by decide +kernel) PySem.F.kt_entry_dict_new (wpAny_of_eq (PySem.F.kt_newCall_dict_1 _) (zH ?_))
   unfold Builtin.«dict.__new__»
   refine zC (wpAny_of_eq (m':=pure true) rfl (zH (zC (wpAny_of_eq (m':=pure true) rfl (zH (zC (wpAny_of_eq (m':=pure [Value.type "dict",Value.type "object"]) rfl (zH ?_))))))))
   exact zC (wpAny_newObjAsIs_type (zH ⟨rfl,rfl⟩))
 . obtain⟨rfl,rfl⟩:=e
   refine⟨⟨_,zU _ rfl,rfl⟩,PySem.F.args_dict_init_2 _ _,?_⟩
   unfold Builtin.«dict.__init__»
   have h0:Kp s (s.heap.push { cls:=.type "dict",data:=.dict #[] }):=fun b o e=>zK _ e
   have hl1:∀h,Kp s h->PlainL h l its.toArray:=fun h K=>by
    obtain⟨o,n,ho,hr⟩:=hl
    exact⟨o,n,K _ _ ho,hr⟩
   refine zC (zC (zC (zBo (T := "dict") ⟨_,zU _ rfl,rfl⟩ (zH (zC (zH (zH ?_)))))))
   show wpAny _ _ (Builtin.Dict.updateFrom "dict.__init__" s.heap.objs.size (.ref l) [] .none) _ _ _
   unfold Builtin.Dict.updateFrom
   refine zC (zBo (T := "list") (let ⟨o,ho,hc,_⟩:=(hl1 _ h0).isList;⟨o,ho,hc⟩) ?_)
   refine zC (zLM hA (hl1 _ h0) fun h1 tk1 K1=>?_)
   have K1':Kp s h1:=fun b o e=>K1 b o (h0 b o e)
   refine zC (zB9 (zC (wpAny_pyIter_list (hl1 _ K1').isList (zH ⟨zFN _,?_⟩))))
   have hsz:s.heap.objs.size<h1.objs.size:=zX (K1 _ _ (zU _ rfl))
   refine zIg (A:=A.in1) (s0:=s) (l:=l) (its:=its) (qs:=qs) hA (zL _) (zBq hsz) (zY hsz) hl.isList hz hqs look ?_ its.length 0 _ tk1 rfl (zc _) (fun b o e=>zK _ (K1' b o e)) ?_ ?_
   . exact fun h tk K hd=>⟨rfl,q _ h tk (zL _) K hd⟩
   . exact⟨_,zU _ rfl,rfl,rfl⟩
   obtain⟨o,es,ep,ho,hr⟩:=zHF (prog:=prog) (w:=w) s.heap
   exact⟨o,es,ep,zK _ (K1 _ _ ho),hr⟩
section
variable {X:Cx}
noncomputable def zGq (H:Hp)(ys:List V)(ps:List (Key×V)):Prop:=ps.length=ys.length/\∀(i:Nat)(y:V),ys[i]? = some y->∃(p:Addr)(k:Key)(v:V),y = .ref p/\H p=some (.tup [kV k,v])/\ps[i]? = some (k,v)
noncomputable def zDI (ps:List (Key×V)):List (Key×V):=ps.foldl (fun a p=>zCP a p.1 p.2) []
theorem zFQ:∀(ps:List (Key×V))(qs:List (Key×Value))(a:List (Key×V))(b:List (Key×Value)),KV ps qs->KV a b->KV (ps.foldl (fun a p=>zCP a p.1 p.2) a) (qs.foldl (fun a q=>stored a q.1 q.2) b)
 | [],[],_,_,_,h=>h
 | p::ps,q::qs,a,b,h,h'=>by
  cases h with
  | cons h1 h2=>
   rw[List.foldl_cons,List.foldl_cons]
   refine zFQ ps qs _ _ h2 ?_
   rw[<-h1.1]
   exact KV.put h' p.1 h1.2
 | [],_::_,_,_,h,_=>by cases h
 | _::_,[],_,_,h,_=>by cases h
theorem zG2 (ps:List (Key×V)):(zDI ps).length<=ps.length:=by
 have:∀(ps:List (Key×V))(a:List (Key×V)),(ps.foldl (fun a p=>zCP a p.1 p.2) a).length<=a.length+ps.length:=by
  intro ps
  induction ps with
  | nil=>intro a;exact zL _
  | cons q qs ih=>
   intro a
   have h1:=ih (zCP a q.1 q.2)
   have h2:=zBG a q.1 q.2
   rw[List.foldl_cons,zAG];omega
 have:=this ps []
 simpa [zDI] using this
theorem zCq (hc:X.calm=true):zCn X (.type "dict") (fun xs H Q=>∃l ys ps,xs=[.ref l]/\SqL X.K H l ys/\zGq H ys ps/\∀d,H d=none->Q (.ref d) (upd H d (.dK (zDI ps)))):=by
 intro pins s σ H xs us Q I r h
 obtain⟨l,ys,ps,rfl,hq,⟨hpl,hps⟩,q⟩:=h
 obtain⟨u,rfl,rx⟩:=zCt r
 cases rx
 obtain⟨its,rv,pl,hz⟩:=I.list hq
 have hlen:=rv.length
 have both:∀(i:Nat),i<its.length->∃(p:Addr)(kv u:Value)(k:Key)(v:V),its[i]? = some (.ref p)/\IsTup s.heap p #[kv,u]/\(zAj X.prog X.w).is k kv=true/\zBi v u/\ps[i]? = some (k,v):=fun i hi=>by
  have hy:i<ys.length:=by omega
  obtain⟨p,k,v,e1,e2,e3⟩:=hps i ys[i] (by simp[hy])
  obtain⟨u,hu,ru⟩:=rv.get (i:=i) (x:=ys[i]) (by simp[hy])
  rw[e1] at ru
  cases (show u=Value.ref p from ru)
  obtain⟨_,us,rv',tp⟩:=I.hok p _ e2
  obtain⟨a,b,rfl,ra,rb⟩:=zJA rv'
  exact⟨p,a,b,k,v,hu,tp,zDs ra,rb,e3⟩
 obtain⟨qs,hql,hqk⟩:∃qs:List (Key×Value),qs.length=its.length/\∀(i:Nat),i<its.length->∃(p:Addr)(kv u:Value)(k:Key)(v:V),its[i]? = some (.ref p)/\IsTup s.heap p #[kv,u]/\(zAj X.prog X.w).is k kv=true/\zBi v u/\ps[i]? = some (k,v)/\qs[i]? = some (k,u):=by
  have:∀m,m<=its.length->∃qs:List (Key×Value),qs.length=m/\∀(i:Nat),i<m->∃(p:Addr)(kv u:Value)(k:Key)(v:V),its[i]? = some (.ref p)/\IsTup s.heap p #[kv,u]/\(zAj X.prog X.w).is k kv=true/\zBi v u/\ps[i]? = some (k,v)/\qs[i]? = some (k,u):=by
   intro m
   induction m with
   | zero=>intro _;exact⟨[],rfl,fun i hi=>absurd hi (zBw _)⟩
   | succ m ih=>
    intro hm
    obtain⟨qs,h1,h2⟩:=ih (by omega)
    obtain⟨p,kv,u,k,v,g1,g2,g3,g4,g5⟩:=both m (by omega)
    refine⟨qs++[(k,u)],by rw[zI,h1];rfl,fun i hi=>?_⟩
    by_cases c:i=m
    . subst c
      exact⟨p,kv,u,k,v,g1,g2,g3,g4,g5,by rw[zM (by omega),h1,zAp];rfl⟩
    . obtain⟨p,kv,u,k,v,f1,f2,f3,f4,f5,f6⟩:=h2 i (by omega)
      exact⟨p,kv,u,k,v,f1,f2,f3,f4,f5,by rw[zN (by omega)];exact f6⟩
  exact this its.length (zL _)
 have kv:KV ps qs:=by
  have:∀(ps:List (Key×V))(qs:List (Key×Value)),ps.length=qs.length->(∀i,i<ps.length->∃k v u,ps[i]? = some (k,v)/\qs[i]? = some (k,u)/\zBi v u)->KV ps qs:=by
   intro ps
   induction ps with
   | nil=>intro qs e _;cases qs with
    | nil=>exact .nil
    | cons _ _=>simp at e
   | cons p ps ih=>
    intro qs e h
    cases qs with
    | nil=>simp at e
    | cons q qs=>
     obtain⟨k,v,u,h1,h2,h3⟩:=h 0 (by simp)
     simp at h1 h2
     subst h1 h2
     refine .cons ⟨rfl,h3⟩ (ih qs (by simpa using e) fun i hi=>?_)
     obtain⟨k,v,u,h1,h2,h3⟩:=h (i+1) (by simp;omega)
     exact⟨k,v,u,by simpa using h1,by simpa using h2,h3⟩
  refine this ps qs (by omega) fun i hi=>?_
  obtain⟨p,kv,u,k,v,_,_,_,f4,f5,f6⟩:=hqk i (by omega)
  exact⟨k,v,u,f5,f6,f4⟩
 refine zEH (its:=its) (qs:=qs) (I.ok.hd hc) pl (by omega) hql (fun i v hv=>?_) (fun D h tk hD K dd=>?_)
 . obtain⟨p,kv,u,k,v',f1,f2,f3,f4,f5,f6⟩:=hqk i (zE.mp hv).1
   rw[hv] at f1;cases f1
   exact⟨p,kv,u,k,rfl,f2,f3,f6⟩
 . have hfr:H D=none:=I.hok.fresh hD
   have zz:(zDI ps).length<=sizeLine:=zy (zG2 ps) (by omega)
   refine⟨.ref D,_,I.laid (a:=D) (o:=.dK (zDI ps)) (t':=tk) K hD (zFk zz (beq_eq_false_iff_ne.mpr (Ne.symm (zY (zt I.big hD)))) (zFQ ps qs [] [] kv .nil) dd),rfl,q D hfr⟩
end
end L2
namespace L2
open PySem PySem.Spec PyProof.Rows
section
variable {X:Cx}
theorem zGX {x:Str}{T:String}{pos:Pos}(hg:Gl X x)(hm:X.mg x=none)(hv:bootBuiltins x=some (.type T))(hn:x ≠ "__name__" := by decide) (hdb:(x==("__debug__" : Str))=false:=by decide):PE X (.Name x pos) (tC (.ty T)):=
 fun pins s σ H Q I h=>zCh I hg hm hv ⟨.ty T,H,I,rfl,h⟩ hn hdb
theorem zCc:zCn X (.builtin "isinstance") (fun xs H Q=>∃x T t b,xs=[x,.ty T]/\zHI X.K H x t/\PySem.W.kitOne X.K t (.type T)=some b/\Q (.bl b) H):=by
 intro pins s σ H xs us Q I r h
 obtain⟨x,T,t,b,rfl,ty,e,q⟩:=h
 obtain⟨u,w',rfl,rx,rT⟩:=zJA r
 cases (show w'=Value.type T from rT)
 exact zIR I rx ty e fun tk=>⟨.bl b,H,I.tok tk,rfl,q⟩
theorem ps_no {st:Stmt}:PS X st (fun _ _ _=>False):=fun _ _ _ _ _ _ h=>h.elim
end
section
variable {prog:Program}{w:World}{A:Around}{s0:Shared}{I l:Addr}{bs:List Bool}
theorem zJx {R:Result->Shared->Prop}(hA:A.handled=none)(hI:s0.heap.objs.size<=I)(hl:s0.heap.IsList l (bs.map Value.bool).toArray)
 (hR:∀(h:Heap)(tk:Nat),Kp s0 h->R (.ok (.ret (.bool (bs.all id)))) { s0 with heap:=h,toks:=tk }) :
 ∀(r j:Nat)(h:Heap)(tk:Nat),bs.length-j=r->j<=bs.length->Kp s0 h->h.IsListIter I l j->(bs.take j).all id=true ->
  codeAny (model prog w) A (.builtin "all.loop" { pos:=[.ref I] }) R { s0 with heap:=h,toks:=tk }:=by
 have hl':∀h,Kp s0 h->h.IsList l (bs.map Value.bool).toArray:=fun h K=>by
  obtain⟨o,ho,hc⟩:=hl
  exact⟨o,K _ _ ho,hc⟩
 intro r
 induction r with
 | zero=>
  intro j h tk hr hj K hit ha
  refine codeAny_builtin PySem.F.entry_all_loop ?_
  unfold Builtin.«all.loop»
  refine zC (wpAny_pyNext_list_end hA hit (hl' h K) (by rw[zAv];exact zAw (by rw[zB];omega)) fun h' b=>?_)
  refine zC (zB9 (zH ?_))
  rw[zf (by omega)] at ha
  have:=hR h' tk (K.but hI b)
  rw[ha] at this
  exact this
 | succ r ih=>
  intro j h tk hr hj K hit ha
  obtain⟨x,hx⟩:∃x,bs[j]? = some x:=⟨_,zA (by omega)⟩
  refine codeAny_builtin PySem.F.entry_all_loop ?_
  unfold Builtin.«all.loop»
  refine zC (wpAny_pyNext_list_item hit (hl' h K) (x:=.bool x) (by rw[zAv,zO,hx];rfl) fun h' hit' b=>?_)
  have K':Kp s0 h':=K.but hI fun c o hc e=>by rw[b.2 c hc];exact e
  refine zC (zAY (zBV (zC (wpAny_letGo ?_))))
  cases x with
  | true=>
   refine zH ⟨rfl,?_⟩
   exact ih (j+1) h' tk (by omega) (by omega) K' hit' (by rw[zAI,hx,List.all_append,ha];rfl)
  | false=>
   refine zC (zB9 (zH ?_))
   have e:bs.all id=false:=by
    cases z:bs.all id with
    | false=>rfl
    | true=>have:=zAy.mp z false (zS hx);simp at this
   have:=hR h' tk K'
   rw[e] at this
   exact this
end
section
variable {X:Cx}
theorem zGp:∀{bs:List Bool}{its:List Value},zBR (bs.map V.bl) its->its=bs.map Value.bool
 | [],[],_=>rfl
 | b::bs,u::its,h=>by
  cases h with
  | cons h1 h2=>rw[zAS,<-zGp h2,show u=Value.bool b from h1]
 | [],_::_,h=>by cases h
 | _::_,[],h=>by cases h
theorem zE3 (hc:X.calm=true):zCn X (.builtin "all") (fun xs H Q=>∃(p:Addr)(bs:List Bool),xs=[.ref p]/\SqL X.K H p (bs.map V.bl)/\Q (.bl (bs.all id)) H):=by
 intro pins s σ H xs us Q I r h
 obtain⟨p,bs,rfl,hq,q⟩:=h
 obtain⟨u,rfl,rx⟩:=zCt r
 cases rx
 obtain⟨its,r',pl,hz⟩:=I.list hq
 rw[zGp r'] at pl
 refine wpAny_call (codeAny_call_builtin PySem.F.plain_all PySem.F.entry_all (wpAny_of_eq (m':=pure ()) rfl (zH ?_)))
 unfold Builtin.all
 refine zC (wpAny_of_eq (m':=pure (Value.ref p)) rfl (zH (zC (wpAny_pyIter_list pl.isList (zH ⟨rfl,?_⟩)))))
 refine zJx (s0:=s) (l:=p) (bs:=bs) (I.ok.hd hc) (zL _) pl.isList ?_ bs.length 0 _ s.toks rfl (zc _) (fun b o e=>zK _ e) ?_ rfl
 . exact fun h tk K=>⟨.bl _,H,I.kept K,rfl,q⟩
 . exact⟨_,zU _ rfl,rfl,rfl⟩
end
theorem zKl {prog:Program}{w:World}{h:Heap}(led:Bool):(h.push { cls:=.type "set",data:=.set #[] 0 (SetTable.fresh 0 0 led) }).SetOf (intKind prog w) h.objs.size (fun _=>false) 0:=by
 refine⟨_,#[],0,_,zU _ rfl,⟨rfl,rfl,rfl⟩,rfl,?_,fun k=>⟨fun z=>by simp at z,fun ⟨e,he,_⟩=>by simp at he⟩,by decide,?_,rfl⟩
 . first | exact ElemsOf.nil | trivial | (intro e he;simp at he)
 . cases led <;> first | rfl | decide +kernel
end L2
namespace L2
open PySem PySem.Spec PyProof.Rows
theorem zGD {prog:Program}{w:World}{A:Around}{s:Shared}{l:Addr}{its:List Value}{ns:List Int}{Q E:Value->Shared->Prop}(hA:A.handled=none)(hl:s.heap.IsTuple l its.toArray)(hi:IntsAre its ns)(hz:its.length+1<scanBound)
 (q:∀(h:Heap)(tk:Nat),Kp s h->h.SetOf (intKind prog w) s.heap.objs.size (fun k'=>(firstMet (fun i=>ns.getD i 0) its.length).any fun x=>x==k') (firstMet (fun i=>ns.getD i 0) its.length).length->Q (.ref s.heap.objs.size) { s with heap:=h,toks:=tk }) :
 wpAny (model prog w) A (call (.type "set") [.ref l]) Q E s:=by
 refine wpAny_call (codeAny_of_tree (zH ⟨Code.quiet_builtin _ (by decide +kernel),codeAny_builtin PySem.F.entry_type_call ?_⟩))
 unfold Builtin.«type.__call__»
 dsimp only
 rw[if_neg (by rw[PySem.F.called_set.notType];decide)]
 rw[if_neg (by rw[PySem.F.called_set.canCreate];decide)]
 obtain⟨c,tl,hm⟩:=PySem.F.called_set.mro
 refine zC (wpAny_of_eq (PySem.F.typeCall_set_1 _) (zH (zC (wpAny_of_eq hm (zH ?_)))))
 refine zC (wpAny_of_eq PySem.F.called_set.made (zH (zC (zH ?_))))
 refine zC (zAY (wpAny_call (codeAny_mono (code_set_new_1 (E:=E) (.ref l) (Q₁:=fun obj s₁=>obj = .ref s.heap.objs.size/\∃led,s₁={ s with heap:=s.heap.push { cls:=.type "set",data:=.set #[] 0 (SetTable.fresh 0 0 led) } }) fun led=>⟨rfl,led,rfl⟩) fun r s₁ e=>?_)))
 match r,e with
 | .ok (.ret obj),e=>
  obtain⟨rfl,led,rfl⟩:=e
  have h0:Kp s (s.heap.push { cls:=.type "set",data:=.set #[] 0 (SetTable.fresh 0 0 led) }):=fun b o e=>zK _ e
  have ht:∀h,Kp s h->h.IsTuple l its.toArray:=fun h K=>by
   obtain⟨o,ho,hr⟩:=hl
   exact⟨o,K _ _ ho,hr⟩
  have hlt:l<s.heap.objs.size:=by
   obtain⟨o,ho,_⟩:=hl
   exact zX ho
  have tyS:Shared.TypeIs { s with heap:=s.heap.push { cls:=.type "set",data:=.set #[] 0 (SetTable.fresh 0 0 led) } } (.ref s.heap.objs.size) "set" := ⟨_,zU _ rfl,rfl⟩
  show wpAny _ _ _ _ _ _
  refine zC (zBL tyS PySem.F.called_set.sub ?_)
  refine zC (zAY ?_)
  unfold callSpecial?
  refine zC (wpAny_specialOf tyS PySem.F.called_set.init.lookup (zAY (zC (wpAny_of_eq (PySem.F.called_set.init.bind _) (zH (zC (wpAny_call (codeAny_call_builtin PySem.F.called_set.init.plain PySem.F.entry_set_init (check_set_init_1 tyS ?_)))))))))
  unfold Builtin.«set.__init__»
  refine zC (wpAny_of_eq (m':=pure ()) rfl (zH ?_))
  dsimp only
  refine zC (zC (zC (zBo tyS (wpAny_of_eq (m':=pure (Value.type "set")) rfl (zH (wpAny_of_eq (m':=pure "set") rfl (zH ?_)))))))
  refine zC (wpAny_of_eq (m':=pure ()) rfl (zH (zC (zH ?_))))
  refine zC (zC (zC (wpAny_load (zU _ rfl) ?_)))
  refine wpAny_of_eq (m':=pure (#[],0,SetTable.fresh 0 0 led)) (by cases led <;> rfl) (zH (wpAny_of_eq (m':=pure false) (by cases led <;> rfl) (zH ?_)))
  have tyT:∀h tk,Kp s h->Shared.TypeIs { s with heap:=h,toks:=tk } (.ref l) "tuple" := fun h tk K=>by
   obtain⟨o,ho,hr⟩:=ht h K
   exact⟨o,ho,hr.1⟩
  show wpAny _ _ (Builtin.Frozenset.updateFrom "set.__init__" s.heap.objs.size (.ref l) >>= _) _ _ _
  unfold Builtin.Frozenset.updateFrom
  refine zC (zC (zC (zBL (tyT _ _ h0) PySem.F.sub_tuple_set (zBL (tyT _ _ h0) (b:=false) rfl ?_))))
  refine zC (zBo (tyT _ _ h0) ?_)
  refine zC (zBp (ht _ h0) (zC (wpAny_runValue ?_)))
  have hsz:(s.heap.push { cls:=.type "set",data:=.set #[] 0 (SetTable.fresh 0 0 led) }).objs.size=s.heap.objs.size+1:=zAe ..
  refine codeAny_set_update_loopS (Walks.toS (Walks.tuple (A:=(A.under (Code.builtin "type.__call__" { pos:=[.type "set",.ref l] })).in1.in1) hA (s.heap.push { cls:=.type "set",data:=.set #[] 0 (SetTable.fresh 0 0 led) }).objs.size l (zY (by rw[hsz];exact zA0 hlt)) its.toArray)) s.heap.objs.size ?_ (fun i=>ns.getD i 0) ?_ (by simpa using hz) its.toArray.size 0 _ rfl (zc _) ?_ ?_ ?_
  . rw[hsz]
    intro z
    rcases zm.mp z with z | z
    . exact absurd z (zY (zB8 _))
    . exact absurd (zk.mp z) (zAM hlt)
  . intro i v hv
    rw[zAv] at hv
    exact hi.int_at i v hv
  . exact⟨⟨_,zU _ rfl,rfl,rfl⟩,ht _ fun b o e=>zK _ (h0 b o e)⟩
  . have:=zKl (prog:=prog) (w:=w) (h:=s.heap) led
    obtain⟨o,es,ep,t,ho,hr⟩:=this
    exact⟨o,es,ep,t,zK _ ho,hr⟩
  . intro s' mv so
    refine zH (zH (zH (zH ?_)))
    obtain⟨h',g',d',t',o'⟩:=s'
    obtain rfl:g'=s.gens:=mv.gens
    obtain rfl:d'=s.drawn:=mv.drawn
    obtain rfl:o'=s.os:=mv.os
    refine q h' t' (fun b o e=>mv.heap b o ?_ (zK _ (h0 b o e))) (by simpa using so)
    have hb:b<s.heap.objs.size:=zX e
    intro z
    rw[hsz] at z
    rcases zm.mp z with z | z
    . exact absurd z (zY hb)
    . exact absurd (zk.mp z) (zY (zA0 hb))
 | .ok .next,e=>exact e.elim
 | .ok .brk,e=>exact e.elim
 | .ok .cont,e=>exact e.elim
 | .error v,e=>exact e
end L2
namespace L2
open PySem PySem.Spec PyProof.Rows
theorem zDx {ns:List Int}(h:ns.Nodup):∀k,k<=ns.length->firstMet (fun i=>ns.getD i 0) k=ns.take k
 | 0,_=>rfl
 | k+1,hk=>by
  rw[firstMet_succ,zDx h k (by omega)]
  have hx:ns[k]? = some (ns.getD k 0):=by rw[zD,zA (by omega)];rfl
  unfold step_dedup
  rw[if_neg,zAI,hx]
  . rfl
  . intro z
    obtain⟨y,hy,e⟩:=List.any_eq_true.mp z
    have e':y=ns.getD k 0:=by simpa using e
    obtain⟨j,hj,ej⟩:=zd hy
    rw[zw] at hj
    rw[List.getElem_take] at ej
    obtain⟨hk',ek⟩:=zE.mp hx
    have:=(List.nodup_iff_pairwise_ne.mp h)
    have:=zAC.mp this j k (by omega) (by omega) (by omega)
    exact this (by rw[ej,ek,e'])
section
variable {X:Cx}
theorem zIr (hc:X.calm=true):zCn X (.type "set") (fun xs H Q=>∃(p:Addr)(ns:List Int),xs=[.ref p]/\SqT X.K H p (ns.map V.int)/\ns.length<=1000 /\
 ∀d S,H d=none->Q (.ref d) (upd H d (.set S (firstMet (fun i=>ns.getD i 0) ns.length).length))):=by
 intro pins s σ H xs us Q I r h
 obtain⟨p,ns,rfl,hq,hl,q⟩:=h
 obtain⟨u,rfl,rx⟩:=zCt r
 cases rx
 obtain⟨its,rv,pl,hz⟩:=I.tuple hq
 have hi:=zCF rv
 have hil:=hi.length
 refine zGD (I.ok.hd hc) pl hi (by have:scanBound=4096:=rfl;omega) fun h tk K so=>?_
 rw[hil] at so
 exact⟨.ref s.heap.objs.size,_,I.laid (a:=s.heap.objs.size) (t':=tk) K (zL _) (show zBs X.prog X.w _ _ _ (.set _ _) from so),rfl,q _ _ I.fresh⟩
theorem zIt:zCn X (.builtin "len") (fun xs H Q=>∃(a:Addr)(S:Int->Bool)(n:Nat),xs=[.ref a]/\H a=some (.set S n)/\Q (.int n) H):=by
 intro pins s σ H xs us Q I r h
 obtain⟨a,S,n,rfl,ha,q⟩:=h
 obtain⟨u,rfl,rx⟩:=zCt r
 cases rx
 obtain⟨o,es,ep,t,ho,ex,hd,_,_,hb,hf,hn⟩:=(show zBs X.prog X.w H s.heap a (.set S n) from I.hok a _ ha)
 refine call_len_set ho ex hd hf (by have:scanBound=4096:=rfl;omega) ⟨.int n,H,I.tok _,⟨_,by rw[hn]⟩,q⟩
noncomputable def tBMT (r:V->List V->Hp->VK->Prop)(to:TE)(t:TA):TE:=fun σ H Q=>to σ H fun x H1=>(∃p ys,x = .ref p/\H1 p=some (.tup ys))/\t σ H1 fun xs H2=>r x xs H2 Q
variable {o e:Expr}{es:List Expr}{to:TE}{t:TA}{name:Str}{apos cpos:Pos}{id:String}{r:V->List V->Hp->VK->Prop}
theorem zKC (slot:Slot "tuple" name id) (hty:typeOf (.builtin id)=pure (.type "method_descriptor")) (hm:MtR X id r)(ho:PE X o to)(ha:PA X (e::es) t)
 (hbase:attributeBase o name X.env (eval o X.env)=eval o X.env:=by rfl)
 (hfew:((backTo cpos (starEach (e::es) X.env)).all (fun x=>!x.1) && (backToKw cpos (keywordEach [] X.env)).all (fun x=>x.1.isSome)
  && decide ((e::es).length+([]:List Keyword).length+(if ([]:List Keyword).isEmpty then 0 else 1)<30))=true:=by rfl)
 (hline:(apos.endLine==cpos.line)=true:=by rfl)(hs:starEach (e::es) X.env=(false,eval e X.env)::starEach es X.env:=by rfl)(hplain:(backTo cpos (starEach es X.env)).any (·.1)=false:=by rfl) :
 PE X (.Call (.Attribute o name apos) (e::es) [] cpos) (tBMT r to t):=by
 intro pins s σ H Q I h
 refine wpAny_Call_method_late hbase hfew hline rfl (thn (ho pins s σ H _ I h) fun v s1 ⟨x,H1,I1,r1,⟨p,ys,ex,hp⟩,q1⟩=>?_)
 subst ex
 cases (show v=Value.ref p from r1)
 obtain⟨⟨_,o2,ho2,hd2⟩,its,rv,ob,hob,hcl,_⟩:=(show zBs X.prog X.w H1 s1.heap p (.tup ys) from I1.hok p _ hp)
 refine⟨"tuple",id,PySem.F.plainAttrs_tuple,slot,hty,⟨ob,hob,hcl⟩,fun a ea=>?_,?_⟩
 . cases ea
   exact⟨o2,ho2,hd2⟩
 have hA:=ha cpos pins s1 σ H1 _ I1 q1
 rw[hs] at hA ⊢
 refine Calls.callWith_builtin (by show (false || (backTo cpos (starEach es X.env)).any (·.1))=false;rw[hplain] <;> rfl) (Calls.evalArgs_plain ?_)
 exact thn hA fun us s2 ⟨vs,H2,I2,r2,q2⟩=>hm pins s2 σ H2 (.ref p) vs (.ref p) us Q I2 rfl r2 q2
end
section
variable {prog:Program}{w:World}{A:Around}{E:Value->Shared->Prop}
theorem zIU {its:Array Value}{ns:List Int}{v:Int}{tv:Tok}{i:Nat}{R:Option PySem.Fin×Unit->Shared->Prop}(hi:IntsAre its.toList ns)(hv:ns[i]? = some v)(hno:∀j,j<i->ns[j]?≠some v)
 (f:Nat->Option PySem.Fin×Unit->Sem (ForInStep (Option PySem.Fin×Unit)))
 (hf:∀(j:Nat)(x:Option PySem.Fin×Unit),f j x=(match its[j]? with
  | some y=>do
   let b <-eqBool y (.int v tv)
   if b=true then do
    let r <-retInt j
    pure (.done (some r,()))
   else pure (.yield (none,()))
  | _=>pure (.yield (none,()))))
 (s:Shared)(hR:∀tk,R (some (.done (.ret (.int i s.toks))),()) { s with toks:=tk }) :
 ∀(r j:Nat)(b:Option PySem.Fin×Unit),i-j=r->j<=i->wpAny (model prog w) A (forIn (List.range' j (its.size-j) 1) b f) R E s:=by
 have hsz:its.size=ns.length:=by have:=hi.length;simpa using this
 have hil:i<ns.length:=(zE.mp hv).1
 have look:∀j,j<ns.length->∃t,its[j]? = some (.int (ns.getD j 0) t):=fun j hj=>by
  have hj':j<its.size:=by omega
  obtain⟨t,ht⟩:=hi.int_at j (its[j]'hj') (by rw[Array.getElem?_toList,Array.getElem?_eq_getElem hj'])
  exact⟨t,by rw[Array.getElem?_eq_getElem hj',ht]⟩
 intro r
 induction r with
 | zero=>
  intro j b hr hj
  obtain rfl:j=i:=by omega
  rw[show its.size-j=(its.size-j-1)+1 by omega,List.range'_succ,List.forIn_cons,hf]
  obtain⟨t,ht⟩:=look j hil
  rw[ht]
  refine zC (zC (wpAny_eqBool_int ?_))
  have e:ns.getD j 0=v:=by rw[zD,hv];rfl
  rw[e,show (v==v)=true by simp]
  refine zC (zC (wpAny_mkInt (zH (zH (zH ?_)))))
  exact hR _
 | succ r ih=>
  intro j b hr hj
  rw[show its.size-j=(its.size-(j+1))+1 by omega,List.range'_succ,List.forIn_cons,hf]
  obtain⟨t,ht⟩:=look j (by omega)
  rw[ht]
  refine zC (zC (wpAny_eqBool_int ?_))
  have hj':ns[j]? = some (ns.getD j 0):=by rw[zD,zA (by omega)];rfl
  have e:¬ ns.getD j 0=v:=fun z=>hno j (by omega) (by rw[hj',z])
  rw[show (ns.getD j 0==v)=false by simpa using e]
  refine zH ?_
  exact ih (j+1) _ (by omega) (by omega)
end
section
variable {X:Cx}
theorem zGe:MtR X "tuple.index" (fun x xs H Q=>∃(p:Addr)(ns:List Int)(i:Nat)(v:Int),x = .ref p/\xs=[.int v]/\SqT X.K H p (ns.map V.int)/\ns[i]? = some v/\(∀j,j<i->ns[j]?≠some v)/\Q (.int i) H):=by
 intro pins s σ H x xs v us Q I rx r h
 obtain⟨p,ns,i,k,rfl,rfl,hq,hi,hno,q⟩:=h
 cases (show v=Value.ref p from rx)
 obtain⟨u,rfl,t,rfl⟩:=zCt r
 obtain⟨its,rv,⟨ob,hob,hcl,n,hdat⟩,hz⟩:=I.tuple hq
 have hI:=zCF rv
 refine wpAny_call (codeAny_call_builtin PySem.F.slot_tuple_index.plain PySem.F.entry_tuple_index (PySem.F.slot_tuple_index.check _ _ _ _ _ _ _ _ ⟨ob,hob,hcl⟩ (PySem.F.args_tuple_index_2 _ _) ?_))
 unfold Builtin.«tuple.index»
 refine zC (wpAny_of_eq (m':=pure (Value.ref p,[Value.int k t])) rfl (zH ?_))
 refine zC (zC (zA6 hob hdat (zH ?_)))
 refine zC (zH (zC (zH (zC ?_))))
 rw[Std.Legacy.Range.forIn_eq_forIn_range']
 have hsz:(Std.Legacy.Range.mk 0 (min its.toArray.size its.toArray.size) 1 (by decide)).size=its.toArray.size-0:=by
  show (min its.toArray.size its.toArray.size-0+1-1)/1=_
  rw[Nat.min_self];omega
 rw[hsz]
 refine zIU (its:=its.toArray) (ns:=ns) (v:=k) (tv:=t) (i:=i) hI hi hno _ (fun j x=>by rfl) s (fun tk=>?_) i 0 _ (by omega) (zc _)
 exact zH ⟨.int i,H,I.tok _,⟨_,rfl⟩,q⟩
end
section
variable {X:Cx}{pl:List (Addr×Obj)}{N':List Str}{sc:Scope}{fp:List Addr}{s3:Shared}{H3:Hp}
theorem zIG:MtR (zBM X pl N' sc fp s3 H3) "tuple.index" (fun x xs H Q=>∃(p:Addr)(ns:List Int)(i:Nat)(v:Int),x = .ref p/\xs=[.int v]/\SqT X.K H p (ns.map V.int)/\ns[i]? = some v/\(∀j,j<i->ns[j]?≠some v)/\Q (.int i) H):=zGe
end
end L2
namespace L2
open PySem PySem.Spec PyProof.Rows
section
variable {X:Cx}
end
end L2
namespace L2
open PySem PySem.Spec PyProof.Rows
section
variable {prog:Program}{w:World}{A:Around}{s:Shared}{l:Addr}{its:List Value}{ns:List Int}{v:Int}{tv:Tok}
end
section
variable {X:Cx}
end
end L2
namespace WM
open L2
structure En where
 h:Int
 l:Int
 u:Option Int
 d:Option Int
noncomputable def Cd (es fs:List En)(c:Int×Int):Prop:=∃e∈es,∃f∈fs,f.h=e.h/\c=(e.l+f.l,e.h)
noncomputable def LMin (P:Int×Int->Prop):Option (Int×Int)->Prop
 | none=>∀c,¬ P c
 | some c=>P c/\∀c',P c'->c.1<c'.1\/(c.1=c'.1/\c.2<=c'.2)
noncomputable def Hub (es:List En):Prop:=es.Pairwise fun a b=>a.h<b.h
noncomputable def zIf (es:List En)(h:Int):Option En:=es.find? fun e=>decide (e.h=h)
variable {es:List En}
theorem zDX (hs:Hub es){h:Int}{e:En}:zIf es h=some e↔e∈es/\e.h=h:=by
 unfold zIf
 constructor
 . intro z
   exact⟨List.mem_of_find?_eq_some z,of_decide_eq_true (List.find?_some (p:=fun e:En=>decide (e.h=h)) z)⟩
 . rintro ⟨hm,rfl⟩
   induction es with
   | nil=>simp at hm
   | cons a es ih=>
    rw[List.find?_cons]
    rcases zm.mp hm with rfl | hm'
    . simp
    . have hp:=List.pairwise_cons.mp hs
      have:=hp.1 e hm'
      rw[ze (show ¬ a.h=e.h by omega)]
      exact ih hp.2 hm'
noncomputable def cOf (fs:List En)(e:En):Option (Int×Int):=(zIf fs e.h).map fun f=>(e.l+f.l,e.h)
theorem zDG {fs:List En}(hf:Hub fs)(c:Int×Int):c∈es.filterMap (cOf fs)↔Cd es fs c:=by
 rw[zA9]
 constructor
 . rintro ⟨e,he,z⟩
   unfold cOf at z
   cases q:zIf fs e.h with
   | none=>rw[q] at z;cases z
   | some f=>
    rw[q] at z
    obtain⟨h1,h2⟩:=(zDX hf).mp q
    exact⟨e,he,f,h1,h2,(zR z).symm⟩
 . rintro ⟨e,he,f,hfm,h1,rfl⟩
   refine⟨e,he,?_⟩
   unfold cOf
   rw[(zDX hf).mpr ⟨hfm,h1⟩]
   rfl
variable {i:Nat}
theorem zCi {α:Type}{l:List α}{x:α}(p:α->Bool)(h:l[i]? = some x):(l.take (i+1)).filter p=(l.take i).filter p++(if p x=true then [x] else []):=by
 rw[zAI,h,zAh]
 show _++List.filter p [x]=_
 rw[zBn]
 rfl
theorem zId {α β:Type}{l:List α}{x:α}(f:α->Option β)(h:l[i]? = some x):(l.take (i+1)).filterMap f=(l.take i).filterMap f++(f x).toList:=by
 rw[zAI,h,List.filterMap_append]
 show _++List.filterMap f [x]=_
 cases e:f x with
 | none=>rw[List.filterMap_cons_none e];rfl
 | some y=>rw[List.filterMap_cons_some e];rfl
theorem Hub.lt (h:Hub es){j:Nat}{a b:En}(hij:i<j)(ha:es[i]? = some a)(hb:es[j]? = some b):a.h<b.h:=by
 obtain⟨h1,e1⟩:=zE.mp ha
 obtain⟨h2,e2⟩:=zE.mp hb
 rw[<-e1,<-e2]
 exact zAC.mp h i j h1 h2 hij
end WM
namespace L2
open PySem PyProof.Rows
theorem zDg {ps:List (Key×V)}(h:(ps.map (·.1)).Nodup):zDI ps=ps:=by
 have:∀(ps a:List (Key×V)),((a++ps).map (·.1)).Nodup->ps.foldl (fun a p=>zCP a p.1 p.2) a=a++ps:=by
  intro ps
  induction ps with
  | nil=>intro a _;rw[zAB];rfl
  | cons p ps ih=>
   intro a hn
   have e:zCP a p.1 p.2=a++[p]:=by
    unfold zCP
    rw[if_neg]
    intro z
    obtain⟨q,hq,e⟩:=List.any_eq_true.mp z
    have e':=of_decide_eq_true e
    rw[zQ,zAS] at hn
    have:=(List.nodup_append.mp hn).2.2 q.1 (List.mem_map_of_mem hq) p.1 zl
    exact this e'
   rw[List.foldl_cons,e,ih (a++[p]) (by rw[List.append_assoc];exact hn),List.append_assoc]
   rfl
 exact this ps [] h
end L2
namespace WM
end WM
namespace L2
open PySem PySem.Spec PyProof.Rows
section
variable {X:Cx}
end
end L2
namespace SortT
open PySem PySem.W PySem.Calls PyProof.Rows
section
variable {prog:Program}{w:World}{A:Around}{E:Value->Shared->Prop}{s:Shared}
end
end SortT
namespace L2
open PySem PySem.Spec PyProof.Rows
section
variable {X:Cx}
end
section
variable {X:Cx}{pl:List (Addr×Obj)}{N':List Str}{sc:Scope}{fp:List Addr}{s3:Shared}{H3:Hp}
end
end L2
namespace L2
open PySem PySem.Spec PyProof.Rows
section
variable {X:Cx}
noncomputable def rCatA (K:PySem.W.Frag):R2:=fun x y H Q=>∃a b xs ys,x = .ref a/\y = .ref b/\SqT K H a xs/\SqT K H b ys/\xs.length+ys.length<=sizeLine /\
 (xs=[]->Q (.ref b) H)/\(xs≠[]->ys=[]->Q (.ref a) H)/\(xs≠[]->ys≠[]->∀p,H p=none->Q (.ref p) (upd H p (.tup (xs++ys))))
theorem zLg {prog:Program}{w:World}{A:Around}{E:Value->Shared->Prop}{s:Shared}{t b:Addr}{ws:List Value}{Q:Value->Shared->Prop}(ht:IsTup s.heap t #[])(hb:IsTup s.heap b ws.toArray)
 (h:Q (.ref b) s):wpAny (model prog w) A (binaryOp .Add (.ref t) (.ref b)) Q E s:=by
 obtain⟨⟨cls,dd,data,sl⟩,ho,hc,n,hd⟩:=id ht
 obtain⟨⟨cls2,dd2,data2,sl2⟩,ho2,hc2,n2,hd2⟩:=id hb
 simp only at hc hd hc2 hd2
 subst hc hd hc2 hd2
 exact concat_meets ⟨_,ho,rfl⟩ ⟨_,ho2,rfl⟩ noFill_tuple_add seq_tuple_add PySem.F.slot_tuple_add PySem.F.entry_tuple_add (PySem.F.args_tuple_add_2 _ _)
  (tuple_addW0 t b #[] ws.toArray n n2 dd dd2 sl sl2 rfl) ⟨ho,ho2,h⟩
theorem zK7:OpR X (binaryOp .Add) (rCatA X.K):=by
 intro pins s σ H x y v u Q I rx ry h
 obtain⟨a,b,xs,ys,rfl,rfl,ha,hb,hz,q0,q1,q2⟩:=h
 by_cases hx:xs=[]
 . subst hx
   cases rx
   cases ry
   obtain⟨its,r1,p1,_⟩:=I.tuple ha
   obtain⟨its2,r2,p2,_⟩:=I.tuple hb
   cases r1
   exact zLg p1 p2 ⟨.ref b,H,I,rfl,q0 rfl⟩
 . exact zK6 pins s σ H _ _ v u Q I rx ry ⟨a,b,xs,ys,rfl,rfl,ha,hb,hx,hz,q1 hx,q2 hx⟩
end
end L2
namespace L2
open PySem PySem.Spec PyProof.Rows
section
variable {X:Cx}
end
end L2
namespace HT
open PySem PySem.Spec PyProof.Rows
section
open PySem.SeqAt
open PySem.AutoSeq1 (wpAny_loadPart')
open PySem.MeetsSeq PySem.MeetsSeq2 PySem.MeetsSeq3
end
end HT
namespace L2
open PySem PySem.Spec PyProof.Rows
section
variable {X:Cx}
end
end L2
namespace HT
open PySem PySem.Spec PyProof.Rows
section
variable {prog:Program}{w:World}{A:Around}{E:Value->Shared->Prop}{s:Shared}
theorem getItem_tuple_all {t sl:Addr}{items:Array Value}{vl vu:Value}{lo hi:Option Int}{Q:Value->Shared->Prop}(ht:IsTup s.heap t items)(hs:s.heap.IsSliceOf sl vl vu .none)(pl:IsPart vl lo)(pu:IsPart vu hi)
 (hw:sIx items.size 0 lo=0/\sIx items.size items.size hi=items.size)(h:Q (.ref t) s):wpAny (model prog w) A (getItem (.ref t) (.ref sl)) Q E s:=by
 obtain⟨os,hos,hcs,hds⟩:=id hs
 have hTs:s.TypeIs (.ref sl) "slice" := ⟨os,hos,hcs⟩
 unfold getItem
 try with_reducible refine zAY ?_
 first | refine zC (zH ?_) | skip
 refine zC (wpAny_sequenceKey ht.typeIs (by decide) ?_)
 refine zC (zAk (name:=Str.ofString "__getitem__") ht.typeIs PyProof.Rows.slot_tuple_getitem
  (zAx PyProof.Rows.slot_tuple_getitem ht.typeIs entry_tuple_getitem ?_ (args_tuple_getitem _ _)))
 show wpAny _ _ (Builtin.Tuple.tupleItemsOf (.ref t) >>= _) _ _ s
 refine zC (tupleItemsOf_ ht ?_)
 refine zC (zBo hTs ?_)
 rw[if_pos (by decide)]
 refine zC (zCd hs pl pu ?_)
 have hyes:(((sIx items.size 0 lo:Nat):Int)==0 && (1:Int)==1 && (sIx items.size items.size hi-sIx items.size 0 lo)==items.size)=true:=by
  rw[hw.1,hw.2];simp
 show wpAny _ _ (if (((sIx items.size 0 lo:Nat):Int)==0 && (1:Int)==1 && (sIx items.size items.size hi-sIx items.size 0 lo)==items.size)=true then _ else _) _ _ s
 rw[if_pos hyes]
 unfold Builtin.Tuple.tupleIsExact
 refine zC (zC (zBo ht.typeIs (zH ?_)))
 rw[if_pos (by decide)]
 first
  | exact zC (zB9 (zH ⟨_,rfl,zH h⟩))
  | exact zC (zB9 (zH (zH ⟨_,rfl,zH h⟩)))
  | exact zC (zB9 (zC (zH (zH ⟨_,rfl,zH h⟩))))
  | exact zB9 (zH ⟨_,rfl,zH h⟩)
end
end HT
namespace L2
open PySem PySem.Spec PyProof.Rows
section
variable {X:Cx}{e:Expr}{te:TE}{pos p2 p3 p4:Pos}
noncomputable def rSlA (K:PySem.W.Frag):V->Option Int->Option Int->Hp->VK->Prop:=fun x lo hi H Q=>∃a xs,x = .ref a/\SqT K H a xs /\
 ((HT.sIx xs.length 0 lo=0/\HT.sIx xs.length xs.length hi=xs.length)->Q (.ref a) H)/\(¬ (HT.sIx xs.length 0 lo=0/\HT.sIx xs.length xs.length hi=xs.length)->∀p,H p=none->Q (.ref p) (upd H p (.tup (zE5 xs lo hi))))
theorem zHi:SlR X (rSlA X.K):=by
 intro pins s σ H x v vl vu lo hi sl Q I rx hs pl pu h
 obtain⟨a,xs,rfl,hx,q1,q2⟩:=h
 by_cases c:HT.sIx xs.length 0 lo=0/\HT.sIx xs.length xs.length hi=xs.length
 . cases rx
   obtain⟨its,r,ht,hz⟩:=I.tuple hx
   have hlen:its.toArray.size=xs.length:=by rw[zP];exact r.length.symm
   refine⟨"tuple",_,PyProof.Rows.slot_tuple_getitem.lookup,ht.typeIs,?_⟩
   exact HT.getItem_tuple_all ht hs pl pu (by rw[hlen];exact c) ⟨.ref a,H,I,rfl,q1 c⟩
 . exact sl_tup pins s σ H _ v vl vu lo hi sl Q I rx hs pl pu ⟨a,xs,rfl,hx,c,q2 c⟩
end
end L2
namespace L2
open PySem PySem.Spec PyProof.Rows
section
variable {X:Cx}{pins:List (Addr×Obj)}{σ:St}{H:Hp}{s:Shared}{h':Heap}
theorem Inv.turnedLaid {t':Nat}{fp:List Addr}{a:Addr}{o:HO}(I:Inv X pins σ H s)(hf:∀b∈fp,zFv X pins H b)(k:∀b u,b∉fp->s.heap.get? b=some u->h'.get? b=some u)(hp:s.heap.objs.size<=a)
 (new:zBs X.prog X.w (upd H a o) h' a o):Inv X pins σ (upd H a o) { s with heap:=h',toks:=t' }:=by
 have fr:H a=none:=I.hok.fresh hp
 have nfp:∀b u,H b=some u->b∉fp:=fun b u e z=>by rw[(hf b z).1] at e;cases e
 have na:∀b u,H b=some u->b≠a:=fun b u e z=>by rw[z,fr] at e;cases e
 refine I.step (g':=s.gens) (d':=s.drawn) (ch:=fp) (fun b hb=>?_) (fun b u _ _ hc e _=>k b u hc e) (fun b u _ _ hc e _=>⟨u.slots,k b u hc e⟩) (fun b u hc e n=>?_) (fun b u hc e=>⟨u,k b u hc e⟩)
  (fun b xs e=>by rw[zZ (na b _ e)];exact e) (fun b u w e=>by rw[zZ (na b _ e)];exact e) (fun b ps e=>⟨#[],by rw[zZ (na b _ e),e];simp⟩) (fun m hm=>?_) (fun b u e=>?_) I.bare
 . obtain⟨f0,f1,f2,f3,f4,f5⟩:=hf b hb
   exact⟨f3,f1,f4,f5⟩
 . rw[zZ (zY (zt (zX e) hp))]
   exact n
 . obtain⟨u,es,ep,ho,r⟩:=hm
   exact⟨u,es,ep,k _ u (fun z=>(hf _ z).2.1 rfl) ho,r⟩
 . by_cases z:b=a
   . subst z
     rw[zJ] at e
     cases e
     exact new
   . rw[zZ z] at e
     refine (I.hok b u e).stay (fun c v hc q=>k c v ?_ q) (fun c q=>by rw[zZ (na c _ q)];exact q) fun c xs q=>by rw[zZ (na c _ q)];exact q
     rcases hc with z | z
     . rw[z];exact nfp b u e
     . exact nfp c _ z
end
section
variable {X:Cx}
end
end L2
namespace L2
open PySem PySem.Spec PyProof.Rows
section
variable {X:Cx}
end
end L2
namespace L2
open PySem PySem.Spec PyProof.Rows
open PySem.AutoSeq1 (wpAny_loadPart')
variable {items:Array Value}{Q:Value->Shared->Prop}
section
variable {prog:Program}{w:World}{A:Around}{E:Value->Shared->Prop}{s:Shared}
theorem zG4 {it t:Addr}{i:Nat}{x:Value}(hi:s.heap.IsTupleIter it t i)(ht:s.heap.IsTuple t items)(hx:items[i]? = some x)
 (hQ:∀h',h'.IsTupleIter it t (i+1)->Heap.SameBut it s.heap h'->Q x { s with heap:=h' }):wpAny (model prog w) A (Builtin.SmallTypes.nextOf (.ref it)) Q E s:=by
 obtain⟨oi,hoi,ci,di⟩:=id hi
 obtain⟨ot,hot,_,nt,dt⟩:=ht
 unfold Builtin.SmallTypes.nextOf
 refine zC (zAk (name:=Str.ofString "__next__") hi.typeIs PySem.F.slot_tuple_iterator_next (zAx PySem.F.slot_tuple_iterator_next hi.typeIs PySem.F.entry_tuple_iterator_next ?_ (PySem.F.args_tuple_iterator_next_1 _)))
 show wpAny (model prog w) _ (field (.ref it) 0 >>= _) _ _ s;refine zC (zA8 hoi di (x:=.ref t) rfl ?_)
 show wpAny (model prog w) _ (if (Value.ref t==Value.none)=true then _ else _) _ _ s;rw[if_neg (show ¬ ((Value.ref t==Value.none)=true) from zg)]
 show wpAny (model prog w) _ (field (.ref it) 1 >>= _) _ _ s;refine zC (zA8 hoi di (x:=.int i 0) rfl ?_)
 show wpAny (model prog w) _ (seqItems? (.ref t) >>= _) _ _ s;refine zC (zA6 hot dt ?_)
 simp only[hx,zBH]
 refine zC (wpAny_setField hoi di (by simp) (zH ⟨x,rfl,zH (hQ _ ?_ (Heap.SameBut.update ..))⟩))
 refine⟨_,Heap.get?_update_self _ hoi (Obj.isFreed_of_fields (Obj.data_mapFields di _)),(Obj.cls_mapFields ..).trans ci,?_⟩
 rw[Obj.data_mapFields di];simp[rawInt]
theorem zDy {it t:Addr}{i:Nat}(hA:A.handled=none)(hi:s.heap.IsTupleIter it t i)(ht:s.heap.IsTuple t items)(hx:items[i]? = none)
 (hE:∀h' e,Heap.ExtBut it s.heap h'->(∃o,h'.get? e=some o/\o.cls = .type "StopIteration")->E (.ref e) { s with heap:=h' }):wpAny (model prog w) A (Builtin.SmallTypes.nextOf (.ref it)) Q E s:=by
 obtain⟨oi,hoi,ci,di⟩:=id hi
 obtain⟨ot,hot,_,nt,dt⟩:=ht
 unfold Builtin.SmallTypes.nextOf
 refine zC (zAk (name:=Str.ofString "__next__") hi.typeIs PySem.F.slot_tuple_iterator_next (zAx PySem.F.slot_tuple_iterator_next hi.typeIs PySem.F.entry_tuple_iterator_next ?_ (PySem.F.args_tuple_iterator_next_1 _)))
 show wpAny (model prog w) _ (field (.ref it) 0 >>= _) _ _ s;refine zC (zA8 hoi di (x:=.ref t) rfl ?_)
 show wpAny (model prog w) _ (if (Value.ref t==Value.none)=true then _ else _) _ _ s;rw[if_neg (show ¬ ((Value.ref t==Value.none)=true) from zg)]
 show wpAny (model prog w) _ (field (.ref it) 1 >>= _) _ _ s;refine zC (zA8 hoi di (x:=.int i 0) rfl ?_)
 show wpAny (model prog w) _ (seqItems? (.ref t) >>= _) _ _ s;refine zC (zA6 hot dt ?_)
 simp only[hx,zBH]
 refine zC (zB9 (zC (wpAny_setField hoi di (by simp) ?_)))
 show wpAny (model prog w) _ (newExc (.type "StopIteration") [] >>= _) _ _ _;refine zC ?_
 simp only[newTuple,newExc]
 refine zC (zAz ?_ (by size_fits));refine zC (m:=firstArgMember _ _) (PySem.wpAny_of_eq (a:=Value.none) (by first | rfl | (simp only[firstArgMember];rfl)) ?_)
 refine zAz ?_ (by size_fits);simp only[raiseNew];refine zC (wpAny_handled ?_)
 first
  | rw[show A.in1.handled=none from hA]
  | rw[hA]
 exact zC (zH (wpAny_throw (hE _ _ (((Heap.SameBut.update ..).extBut.push _).push _) ⟨_,zU _ rfl,rfl⟩)))
end
theorem zDz {prog:Program}{w:World}{A:Around}(hA:A.handled=none)(it t:Addr)(hne:t≠it)(items:Array Value) :
 Draws prog w A it [it,t] items.size (fun i v=>items[i]? = some v) (fun i h=>h.IsTupleIter it t i/\h.IsTuple t items) where
 live:=fun _ _ st=>by
  obtain⟨⟨o,ho,_⟩,_⟩:=st
  exact⟨o,ho⟩
 frame:=fun _ h h' st hk=>by
  obtain⟨⟨o,ho,r⟩,o2,ho2,r2⟩:=st
  exact⟨⟨o,hk it (by simp) o ho,r⟩,o2,hk t (by simp) o2 ho2,r2⟩
 item:=fun i s Q E hi st hQ=>zG4 st.1 st.2 (x:=items[i]) (by simp[hi]) fun h' a b=>hQ _ h' s.toks (by simp[hi]) ⟨a,st.2.extBut b.extBut hne⟩ b
 done:=fun s Q E st hE=>zDy hA st.1 st.2 (by simp) hE
theorem zF6 (t:Addr)(items:Array Value)(n:Nat)(dct:Option Addr)(sl:Array (Option Value)) :
 Meets (Builtin.«enumerate.__new__» ⟨[.type "enumerate",.ref t],[]⟩) (fun _ R s=>s.heap.get? t=some { cls:=.type "tuple",dict:=dct,data:=.seq items n,slots:=sl } /\
  R (.ok (.ret (.ref (s.heap.push { cls:=.type "tuple_iterator",data:=.fields #[.ref t,.int 0 0] }).objs.size))) { s with heap:=(s.heap.push { cls:=.type "tuple_iterator",data:=.fields #[.ref t,.int 0 0] }).push { cls:=.type "enumerate",data:=.fields #[.none,.bool false,.ref s.heap.objs.size,rawInt 0,.none,.none] } }):=by
 refine .of_wp fun prog w A R s hs=>?_
 obtain⟨hp,g,d,tk,os⟩:=s
 obtain⟨ho,hR⟩:=hs
 have su:=sub_enumerate
 have tT:Heap.IsTuple (Shared.heap ⟨hp,g,d,tk,os⟩) t items:=⟨_,ho,rfl,n,rfl⟩
 wp_walk using wpAny_loadPart' ho
 refine wpAny_stack_any fun stk=>zH ?_
 split
 . rename_i c _ _ _ _ _
   cases (c==Value.type "enumerate") <;> (wp_walk using wpAny_loadPart' ho,zBp tT;exact⟨_,rfl,hR⟩)
 . wp_walk using wpAny_loadPart' ho,zBp tT
   exact⟨_,rfl,hR⟩
theorem zHG {prog:Program}{w:World}{A:Around}{E:Value->Shared->Prop}{s:Shared}{t:Addr}(hT:s.heap.IsTuple t items)
 (h:∀h',IsEnum h' (s.heap.objs.size+1) s.heap.objs.size 0 .none->h'.IsTupleIter s.heap.objs.size t 0->(∀b o,s.heap.get? b=some o->h'.get? b=some o)->Q (.ref (s.heap.objs.size+1)) { s with heap:=h' }) :
 wpAny (model prog w) A (call (.type "enumerate") [.ref t]) Q E s:=by
 obtain⟨⟨c,dct,dt,sl⟩,ho,hc,n,hd⟩:=hT
 obtain rfl:c = .type "tuple" := hc
 obtain rfl:dt = .seq items n:=hd
 refine callType_new PySem.F.called_enumerate (by decide) (PySem.F.typeCall_enumerate_1 _) (PySem.F.newCall_enumerate_1 _) (fun obj=>PySem.F.args_object_init_2 obj _) PySem.F.entry_enumerate_new (zF6 t items n dct sl) ⟨ho,?_⟩
 have hz:(s.heap.push { cls:=.type "tuple_iterator",data:=.fields #[.ref t,.int 0 0] }).objs.size=s.heap.objs.size+1:=zAe ..
 show _/\_
 rw[hz]
 have he:IsEnum ((s.heap.push { cls:=.type "tuple_iterator",data:=.fields #[.ref t,.int 0 0] }).push { cls:=.type "enumerate",data:=.fields #[.none,.bool false,.ref s.heap.objs.size,rawInt 0,.none,.none] }) (s.heap.objs.size+1) s.heap.objs.size 0 .none:=by
  have g:=zU (s.heap.push { cls:=.type "tuple_iterator",data:=.fields #[.ref t,.int 0 0] }) (o:={ cls:=.type "enumerate",data:=.fields #[.none,.bool false,.ref s.heap.objs.size,rawInt 0,.none,.none] }) rfl
  rwa [hz] at g
 exact⟨⟨_,he,rfl⟩,h _ he ⟨_,zK _ (zU _ rfl),rfl,rfl⟩ fun b o x=>zK _ (zK _ x)⟩
noncomputable def ItnT (K:PySem.W.Frag)(a:Addr):It:=
 ⟨fun i H=>∃xs x,SqT K H a xs/\xs[i]? = some x,fun i H x H'=>∃T v,x = .ref T/\H T=none/\H'=upd H T (.tup [.int i,v])/\∀xs,SqT K H a xs->xs[i]? = some v,fun i H=>∃xs,SqT K H a xs/\xs.length<=i⟩
theorem zGv {P:Program}{w:World}{K:PySem.W.Frag}{elts:List Expr} {x1} {tp:Pos}(a e it:Addr):Turn P w K (.Tuple elts x1 tp) (ItnT K a) [e,it] e (fun i h=>(∃old,IsEnum h e it (i:Nat) old)/\h.IsTupleIter it a i/\e≠it/\a≠it/\a≠e) where
 mem:=by simp
 obj:=fun i h st b hb=>by
  obtain⟨⟨old,he⟩,⟨o,e1,c,d⟩,_⟩:=st
  rcases zm.mp hb with rfl | hb
  . exact⟨_,he,fun v z=>by cases z⟩
  . have e2:b=it:=by simpa using hb
    subst e2
    exact⟨o,e1,fun v z=>by rw[d] at z;cases z⟩
 keep:=fun i h h' st k=>by
  obtain⟨⟨old,he⟩,⟨o,e1,r⟩,ne⟩:=st
  exact⟨⟨old,k e (by simp) _ he⟩,⟨o,k it (by simp) o e1,r⟩,ne⟩
 item:=by
  intro X hP hw hK hc i pins s σ H E I hf st hg
  subst hP hw hK
  obtain⟨⟨old,he⟩,hit,ne,nai,nae⟩:=st
  obtain⟨xs,x,hq,hx⟩:=hg
  obtain⟨its,rv,p,hz⟩:=I.tuple hq
  obtain⟨u,hu,ru⟩:=rv.get hx
  have elt:e<s.heap.objs.size:=zX he
  have ilt:it<s.heap.objs.size:=by obtain⟨_,q,_⟩:=id hit;exact zX q
  have hlt:i<its.toArray.size:=by
   have:=(zE.mp hu).1
   simpa using this
  refine wpAny_pyNext_enum_itemD (zDz (A:=X.A.in1) (I.ok.hd hc) it a nai its.toArray) he ⟨hit,p⟩ hlt ne (by simp;exact⟨ne,fun z=>nae z.symm⟩) fun y h' tk hy heo hst' hT hsz hk=>?_
  have hyu:y=u:=by
   have h1:its[i]? = some y:=by simpa using hy
   rw[hu] at h1
   exact (zR h1).symm
  subst hyu
  refine⟨_,rfl,wpAny_letOwnedTupleGo_enum heo fun h2 he2 hs2=>?_⟩
  have hT2:h2.get? s.heap.objs.size=some { cls:=.type "tuple",data:=.seq #[.int i tk,y] }:=(hs2.2 _ (zAM elt)).trans hT
  refine⟨.ref s.heap.objs.size,upd H s.heap.objs.size (.tup [.int i,x]),I.turnedLaid (t':=tk+1) (fp:=[e,it]) hf (fun b o hb q=>?_) (zL _) ?_,rfl,⟨_,x,rfl,I.hok.fresh (zL _),rfl,fun zs hzs=>by rw[I.tuple_inj hzs hq];exact hx⟩,⟨⟨y,?_⟩,?_,ne,nai,nae⟩,fun b hb=>?_⟩
  . exact (hs2.2 b fun z=>hb (by simp[z])).trans (hk b o (fun z=>hb (by simp[z])) (fun z=>hb (by simp[z])) q)
  . exact⟨⟨by show 2<=sizeLine;decide,_,hT2,rfl⟩,[.int i tk,y],.cons ⟨_,rfl⟩ (.cons ru .nil),⟨_,hT2,rfl,_,rfl⟩⟩
  . have:=he2
    rwa [show ((i:Nat):Int)+1=((i+1:Nat):Int) by omega] at this
  . obtain⟨⟨o,ho,r⟩,_⟩:=hst'
    exact⟨o,(hs2.2 it (Ne.symm ne)).trans ho,r⟩
  . rcases zm.mp hb with rfl | hb
    . rw[zZ (zY elt)];exact (hf _ (by simp)).1
    . have e2:b=it:=by simpa using hb
      subst e2
      rw[zZ (zY ilt)];exact (hf _ (by simp)).1
 done:=by
  intro X hP hw hK hc i pins s σ H E I hf st hg
  subst hP hw hK
  obtain⟨⟨old,he⟩,hit,ne,nai,nae⟩:=st
  obtain⟨xs,hq,hx⟩:=hg
  obtain⟨its,rv,p,hz⟩:=I.tuple hq
  obtain⟨f0,f1,f2,f3,f4,f5⟩:=hf it (by simp)
  have hl:=rv.length
  unfold pyNext
  have hT:s.TypeIs (.ref e) "enumerate" := ⟨_,he,rfl⟩
  refine zC (wpAny_attempt (zAk (name:=Str.ofString "__next__") hT PySem.F.slot_enumerate_next (zAx PySem.F.slot_enumerate_next hT PySem.F.entry_enumerate_next ?_ (PySem.F.args_enumerate_next_1 _))))
  show wpAny (model X.prog X.w) _ (field (.ref e) 2 >>= _) _ _ s;refine zC (zA8 he rfl (x:=.ref it) rfl ?_)
  refine zC (zDy (A:=X.A.in1) (I.ok.hd hc) hit p (by simp;omega) fun h' z eb hz'=>?_)
  obtain⟨o,ho,hcl⟩:=hz'
  refine zC (zBL (T := "StopIteration") (b:=true) ⟨o,ho,hcl⟩ isSubtype_stop (zH ?_))
  exact⟨rfl,I.turned (t':=s.toks) (fun b o hb e=>eb b o hb e) f0 f1 f3 f4 f5⟩
 self:=fun _ _ _ _ _ st h=>by
  obtain⟨⟨old,he⟩,_⟩:=st
  exact wpAny_pyIter_enum he h
section
variable {X:Cx}
noncomputable def iEnumT (K:PySem.W.Frag)(ta:TA):TI:=fun σ H R=>ta σ H fun vs H1=>∃a,vs=[.ref a]/\(∃xs,SqT K H1 a xs)/\R (ItnT K a) H1
theorem zJX {elts:List Expr} {x1} {tp:Pos}{a:Expr}{ta:TA}{p pos:Pos}(hg:Gl X "enumerate") (hm:X.mg "enumerate" = none) (ha:PA X [a] ta)(hs:starEach [a] X.env=[(false,eval a X.env)]:=by rfl):PI X (.Tuple elts x1 tp) (.Call (.Name "enumerate" p) [a] [] pos) (iEnumT X.K ta):=by
 intro pins s σ H R I h
 refine Call_ (zCh I hg hm boot_enumerate (PyProof.Rows.callWith_type1 (thn (ha pos pins s σ H _ I h) fun us s1 ⟨vs,H1,I1,r1,q1⟩=>?_) hs rfl))
 obtain⟨l,e,⟨xs,hq⟩,q⟩:=q1
 subst e
 obtain⟨u,rfl,rx⟩:=zCt r1
 cases rx
 obtain⟨its,rv,pl,hz⟩:=I1.tuple hq
 have hll:l<s1.heap.objs.size:=by obtain⟨o,ho,_⟩:=id pl;exact zX ho
 refine zHG pl fun h' he hit hk=>?_
 refine wpAny_pyIter_enum he ?_
 refine⟨s1.heap.objs.size+1,[s1.heap.objs.size+1,s1.heap.objs.size],_,_,H1,rfl,I1.kept (t':=s1.toks) hk,zGv l _ _,⟨⟨_,he⟩,hit,Nat.succ_ne_self _,zY hll,zY (zA0 hll)⟩,fun b hb=>?_,q⟩
 rcases zm.mp hb with rfl | hb
 . exact I1.fpOk (zBt _) (I1.hok.fresh (zBt _))
 . have e2:b=s1.heap.objs.size:=by simpa using hb
   subst e2
   exact I1.fpOk (zL _) (I1.hok.fresh (zL _))
end
end L2
namespace L2
open PySem PySem.Spec PyProof.Rows
theorem zIa {K:PySem.W.Frag}{a:Addr}{xs:List V}{g:TG}{tb:TS}{D:zJ2}{σ:St}{H:Hp}(Pv:Nat->St->Hp->Prop)(h0:Pv 0 σ H)(hl:∀i σ H,i<=xs.length->Pv i σ H->SqT K H a xs)
 (hs:∀i x σ H T,xs[i]? = some x->Pv i σ H->H T=none->g (.ref T) σ (upd H T (.tup [.int i,x])) fun σ2 H2=>tb { D with nx:=Pv (i+1),ct:=Pv (i+1),bk:=D.nx } σ2 H2)(hd:∀ σ H,Pv xs.length σ H->D.nx σ H) :
 ∃W:Nat->Nat->St->Hp->Prop,(∃m,W 0 m σ H)/\∀i m σ H,W i m σ H ->
  ((ItnT K a).stop i H/\D.nx σ H)\/((ItnT K a).go i H/\∃N:St->Hp->Prop,(∀ σ' H',N σ' H'->∃m',m'<m/\W (i+1) m' σ' H')/\∀x H',(ItnT K a).yld i H x H'->g x σ H' fun σ2 H2=>tb { D with nx:=N,ct:=N,bk:=D.nx } σ2 H2):=by
 refine⟨fun i m σ H=>i<=xs.length/\m=xs.length-i/\Pv i σ H,⟨_,zc _,rfl,h0⟩,fun i m σ H h=>?_⟩
 obtain⟨hi,rfl,hp⟩:=h
 by_cases c:i<xs.length
 . refine .inr ⟨⟨xs,xs[i],hl i σ H hi hp,zA c⟩,Pv (i+1),fun σ' H' hp'=>⟨xs.length-(i+1),by omega,c,rfl,hp'⟩,fun x H' y=>?_⟩
   obtain⟨T,v,rfl,hT,rfl,hv⟩:=y
   exact hs i v σ H T (hv xs (hl i σ H hi hp)) hp hT
 . have e:i=xs.length:=by omega
   subst e
   exact .inl ⟨⟨xs,hl _ σ H hi hp,zL _⟩,hd σ H hp⟩
end L2
namespace L2
open PySem PySem.Spec PyProof.Rows
open PySem.AutoSeq1 (wpAny_loadPart')
theorem Inv.turnedFp {X:Cx}{pins:List (Addr×Obj)}{σ:L2.St}{H:Hp}{s:Shared}{h':Heap}{t':Nat}{fp:List Addr}(I:Inv X pins σ H s)(hf:∀b∈fp,zFv X pins H b)(k:∀b u,b∉fp->s.heap.get? b=some u->h'.get? b=some u):Inv X pins σ H { s with heap:=h',toks:=t' }:=by
 have nfp:∀b u,H b=some u->b∉fp:=fun b u e z=>by rw[(hf b z).1] at e;cases e
 refine I.step (g':=s.gens) (d':=s.drawn) (ch:=fp) (fun b hb=>?_) (fun b u _ _ hc e _=>k b u hc e) (fun b u _ _ hc e _=>⟨u.slots,k b u hc e⟩) (fun _ _ _ _ n=>n) (fun b u hc e=>⟨u,k b u hc e⟩)
  (fun _ _ e=>e) (fun _ _ _ e=>e) (fun b ps e=>⟨#[],by rw[e];simp⟩) (fun m hm=>?_) (fun b u e=>?_) I.bare
 . obtain⟨f0,f1,f2,f3,f4,f5⟩:=hf b hb
   exact⟨f3,f1,f4,f5⟩
 . obtain⟨u,es,ep,ho,r⟩:=hm
   exact⟨u,es,ep,k _ u (fun z=>(hf _ z).2.1 rfl) ho,r⟩
 . refine (I.hok b u e).stay (fun c v hc q=>k c v ?_ q) (fun _ q=>q) fun _ _ q=>q
   rcases hc with z | z
   . rw[z];exact nfp b u e
   . exact nfp c _ z
structure ZAp (zp tI tO i1 i2:Addr)(fp1 fp2:List Addr):Prop where
 zTI:tI≠zp
 zTO:tO≠zp
 z1:i1≠zp
 z2:i2≠zp
 IO:tI≠tO
 I1:tI≠i1
 I2:tI≠i2
 O1:tO≠i1
 O2:tO≠i2
 i12:i1≠i2
 a1:zp∉fp1/\tO∉fp1/\i2∉fp1
 a2:zp∉fp2/\tO∉fp2/\i1∉fp2
section
variable {prog:Program}{w:World}{A:Around}{E:Value->Shared->Prop}{s:Shared}
theorem zHO {zp tI tO i1 i2:Addr}{fp1 fp2:List Addr}{n1 n2 k:Nat}{P1 P2:Nat->Value->Prop}{St1 St2:Nat->Heap->Prop}{a b:Value}{Q:Value->Shared->Prop}(D1:Draws prog w A i1 fp1 n1 P1 St1)(D2:Draws prog w A i2 fp2 n2 P2 St2)(Z:ZAp zp tI tO i1 i2 fp1 fp2)
 (gz:IsZip s.heap zp tI tO .none)(gI:IsPair s.heap tI (.ref i1) (.ref i2))(gO:IsPair s.heap tO a b)(s1:St1 k s.heap)(s2:St2 k s.heap)(l1:k<n1)(l2:k<n2)
 (qd:∀x y h' tk,P1 k x->P2 k y->IsZip h' zp tI tO (rawInt s.heap.objs.size)->IsPair h' tO x y->St1 (k+1) h'->St2 (k+1) h'->IsPair h' s.heap.objs.size x y->h'.objs.size=s.heap.objs.size+1 ->
  (∀c o,c≠zp->c≠tO->c≠i1->c≠i2->s.heap.get? c=some o->h'.get? c=some o)->Q (.ref s.heap.objs.size) { s with heap:=h',toks:=tk }) :
 wpAny (model prog w) A (Builtin.«zip.__next__» ⟨[.ref zp],[]⟩) (fun fin s'=>∃v,fin = .done (.ret v)/\Q v s') E s:=by
 obtain⟨hp,g,d,tk₀,os⟩:=s
 show wpAny _ _ (field (.ref zp) 2 >>= _) _ _ _
 refine zC (zA8 gz rfl (x:=.bool false) rfl ?_)
 show wpAny _ _ (field (.ref zp) 3 >>= _) _ _ _
 refine zC (zA8 gz rfl (x:=.ref tI) rfl (zC (zA6 gI rfl ?_)))
 show wpAny _ _ (Builtin.SmallTypes.ownedTupleIsFree (.ref zp) >>= _) _ _ _
 unfold Builtin.SmallTypes.ownedTupleIsFree
 refine zC (zC (zA8 gz rfl (x:=.none) rfl (zH ?_)))
 simp only[if_true]
 refine zC (zB9 (zC (zA8 gz rfl (x:=.ref tO) rfl (zC (wpAny_setField_rec gz (by simp) fun h₁ z₁ e₁=>?_)))))
 replace z₁:IsZip h₁ zp tI tO .ellipsis:=z₁
 replace e₁:Heap.SameBut zp hp h₁:=e₁
 refine zC ?_
 simp only[List.zipIdx_cons,List.zipIdx_nil,List.forIn_cons,List.forIn_nil]
 have t1:St1 k h₁:=D1.frame k hp h₁ s1 fun b hb o e=>e₁.extBut _ _ (fun x=>Z.a1.1 (x ▸ hb)) e
 have t2:St2 k h₁:=D2.frame k hp h₁ s2 fun b hb o e=>e₁.extBut _ _ (fun x=>Z.a2.1 (x ▸ hb)) e
 refine zC (zC (wpAny_onRaise ?_))
 show wpAny _ _ (Builtin.SmallTypes.nextOf (.ref i1) >>= _) _ _ _
 refine zC (D1.item k _ _ _ l1 t1 fun x h₂ tk₂ p1 u1 e₂=>zH ?_)
 replace e₂:Heap.SameBut i1 h₁ h₂:=e₂
 have hO₂:IsPair h₂ tO a b:=e₂.extBut _ _ Z.O1 (e₁.extBut _ _ Z.zTO gO)
 refine zC (zA6 hO₂ rfl (zC (wpAny_updateSeq_pair hO₂ fun h₃ hO₃ e₃=>?_)))
 replace hO₃:IsPair h₃ tO x b:=hO₃
 replace e₃:Heap.SameBut tO h₂ h₃:=e₃
 refine zC (wpAny_letGo (zH ?_))
 have u1₃:St1 (k+1) h₃:=D1.frame _ h₂ h₃ u1 fun b hb o e=>e₃.extBut _ _ (fun x=>Z.a1.2.1 (x ▸ hb)) e
 have t2₃:St2 k h₃:=D2.frame k h₁ h₃ t2 fun b hb o e=>e₃.extBut _ _ (fun x=>Z.a2.2.1 (x ▸ hb)) (e₂.extBut _ _ (fun x=>Z.a2.2.2 (x ▸ hb)) e)
 refine zC (zC (wpAny_onRaise ?_))
 show wpAny _ _ (Builtin.SmallTypes.nextOf (.ref i2) >>= _) _ _ _
 refine zC (D2.item k _ _ _ l2 t2₃ fun y h₄ tk₄ p2 u2 e₄=>zH ?_)
 replace e₄:Heap.SameBut i2 h₃ h₄:=e₄
 have hO₄:IsPair h₄ tO x b:=e₄.extBut _ _ Z.O2 hO₃
 refine zC (zA6 hO₄ rfl (zC (wpAny_updateSeq_pair hO₄ fun h₅ hO₅ e₅=>?_)))
 replace hO₅:IsPair h₅ tO x y:=hO₅
 replace e₅:Heap.SameBut tO h₄ h₅:=e₅
 refine zC (wpAny_letGo (zH (zH (zC (zA6 hO₅ rfl (zC (wpAny_newTuple ?_)))))))
 have u1₅:St1 (k+1) h₅:=D1.frame _ h₃ h₅ u1₃ fun b hb o e=>e₅.extBut _ _ (fun x=>Z.a1.2.1 (x ▸ hb)) (e₄.extBut _ _ (fun x=>Z.a1.2.2 (x ▸ hb)) e)
 have u2₅:St2 (k+1) h₅:=D2.frame _ h₄ h₅ u2 fun b hb o e=>e₅.extBut _ _ (fun x=>Z.a2.2.1 (x ▸ hb)) e
 have sz:h₅.objs.size=hp.objs.size:=by rw[e₅.1,e₄.1,e₃.1,e₂.1,e₁.1]
 have z₅:IsZip h₅ zp tI tO .ellipsis:=e₅.extBut _ _ Z.zTO.symm (e₄.extBut _ _ Z.z2.symm (e₃.extBut _ _ Z.zTO.symm (e₂.extBut _ _ Z.z1.symm z₁)))
 have k₅:∀c o,c≠zp->c≠tO->c≠i1->c≠i2->hp.get? c=some o->h₅.get? c=some o:=fun c o c1 c2 c3 c4 e=>e₅.extBut _ _ c2 (e₄.extBut _ _ c4 (e₃.extBut _ _ c2 (e₂.extBut _ _ c3 (e₁.extBut _ _ c1 e))))
 have zlt:zp<h₅.objs.size:=zX z₅
 show wpAny _ _ (Builtin.SmallTypes.ownedTupleHandOut (.ref zp) (.ref h₅.objs.size) >>= _) _ _ _
 unfold Builtin.SmallTypes.ownedTupleHandOut
 have z₆:IsZip (h₅.push { cls:=.type "tuple",data:=.seq #[x,y] }) zp tI tO .ellipsis:=zK _ z₅
 refine zC (zC (wpAny_setField_rec z₆ (by simp) fun h₇ z₇ e₇=>?_))
 replace z₇:IsZip h₇ zp tI tO (rawInt h₅.objs.size):=z₇
 refine wpAny_setField_rec z₇ (by simp) fun h₈ z₈ e₈=>?_
 replace z₈:IsZip h₈ zp tI tO (rawInt h₅.objs.size):=z₈
 have up:∀c o,c≠zp->h₅.get? c=some o->h₈.get? c=some o:=fun c o c1 e=>e₈.extBut _ _ c1 (e₇.extBut _ _ c1 (zK _ e))
 have hT₈:IsPair h₈ h₅.objs.size x y:=e₈.extBut _ _ (zAM zlt) (e₇.extBut _ _ (zAM zlt) (zU _ rfl))
 have sz8:h₈.objs.size=h₅.objs.size+1:=by rw[e₈.1,e₇.1,zAe]
 rw[sz] at z₈ hT₈ sz8
 refine zH ⟨_,rfl,?_⟩
 show Q (.ref h₅.objs.size) _
 rw[sz]
 exact qd x y h₈ tk₄ p1 p2 z₈ (up _ _ Z.zTO hO₅) (D1.frame _ h₅ h₈ u1₅ fun b hb o e=>up b o (fun x=>Z.a1.1 (x ▸ hb)) e) (D2.frame _ h₅ h₈ u2₅ fun b hb o e=>up b o (fun x=>Z.a2.1 (x ▸ hb)) e) hT₈ sz8 fun c o c1 c2 c3 c4 e=>up c o c1 (k₅ c o c1 c2 c3 c4 e)
theorem zI8 {zp tI tO i1 i2:Addr}{fp1 fp2:List Addr}{St:Heap->Prop}{a b:Value}{Q:Fin->Shared->Prop}(fr:∀h h',St h->(∀b∈fp1,∀o,h.get? b=some o->h'.get? b=some o)->St h')
 (dn:∀(s:Shared)(Q:Value->Shared->Prop)(E:Value->Shared->Prop),St s.heap->(∀h' e,Heap.ExtBut i1 s.heap h'->(∃o,h'.get? e=some o/\o.cls = .type "StopIteration")->E (.ref e) { s with heap:=h' })->wpAny (model prog w) A (Builtin.SmallTypes.nextOf (.ref i1)) Q E s) (Z:ZAp zp tI tO i1 i2 fp1 fp2)
 (gz:IsZip s.heap zp tI tO .none)(gI:IsPair s.heap tI (.ref i1) (.ref i2))(gO:IsPair s.heap tO a b)(s1:St s.heap)
 (qe:∀h' e,(∀c o,c≠zp->c≠i1->s.heap.get? c=some o->h'.get? c=some o)->(∃o,h'.get? e=some o/\o.cls = .type "StopIteration")->E (.ref e) { s with heap:=h' }) :
 wpAny (model prog w) A (Builtin.«zip.__next__» ⟨[.ref zp],[]⟩) Q E s:=by
 obtain⟨hp,g,d,tk₀,os⟩:=s
 show wpAny _ _ (field (.ref zp) 2 >>= _) _ _ _
 refine zC (zA8 gz rfl (x:=.bool false) rfl ?_)
 show wpAny _ _ (field (.ref zp) 3 >>= _) _ _ _
 refine zC (zA8 gz rfl (x:=.ref tI) rfl (zC (zA6 gI rfl ?_)))
 show wpAny _ _ (Builtin.SmallTypes.ownedTupleIsFree (.ref zp) >>= _) _ _ _
 unfold Builtin.SmallTypes.ownedTupleIsFree
 refine zC (zC (zA8 gz rfl (x:=.none) rfl (zH ?_)))
 simp only[if_true]
 refine zC (zB9 (zC (zA8 gz rfl (x:=.ref tO) rfl (zC (wpAny_setField_rec gz (by simp) fun h₁ z₁ e₁=>?_)))))
 replace z₁:IsZip h₁ zp tI tO .ellipsis:=z₁
 replace e₁:Heap.SameBut zp hp h₁:=e₁
 refine zC ?_
 simp only[List.zipIdx_cons,List.zipIdx_nil,List.forIn_cons,List.forIn_nil]
 refine zC (zC (wpAny_onRaise ?_))
 show wpAny _ _ (Builtin.SmallTypes.nextOf (.ref i1) >>= _) _ _ _
 refine zC (dn _ _ _ (fr hp h₁ s1 fun b hb o e=>e₁.extBut _ _ (fun x=>Z.a1.1 (x ▸ hb)) e) fun h₂ e e₂ he=>?_)
 replace e₂:Heap.ExtBut i1 h₁ h₂:=e₂
 obtain⟨oe,hoe,hce⟩:=he
 have z₂:IsZip h₂ zp tI tO .ellipsis:=e₂ _ _ Z.z1.symm z₁
 have ne:e≠zp:=fun x=>by subst x;rw[z₂] at hoe;cases hoe;simp at hce
 exact wpAny_setField_rec z₂ (by simp) fun h₃ _ e₃=>qe h₃ e (fun c o c1 c3 x=>e₃.extBut _ _ c1 (e₂ _ _ c3 (e₁.extBut _ _ c1 x))) ⟨oe,e₃.extBut _ _ ne hoe,hce⟩
end
noncomputable abbrev zt1 (h:Heap)(l1:Addr):Heap:=h.push { cls:=.type "tuple_iterator",data:=.fields #[.ref l1,.int 0 0] }
noncomputable abbrev zt2 (h:Heap)(l1 l2:Addr):Heap:=(zt1 h l1).push { cls:=.type "tuple_iterator",data:=.fields #[.ref l2,.int 0 0] }
noncomputable abbrev zt3 (h:Heap)(l1 l2:Addr):Heap:=(zt2 h l1 l2).push { cls:=.type "tuple",data:=.seq #[.ref h.objs.size,.ref (zt1 h l1).objs.size] }
noncomputable abbrev zt4 (h:Heap)(l1 l2:Addr):Heap:=(zt3 h l1 l2).push { cls:=.type "tuple",data:=.seq #[.none,.none] }
noncomputable abbrev zt5 (h:Heap)(l1 l2:Addr):Heap:=(zt4 h l1 l2).push { cls:=.type "zip",data:=.fields #[.none,.bool false,.bool false,.ref (zt2 h l1 l2).objs.size,.ref (zt3 h l1 l2).objs.size] }
theorem zG5 (l1 l2:Addr)(xs ys:Array Value):Meets (Builtin.«zip.__new__» ⟨[.type "zip",.ref l1,.ref l2],[]⟩) (fun _ R s=>s.heap.IsTuple l1 xs/\s.heap.IsTuple l2 ys/\R (.ok (.ret (.ref (zt4 s.heap l1 l2).objs.size))) { s with heap:=zt5 s.heap l1 l2 }):=by
 refine .of_wp fun prog w A R s hs=>?_
 obtain⟨hp,g,d,tk,os⟩:=s
 obtain⟨h1,h2,hR⟩:=hs
 have su:=sub_zip
 have t1:Heap.IsTuple (Shared.heap ⟨hp,g,d,tk,os⟩) l1 xs:=h1
 have t2:Heap.IsTuple (Shared.heap ⟨hp.push { cls:=.type "tuple_iterator",data:=.fields #[.ref l1,.int 0 0] },g,d,tk,os⟩) l2 ys:=by
  obtain⟨o,ho,r⟩:=h2
  exact⟨o,zK _ ho,r⟩
 wp_walk using zBp t1,zBp t2
 exact⟨_,rfl,hR⟩
section
variable {prog:Program}{w:World}{A:Around}{E:Value->Shared->Prop}{s:Shared}
theorem zIq {l1 l2:Addr}{xs ys:Array Value}{Q:Value->Shared->Prop}(h1:s.heap.IsTuple l1 xs)(h2:s.heap.IsTuple l2 ys)
 (h:∀h',IsZip h' (s.heap.objs.size+4) (s.heap.objs.size+2) (s.heap.objs.size+3) .none->IsPair h' (s.heap.objs.size+2) (.ref s.heap.objs.size) (.ref (s.heap.objs.size+1))->IsPair h' (s.heap.objs.size+3) .none .none ->
  h'.IsTupleIter s.heap.objs.size l1 0->h'.IsTupleIter (s.heap.objs.size+1) l2 0->(∀c o,s.heap.get? c=some o->h'.get? c=some o)->Q (.ref (s.heap.objs.size+4)) { s with heap:=h' }) :
 wpAny (model prog w) A (call (.type "zip") [.ref l1,.ref l2]) Q E s:=by
 refine callType_new PySem.F.called_zip (by decide) (PySem.F.typeCall_zip_2 _ _) (PySem.F.newCall_zip_2 _ _) (fun obj=>PySem.F.args_object_init_3 obj _ _) PySem.F.entry_zip_new (zG5 l1 l2 xs ys) ⟨h1,h2,?_⟩
 have z1:(zt1 s.heap l1).objs.size=s.heap.objs.size+1:=zAe ..
 have z2:(zt2 s.heap l1 l2).objs.size=s.heap.objs.size+2:=by rw[zAe,z1]
 have z3:(zt3 s.heap l1 l2).objs.size=s.heap.objs.size+3:=by rw[zAe,z2]
 have z4:(zt4 s.heap l1 l2).objs.size=s.heap.objs.size+4:=by rw[zAe,z3]
 have up:∀{h:Heap}{c:Addr}{o o':Obj},h.get? c=some o->(h.push o').get? c=some o:=fun e=>zK _ e
 have g5:(zt5 s.heap l1 l2).get? (zt4 s.heap l1 l2).objs.size=some _:=zU _ rfl
 have g4:(zt5 s.heap l1 l2).get? (zt3 s.heap l1 l2).objs.size=some _:=up (zU _ rfl)
 have g3:(zt5 s.heap l1 l2).get? (zt2 s.heap l1 l2).objs.size=some _:=up (up (zU _ rfl))
 have g2:(zt5 s.heap l1 l2).get? (zt1 s.heap l1).objs.size=some _:=up (up (up (zU _ rfl)))
 have g1:(zt5 s.heap l1 l2).get? s.heap.objs.size=some _:=up (up (up (up (zU _ rfl))))
 show _/\_
 rw[z2,z3,z4] at g5
 rw[z1,z2] at g3
 rw[z3] at g4
 rw[z1] at g2
 rw[z4]
 exact⟨⟨_,g5,rfl⟩,h _ g5 g3 g4 ⟨_,g1,rfl,rfl⟩ ⟨_,g2,rfl,rfl⟩ fun c o x=>up (up (up (up (up x))))⟩
end
noncomputable def ItzT (K:PySem.W.Frag)(a b:Addr):It:=
 ⟨fun i H=>∃xs ys x y,SqT K H a xs/\SqT K H b ys/\xs[i]? = some x/\ys[i]? = some y,fun i H x H'=>∃T u v,x = .ref T/\H T=none/\H'=upd H T (.tup [u,v])/\(∀xs,SqT K H a xs->xs[i]? = some u)/\∀ys,SqT K H b ys->ys[i]? = some v,fun i H=>∃xs,SqT K H a xs/\xs.length<=i⟩
theorem zEY {zp tI tO i1 i2 a b:Addr}(h1:i1<i2)(h2:i2<tI)(h3:tI<tO)(h4:tO<zp)(ha:a<i1)(hb:b<i1):ZAp zp tI tO i1 i2 [i1,a] [i2,b]:=by
 have t1:=zAt h1 h2
 have t2:=zAt h2 h3
 have t3:=zAt h3 h4
 have t4:=zAt t1 h3
 have t5:=zAt t2 h4
 have t6:=zAt t4 h4
 have nm:∀{x y zp:Addr},x≠y->x≠zp->x∉[y,zp]:=fun p q h=>by
  rcases zm.mp h with e | e
  . exact p e
  . exact q (zk.mp e)
 exact⟨zY t3,zY h4,zY t6,zY t5,zY h3,zAM t1,zAM h2,zAM t4,zAM t2,zY h1,
  ⟨nm (zAM t6) (zAM (zAt ha t6)),nm (zAM t4) (zAM (zAt ha t4)),nm (zAM h1) (zAM (zAt ha h1))⟩,
  ⟨nm (zAM t5) (zAM (zAt hb t6)),nm (zAM t2) (zAM (zAt hb t4)),nm (zY h1) (zAM hb)⟩⟩
theorem zHR {P:Program}{w:World}{K:PySem.W.Frag}{elts:List Expr} {x1} {tp:Pos}(a b zp tI tO i1 i2:Addr)(o1:i1<i2)(o2:i2<tI)(o3:tI<tO)(o4:tO<zp)(oa:a<i1)(ob:b<i1) :
 Turn P w K (.Tuple elts x1 tp) (ItzT K a b) [zp,tI,tO,i1,i2] zp (fun i h=>IsZip h zp tI tO .none/\IsPair h tI (.ref i1) (.ref i2)/\(∃u v,IsPair h tO u v)/\h.IsTupleIter i1 a i/\h.IsTupleIter i2 b i) where
 mem:=by simp
 obj:=fun i h st c hc=>by
  obtain⟨gz,hI,⟨u,v,hO⟩,⟨p1,e1,c1,d1⟩,⟨p2,e2,c2,d2⟩⟩:=st
  simp only[zm,List.not_mem_nil,or_false] at hc
  rcases hc with rfl | rfl | rfl | rfl | rfl
  . exact⟨_,gz,fun v zp=>by cases zp⟩
  . exact⟨_,hI,fun v zp=>by cases zp⟩
  . exact⟨_,hO,fun v zp=>by cases zp⟩
  . exact⟨p1,e1,fun v zp=>by rw[d1] at zp;cases zp⟩
  . exact⟨p2,e2,fun v zp=>by rw[d2] at zp;cases zp⟩
 keep:=fun i h h' st k=>by
  obtain⟨gz,hI,⟨u,v,hO⟩,⟨p1,e1,r1⟩,⟨p2,e2,r2⟩⟩:=st
  exact⟨k zp (by simp) _ gz,k tI (by simp) _ hI,⟨u,v,k tO (by simp) _ hO⟩,⟨p1,k i1 (by simp) _ e1,r1⟩,⟨p2,k i2 (by simp) _ e2,r2⟩⟩
 item:=by
  intro X hP hw hK hc i pins s σ H E I hf st hg
  subst hP hw hK
  obtain⟨gz,hI,⟨u0,v0,hO⟩,h1,h2⟩:=st
  obtain⟨xs,ys,x,y,hq1,hq2,hx,hy⟩:=hg
  obtain⟨its1,rv1,p1,hz1⟩:=I.tuple hq1
  obtain⟨its2,rv2,p2,hz2⟩:=I.tuple hq2
  obtain⟨u1,hu1,ru1⟩:=rv1.get hx
  obtain⟨u2,hu2,ru2⟩:=rv2.get hy
  have zlt:zp<s.heap.objs.size:=zX gz
  have Z:=zEY o1 o2 o3 o4 oa ob
  have lt1:i<its1.toArray.size:=by simpa using (zE.mp hu1).1
  have lt2:i<its2.toArray.size:=by simpa using (zE.mp hu2).1
  have hT:s.TypeIs (.ref zp) "zip" := ⟨_,gz,rfl⟩
  unfold pyNext
  refine zC (wpAny_attempt (zAk (name:=Str.ofString "__next__") hT PySem.F.slot_zip_next (zAx PySem.F.slot_zip_next hT PySem.F.entry_zip_next
   (zHO (zDz (A:=X.A.in1) (I.ok.hd hc) i1 a (zY oa) its1.toArray) (zDz (A:=X.A.in1) (I.ok.hd hc) i2 b (zY (zAt ob o1)) its2.toArray) Z gz hI hO ⟨h1,p1⟩ ⟨h2,p2⟩ lt1 lt2 fun y1 y2 h' tk hy1 hy2 z' hO' s1' s2' hT' hsz hk=>zH ?_) (PySem.F.args_zip_next_1 _))))
  obtain rfl:y1=u1:=by
   have h1:its1[i]? = some y1:=by simpa using hy1
   rw[hu1] at h1;exact (zR h1).symm
  obtain rfl:y2=u2:=by
   have h1:its2[i]? = some y2:=by simpa using hy2
   rw[hu2] at h1;exact (zR h1).symm
  refine⟨_,rfl,wpAny_letOwnedTupleGo_zip z' fun h2' z2 e2=>?_⟩
  have hT2:IsPair h2' s.heap.objs.size y1 y2:=e2.extBut _ _ (zAM zlt) hT'
  have fpl:∀c∈[zp,tI,tO,i1,i2],c<s.heap.objs.size:=fun c hc=>by
   simp only[zm,List.not_mem_nil,or_false] at hc
   have t1:=zAt o4 zlt
   have t2:=zAt o3 t1
   have t3:=zAt o2 t2
   rcases hc with rfl | rfl | rfl | rfl | rfl
   . exact zlt
   . exact t2
   . exact t1
   . exact zAt o1 t3
   . exact t3
  refine⟨.ref s.heap.objs.size,upd H s.heap.objs.size (.tup [x,y]),I.turnedLaid (t':=tk) (fp:=[zp,tI,tO,i1,i2]) hf (fun c o hb q=>?_) (zL _) ?_,rfl,⟨_,x,y,rfl,I.hok.fresh (zL _),rfl,fun zs hzs=>by rw[I.tuple_inj hzs hq1];exact hx,fun zs hzs=>by rw[I.tuple_inj hzs hq2];exact hy⟩,⟨z2,?_,⟨_,_,e2.extBut _ _ Z.zTO hO'⟩,?_,?_⟩,fun c hc=>?_⟩
  . exact e2.extBut _ _ (fun w=>hb (by simp[w])) (hk c o (fun w=>hb (by simp[w])) (fun w=>hb (by simp[w])) (fun w=>hb (by simp[w])) (fun w=>hb (by simp[w])) q)
  . exact⟨⟨by show 2<=sizeLine;decide,_,hT2,rfl⟩,[y1,y2],.cons ru1 (.cons ru2 .nil),⟨_,hT2,rfl,_,rfl⟩⟩
  . exact e2.extBut _ _ Z.zTI (hk _ _ Z.zTI Z.IO Z.I1 Z.I2 hI)
  . obtain⟨⟨o,ho,r⟩,_⟩:=s1'
    exact⟨o,e2.extBut _ _ Z.z1 ho,r⟩
  . obtain⟨⟨o,ho,r⟩,_⟩:=s2'
    exact⟨o,e2.extBut _ _ Z.z2 ho,r⟩
  . rw[zZ (zY (fpl c hc))];exact (hf _ hc).1
 done:=by
  intro X hP hw hK hc i pins s σ H E I hf st hg
  subst hP hw hK
  obtain⟨gz,hI,⟨u0,v0,hO⟩,h1,h2⟩:=st
  obtain⟨xs,hq,hx⟩:=hg
  obtain⟨its,rv,p,_⟩:=I.tuple hq
  have hl:=rv.length
  have Z:=zEY o1 o2 o3 o4 oa ob
  have hT:s.TypeIs (.ref zp) "zip" := ⟨_,gz,rfl⟩
  have f1:=hf zp (by simp)
  have f2:=hf i1 (by simp)
  unfold pyNext
  refine zC (wpAny_attempt (zAk (name:=Str.ofString "__next__") hT PySem.F.slot_zip_next (zAx PySem.F.slot_zip_next hT PySem.F.entry_zip_next
   (zI8 (A:=X.A.in1) (St:=fun h=>h.IsTupleIter i1 a i/\h.IsTuple a its.toArray) (fun h h' st k=>by
    obtain⟨⟨o,ho,r⟩,o2,ho2,r2⟩:=st
    exact⟨⟨o,k i1 (by simp) o ho,r⟩,o2,k a (by simp) o2 ho2,r2⟩) (fun s Q E st qe=>zDy (I.ok.hd hc) st.1 st.2 (by simp;omega) qe) Z gz hI hO ⟨h1,p⟩ fun h' e hk he=>?_) (PySem.F.args_zip_next_1 _))))
  obtain⟨o,ho,hcl⟩:=he
  refine zC (zBL (T := "StopIteration") (b:=true) ⟨o,ho,hcl⟩ isSubtype_stop (zH ?_))
  exact⟨rfl,I.turnedFp (t':=s.toks) (fp:=[zp,tI,tO,i1,i2]) hf fun c u hb q=>hk c u (fun w=>hb (by simp[w])) (fun w=>hb (by simp[w])) q⟩
 self:=fun _ _ _ _ _ st h=>wpAny_pyIter_zip st.1 h
section
variable {X:Cx}
noncomputable def iZipT (K:PySem.W.Frag)(ta:TA):TI:=fun σ H R=>ta σ H fun vs H1=>∃a b,vs=[.ref a,.ref b]/\(∃xs,SqT K H1 a xs)/\(∃ys,SqT K H1 b ys)/\R (ItzT K a b) H1
theorem zK0 {elts:List Expr} {x1} {tp:Pos}{a b:Expr}{ta:TA}{p pos:Pos}(hg:Gl X "zip") (hm:X.mg "zip" = none) (ha:PA X [a,b] ta)(hs:starEach [a,b] X.env=(false,eval a X.env)::starEach [b] X.env:=by rfl)(hs2:(backTo pos (starEach [b] X.env)).any (·.1)=false:=by rfl):PI X (.Tuple elts x1 tp) (.Call (.Name "zip" p) [a,b] [] pos) (iZipT X.K ta):=by
 intro pins s σ H R I h
 refine Call_ (zCh I hg hm (by decide +kernel) (PyProof.Rows.callWith_type1 (T := "zip") (thn (ha pos pins s σ H _ I h) fun us s1 ⟨vs,H1,I1,r1,q1⟩=>?_) hs hs2))
 obtain⟨l1,l2,e,⟨xs,hq1⟩,⟨ys,hq2⟩,q⟩:=q1
 subst e
 obtain⟨u1,u2,rfl,rx1,rx2⟩:=zJA r1
 cases rx1
 cases rx2
 obtain⟨its1,_,p1,_⟩:=I1.tuple hq1
 obtain⟨its2,_,p2,_⟩:=I1.tuple hq2
 have ll1:l1<s1.heap.objs.size:=by obtain⟨o,ho,_⟩:=id p1;exact zX ho
 have ll2:l2<s1.heap.objs.size:=by obtain⟨o,ho,_⟩:=id p2;exact zX ho
 refine zIq p1 p2 fun h' hz hI hO h1 h2 hk=>?_
 refine wpAny_pyIter_zip hz ?_
 refine⟨s1.heap.objs.size+4,[s1.heap.objs.size+4,s1.heap.objs.size+2,s1.heap.objs.size+3,s1.heap.objs.size,s1.heap.objs.size+1],_,_,H1,rfl,I1.kept (t':=s1.toks) hk,
  zHR l1 l2 _ _ _ _ _ (zB8 _) (zB8 _) (zB8 _) (zB8 _) ll1 ll2,⟨hz,hI,⟨_,_,hO⟩,h1,h2⟩,fun b hb=>?_,q⟩
 have hle:s1.heap.objs.size<=b:=by
  simp only[zm,List.not_mem_nil,or_false] at hb
  rcases hb with rfl | rfl | rfl | rfl | rfl
  . exact Nat.le_add_right _ _
  . exact Nat.le_add_right _ _
  . exact Nat.le_add_right _ _
  . exact zL _
  . exact Nat.le_add_right _ _
 exact I1.fpOk hle (I1.hok.fresh hle)
end
theorem zJp {K:PySem.W.Frag}{a b:Addr}{xs ys:List V}{g:TG}{tb:TS}{D:zJ2}{σ:St}{H:Hp}(hxy:xs.length=ys.length)(Pv:Nat->St->Hp->Prop)(h0:Pv 0 σ H)(hl:∀i σ H,i<=xs.length->Pv i σ H->SqT K H a xs/\SqT K H b ys)
 (hs:∀i x y σ H T,xs[i]? = some x->ys[i]? = some y->Pv i σ H->H T=none->g (.ref T) σ (upd H T (.tup [x,y])) fun σ2 H2=>tb { D with nx:=Pv (i+1),ct:=Pv (i+1),bk:=D.nx } σ2 H2)(hd:∀ σ H,Pv xs.length σ H->D.nx σ H) :
 ∃W:Nat->Nat->St->Hp->Prop,(∃m,W 0 m σ H)/\∀i m σ H,W i m σ H ->
  ((ItzT K a b).stop i H/\D.nx σ H)\/((ItzT K a b).go i H/\∃N:St->Hp->Prop,(∀ σ' H',N σ' H'->∃m',m'<m/\W (i+1) m' σ' H')/\∀x H',(ItzT K a b).yld i H x H'->g x σ H' fun σ2 H2=>tb { D with nx:=N,ct:=N,bk:=D.nx } σ2 H2):=by
 refine⟨fun i m σ H=>i<=xs.length/\m=xs.length-i/\Pv i σ H,⟨_,zc _,rfl,h0⟩,fun i m σ H h=>?_⟩
 obtain⟨hi,rfl,hp⟩:=h
 obtain⟨q1,q2⟩:=hl i σ H hi hp
 by_cases c:i<xs.length
 . refine .inr ⟨⟨xs,ys,xs[i],ys[i],q1,q2,zA c,zA (by omega)⟩,Pv (i+1),fun σ' H' hp'=>⟨xs.length-(i+1),by omega,c,rfl,hp'⟩,fun x H' y=>?_⟩
   obtain⟨T,u,v,rfl,hT,rfl,hu,hv⟩:=y
   exact hs i u v σ H T (hu xs q1) (hv ys q2) hp hT
 . have e:i=xs.length:=by omega
   subst e
   exact .inl ⟨⟨xs,q1,zL _⟩,hd σ H hp⟩
end L2
namespace L2
open PySem PyProof.Rows
section
variable {X:Cx}
theorem zIs (hc:X.calm=true):zCn X (.builtin "min") (fun xs H Q=>∃(p:Addr)(ns:List Int),xs=[.ref p]/\SqL X.K H p (ns.map V.int)/\ns≠[]/\∀M,M∈ns->(∀a∈ns,M<=a)->Q (.int M) H):=by
 intro pins s σ H xs us Q I r h
 obtain⟨p,ns,rfl,hq,hne,q⟩:=h
 obtain⟨u,rfl,rx⟩:=zCt r
 cases rx
 obtain⟨its,rv,pl,hz⟩:=I.list hq
 have hi:=zCF rv
 have hil:=hi.length
 have hlp:p<s.heap.objs.size:=by
  obtain⟨o,_,ho,_⟩:=pl
  exact zX ho
 have hpos:0<ns.length:=List.length_pos_iff.mpr hne
 refine call_min_walk (wpAny_pyIter_list pl.isList ⟨s.heap.objs.size,[s.heap.objs.size,p],[s.heap.objs.size],its.toArray.size,_,_,fun i j=>decide (ns.getD i 0<ns.getD j 0),rfl,Walks.list (A:=X.A.in1) (I.ok.hd hc) s.heap.objs.size p (zY hlp) its.toArray,⟨?_,?_⟩,?_,by simpa [hil] using hpos,?_,fun v h' tk hv kp=>?_⟩)
 . exact⟨_,zU _ rfl,rfl,rfl⟩
 . obtain⟨o,ho,hr⟩:=pl.isList
   exact⟨o,zK _ ho,hr⟩
 . intro b hb
   rw[zAe]
   rcases zm.mp hb with rfl | hb
   . exact zB8 _
   . rw[zk.mp hb];exact zA0 hlp
 . intro i j vi vj s' Q' E' hvi hvj q'
   have hvi':its[i]? = some vi:=by simpa using hvi
   have hvj':its[j]? = some vj:=by simpa using hvj
   obtain⟨t1,rfl⟩:=hi.int_at i vi hvi'
   obtain⟨t2,rfl⟩:=hi.int_at j vj hvj'
   exact PyProof.Rows.lt_int q'
 . obtain⟨b1,b2⟩:=argBest_lt (fun i=>ns.getD i 0) (its.toArray.size-1)
   have hv':its[argBest (fun i j=>decide (ns.getD i 0<ns.getD j 0)) (its.toArray.size-1)]? = some v:=by simpa using hv
   generalize eb:argBest (fun i j=>decide (ns.getD i 0<ns.getD j 0)) (its.toArray.size-1)=bi at hv' b1 b2
   obtain⟨t,rfl⟩:=hi.int_at bi v hv'
   have hlt:bi<ns.length:=by have:=(zE.mp hv').1;omega
   have hK:Kp s h':=fun b o e=>kp b o (fun z=>absurd (zk.mp z) (zY (zX e))) (zK _ e)
   refine⟨.int (ns.getD bi 0),H,I.kept hK,⟨t,rfl⟩,q _ ?_ fun m hm=>?_⟩
   . rw[zD,zA hlt];exact zAX hlt
   . obtain⟨j,hj,ej⟩:=zd hm
     have:=b2 j (by rw[zP];omega)
     have g1:ns.getD j 0=m:=by rw[zD,zA hj,ej];rfl
     rw[g1] at this
     exact this
end
end L2
namespace L2
open PySem PySem.Spec PyProof.Rows
theorem zIe (a b:Option Int):eqV (oV a) (oV b)=decide (a=b):=by
 cases a with
 | none=>cases b with
  | none=>rfl
  | some b=>rfl
 | some a=>cases b with
  | none=>rfl
  | some b=>
   show (a==b)=_
   by_cases h:a=b
   . subst h;simp
   . rw[ze (by simpa using h)];simpa using h
theorem zKL (a:Option Int):zLZ (oV a)=true:=by cases a <;> rfl
theorem zGb {xs ys:List (Option Int)}:((List.range (min xs.length ys.length)).all (fun j=>decide (xs.getD j none=ys.getD j none)) && xs.length==ys.length)=decide (xs=ys):=by
 by_cases h:xs=ys
 . subst h;simp
 . rw[ze h]
   by_cases hl:xs.length=ys.length
   . have:∃j,j<xs.length/\xs.getD j none≠ys.getD j none:=by
      apply zAo
      intro hn
      refine h (List.ext_getElem hl fun j h1 h2=>?_)
      apply zAo
      intro hne
      exact hn ⟨j,h1,by simpa [zD,h1,h2] using hne⟩
     obtain⟨j,hj,hne⟩:=this
     rw[Bool.and_eq_false_iff]
     left
     rw[List.all_eq_false]
     exact⟨j,by rw[zCD];omega,by simpa using hne⟩
   . simp[hl]
theorem zKM {A:Around}{s:Shared}{us ws:List Value}{xs ys:List (Option Int)}(h1:zBR (xs.map oV) us)(h2:zBR (ys.map oV) ws)(j:Nat)(a:j<us.toArray.size)(b:j<ws.toArray.size):SeqAt.EqAt A s us.toArray[j] ws.toArray[j] (decide (xs.getD j none=ys.getD j none)):=by
 have l1:=h1.length
 have l2:=h2.length
 rw[zB] at l1 l2
 rw[zP] at a b
 have jx:j<xs.length:=by omega
 have jy:j<ys.length:=by omega
 obtain⟨u,hu,ru⟩:=h1.get (i:=j) (x:=oV xs[j]) (by simp[jx])
 obtain⟨w,hw,rw'⟩:=h2.get (i:=j) (x:=oV ys[j]) (by simp[jy])
 have e1:us.toArray[j]'(by rw[zP];exact a)=u:=by
  rw[zA a] at hu
  simpa using zR hu
 have e2:ws.toArray[j]'(by rw[zP];exact b)=w:=by
  rw[zA b] at hw
  simpa using zR hw
 have e3:xs.getD j none=xs[j]:=by rw[zD,zA jx];rfl
 have e4:ys.getD j none=ys[j]:=by rw[zD,zA jy];rfl
 rw[e1,e2,e3,e4,<-zIe]
 exact eqAt_V ru rw' (zKL _) (zKL _)
noncomputable def TabO (K:PySem.W.Frag)(H:Hp)(a:Addr)(M:List (List (Option Int))):Prop:=∃rs:List Addr,SqL K H a (rs.map V.ref)/\rs.length=M.length/\∀(i:Nat)(r:Addr)(row:List (Option Int)),rs[i]? = some r->M[i]? = some row->H r=some (.lst (row.map oV))
theorem zJD {M N:List (List (Option Int))}(h:M.length=N.length):(List.range M.length).all (fun j=>decide (M.getD j []=N.getD j []))=decide (M=N):=by
 by_cases c:M=N
 . subst c
   rw[zV rfl]
   exact zAy.mpr fun j _=>zV rfl
 . rw[ze c]
   have:∃j,j<M.length/\M.getD j []≠N.getD j []:=by
    apply zAo
    intro hn
    refine c (List.ext_getElem h fun j h1 h2=>?_)
    apply zAo
    intro hne
    exact hn ⟨j,h1,by simpa [zD,h1,h2] using hne⟩
   obtain⟨j,hj,hne⟩:=this
   rw[List.all_eq_false]
   exact⟨j,zCD.mpr hj,by simpa using hne⟩
section
variable {X:Cx}
theorem zK3 (hu:X.A.units<cLine):OpR X (compareOp .NotEq) (fun x y H Q=>∃(a b:Addr)(xs ys:List (Option Int)),x = .ref a/\y = .ref b/\SqT X.K H a (xs.map oV)/\SqT X.K H b (ys.map oV)/\Q (.bl (!decide (xs=ys))) H):=by
 intro pins s σ H x y v u Q I rx ry h
 obtain⟨a,b,xs,ys,rfl,rfl,ha,hb,q⟩:=h
 cases rx
 cases ry
 obtain⟨its,r,pl,hz⟩:=I.tuple ha
 obtain⟨its2,r2,pl2,hz2⟩:=I.tuple hb
 have l1:=r.length
 have l2:=r2.length
 rw[zB] at l1 l2
 refine PySem.EqBoolInt.of_rcne (SeqAt.RcNeAt.tuples (e:=fun j=>decide (xs.getD j none=ys.getD j none)) pl pl2 hu (fun j a b=>zKM r r2 j a b)) ⟨.bl _,H,I,rfl,?_⟩
 rw[zP,zP,<-l1,<-l2,zGb]
 exact q
theorem zJb {pl:List (Addr×Obj)}{N':List Str}{sc:Scope}{fp:List Addr}{s3:Shared}{H3:Hp}(hu:X.A.units<cLine):OpR (zBM X pl N' sc fp s3 H3) (compareOp .NotEq) (fun x y H Q=>∃(a b:Addr)(xs ys:List (Option Int)),x = .ref a/\y = .ref b/\SqT X.K H a (xs.map oV)/\SqT X.K H b (ys.map oV)/\Q (.bl (!decide (xs=ys))) H):=zK3 (X:=zBM X pl N' sc fp s3 H3) hu
theorem zK5 (hu:X.A.units+1<cLine):OpR X (compareOp .Eq) (fun x y H Q=>∃(a b:Addr)(M N:List (List (Option Int)))(m:Nat),x = .ref a/\y = .ref b/\TabO X.K H a M/\TabO X.K H b N/\M.length=N.length/\(∀r∈M,r.length=m)/\(∀r∈N,r.length=m)/\Q (.bl (decide (M=N))) H):=by
 intro pins s σ H x y v u Q I rx ry h
 obtain⟨a,b,M,N,m,rfl,rfl,⟨rs,ha,hl1,h1⟩,⟨ts,hb,hl2,h2⟩,hMN,hm1,hm2,q⟩:=h
 cases rx
 cases ry
 obtain⟨its,r,pl,hz⟩:=I.list ha
 obtain⟨its2,r2,pl2,hz2⟩:=I.list hb
 have l1:=r.length
 have l2:=r2.length
 rw[zB] at l1 l2
 refine SeqAt.eq_listAt (e:=fun j=>decide (M.getD j []=N.getD j [])) pl.isList pl2.isList (by rw[zP,zP];omega) (by omega) (fun j ja jb=>?_) ⟨.bl _,H,I,rfl,?_⟩
 . rw[zP] at ja jb
   have jx:j<rs.length:=by omega
   have jy:j<ts.length:=by omega
   have jM:j<M.length:=by omega
   have jN:j<N.length:=by omega
   obtain⟨w1,hw1,rw1⟩:=r.get (i:=j) (x:=.ref rs[j]) (by simp[jx])
   obtain⟨w2,hw2,rw2⟩:=r2.get (i:=j) (x:=.ref ts[j]) (by simp[jy])
   cases (show w1=Value.ref rs[j] from rw1)
   cases (show w2=Value.ref ts[j] from rw2)
   have g1:its.toArray[j]'(by rw[zP];exact ja) = .ref rs[j]:=by
    rw[zA ja] at hw1
    simpa using zR hw1
   have g2:its2.toArray[j]'(by rw[zP];exact jb) = .ref ts[j]:=by
    rw[zA jb] at hw2
    simpa using zR hw2
   have k1:=h1 j rs[j] M[j] (zA jx) (zA jM)
   have k2:=h2 j ts[j] N[j] (zA jy) (zA jN)
   have d1:M.getD j []=M[j]:=by rw[zD,zA jM];rfl
   have d2:N.getD j []=N[j]:=by rw[zD,zA jN];rfl
   have lM:=hm1 M[j] (zAX jM)
   have lN:=hm2 N[j] (zAX jN)
   rw[g1,g2,d1,d2]
   by_cases c:rs[j]=ts[j]
   . rw[c] at k1 ⊢
     rw[k1] at k2
     injection k2 with z
     injection z with z
     have e:M[j]=N[j]:=by
      have inj:∀(xs ys:List (Option Int)),xs.map oV=ys.map oV->xs=ys:=by
       intro xs
       induction xs with
       | nil=>intro ys e;cases ys with
        | nil=>rfl
        | cons y ys=>cases e
       | cons x xs ih=>
        intro ys e
        cases ys with
        | nil=>cases e
        | cons y ys=>
         simp only[zAS,List.cons.injEq] at e
         have:=zIe x y
         rw[<-e.1,zIe x x,zV rfl] at this
         rw[of_decide_eq_true this.symm,ih ys e.2]
      exact inj _ _ z
     rw[e,zV rfl]
     exact SeqAt.EqAt.same _
   . obtain⟨us,rv1,t1,_⟩:=I.list (SqL.of (K:=X.K) k1)
     obtain⟨ws,rv2,t2,_⟩:=I.list (SqL.of (K:=X.K) k2)
     have n1:=rv1.length
     have n2:=rv2.length
     rw[zB] at n1 n2
     have h:=SeqAt.RcAt.lists (A:=X.A.in1) (e:=fun i=>decide (M[j].getD i none=N[j].getD i none)) t1.isList t2.isList (by rw[zP,zP];omega) (show X.A.units+1<cLine from hu) (fun i a b=>zKM rv1 rv2 i a b)
     have e:((List.range us.toArray.size).all fun i=>decide (M[j].getD i none=N[j].getD i none))=decide (M[j]=N[j]):=by
      have o:=zGb (xs:=M[j]) (ys:=N[j])
      rw[lM,lN,Nat.min_self,beq_self_eq_true,Bool.and_true] at o
      rw[zP,<-n1,lM]
      exact o
     rw[e] at h
     exact SeqAt.EqAt.of_refs c h
 . rw[zP,show its.length=M.length by omega,zJD hMN]
   exact q
end
end L2
namespace L2
section
open PySem PySem.W PyProof.Rows
noncomputable def zEd (p:Program)(w:World)(n₀:Nat)(ann:Option Value):Nat->SharedT->Thread->Option SharedT
 | 0,_,_=>none
 | n+1,s,t=>match through t with
  | true=>some s
  | false=>match Fast.tw6613529449190102663 n₀ ann t with
   | false=>none
   | true=>match Fast.tw10156331382660048174 (Fast.tw11892475500146522536 Fast.tw14364793385576792824) p w s t with
    | some (s',t')=>zEd p w n₀ ann n s' t'
    | none=>none
theorem zFB {p:Program}{w:World}{n₀:Nat}{ann:Option Value}:∀{n:Nat}{s s':SharedT}{t:Thread},zEd p w n₀ ann n s t=some s'->topRun treeTable p w n₀ ann n s.abs t=some s'.abs
 | 0,_,_,_,h=>by cases h
 | n+1,s,s',t,h=>by
  unfold zEd at h
  rw[<-Fast.te6613529449190102663,<-Fast.te10156331382660048174,<-Fast.te11892475500146522536,<-Fast.te14364793385576792824] at h
  unfold topRun
  cases he:through t with
  | true=>rw[he] at h;cases h;rfl
  | false=>
   rw[he] at h
   cases hk:stepOk n₀ ann t with
   | false=>rw[hk] at h;cases h
   | true=>
    rw[hk] at h
    cases hs:stepT (denote treeTable) p w s t with
    | none=>rw[hs] at h;cases h
    | some r=>obtain⟨s₂,t₂⟩:=r;rw[hs] at h;rw[stepT_spec hs];exact zFB h
noncomputable def bt:List Obj->Nat->BT->BT
 | [],_,t=>t
 | o::l,i,t=>bt l (i+1) (t.ins i o)
noncomputable def bT (P:Params):BT:=bt (boot_heap P).objs.toList 0 .nil
noncomputable def bS (w:World)(os:OsState):SharedT:=⟨bT w.params,(boot_heap w.params).objs.size,(boot_heap w.params).life,Array.mk [],boot_drawn,boot_toks,os⟩
theorem bA (w:World)(os:OsState):(bS w os).abs=⟨boot_heap w.params,Array.mk [],boot_drawn,boot_toks,os⟩:=by kernel_rfl
noncomputable abbrev runT (p:Program)(N:Nat)(w:World)(os:OsState):Option SharedT:=zEd p w (boot_heap w.params).objs.size ((boot_heap w.params).nsMap mainGlobals "__annotations__") N (bS w os) (topStub p)
noncomputable abbrev chkT (p:Program)(h h':Heap)(s:Shared):Bool:=staticsOk (importedModules p.main.body) h h' && namesBound p h' && gensDone s && laidKept h h'
theorem left_of {p q:Program}{loose:List Str}{Xt:Shared->Bool}{α:Type}{Yf:Shared->α}{Ya:World->α}{N:Nat}(e:opening p=plainProg p.main.scope.names)(hN:Nat.ble 600 N=true)(f:∀s,fenceModules? p s=some s)
 (h:∀(w:World)(os:OsState),(runT p N w os).map (fun s=>(chkT p (boot_heap w.params) s.abs.heap s.abs,Fast.tw4187177175401517315 q loose (importedModules p.main.body) Xt true s.abs,Yf s.abs))=some (true,openGood q loose,Ya w)):LeftO p q loose Xt Yf Ya N:=by
 intro w
 obtain⟨⟨h0,gs,d,k,os⟩,e1,e2⟩:=Option.map_eq_some_iff.mp (boot_open e hN f w)
 obtain⟨rfl,rfl,rfl,rfl⟩:h0=boot_heap w.params/\gs=Array.mk []/\d=boot_drawn/\k=boot_toks:=by simpa using e2
 obtain⟨s,r,a⟩:=Option.map_eq_some_iff.mp (h w os)
 obtain⟨b,a⟩:=Prod.mk.inj a
 rw[<-Fast.te4187177175401517315] at a
 have y:=zFB r
 rw[bA] at y
 unfold openEnds
 rw[e1]
 show (topFrom treeTable p w N _).map _=_
 unfold topFrom
 have z:((boot_heap w.params).isNs mainGlobals && (Array.mk []:Array GenState).size==0)=true:=by kernel_rfl
 dsimp only
 rw[z]
 dsimp only
 rw[y]
 show Option.map _ (match chkT p (boot_heap w.params) s.abs.heap s.abs with | true=>some s.abs | false=>none)=_
 rw[b]
 exact congrArg some a
end
end L2
namespace K33
open PySem L2 WM
noncomputable def top (i:Nat):Stmt:=PySem.Challenge.pw_labelways_k33_entries_that_can_go.main.body.getD i (.Pass ⟨0,0,0,0⟩)
noncomputable abbrev zJK:Stmt:=top 30
noncomputable abbrev zEB:Stmt:=top 31
noncomputable abbrev sWeb:Stmt:=top 32
noncomputable abbrev zFz:Stmt:=top 16
noncomputable abbrev zHp:Stmt:=top 20
noncomputable abbrev zHs:Stmt:=top 19
noncomputable abbrev zHq:Stmt:=top 18
noncomputable abbrev sBwr:Stmt:=top 21
noncomputable abbrev sNbr:Stmt:=top 22
noncomputable abbrev zKr:Stmt:=top 1
noncomputable abbrev sWi:Stmt:=top 2
noncomputable abbrev sTof:Stmt:=top 3
noncomputable abbrev sPl:Stmt:=top 4
noncomputable abbrev sOrd:Stmt:=top 24
noncomputable abbrev sByo:Stmt:=top 25
noncomputable abbrev sLbr:Stmt:=top 26
noncomputable abbrev sIsh:Stmt:=top 27
noncomputable abbrev sEbr:Stmt:=top 28
noncomputable abbrev sAdd:Stmt:=top 33
noncomputable abbrev sLes:Stmt:=top 34
noncomputable abbrev sFar:Stmt:=top 35
noncomputable abbrev sOn:Stmt:=top 36
noncomputable abbrev zKs:Stmt:=top 37
noncomputable abbrev sNxs:Stmt:=top 38
noncomputable abbrev zFJ:Stmt:=top 39
noncomputable abbrev zG0:Stmt:=top 40
noncomputable abbrev zFL:Stmt:=top 41
noncomputable abbrev zHr:Stmt:=top 42
noncomputable abbrev zHu:Stmt:=top 43
noncomputable abbrev zFK:Stmt:=top 44
noncomputable abbrev zDd:Stmt:=top 45
noncomputable abbrev zJL:Stmt:=top 46
noncomputable abbrev sTdl:Stmt:=top 47
noncomputable abbrev sAll:Stmt:=top 48
noncomputable abbrev zGP:Stmt:=top 49
noncomputable abbrev zHo:Stmt:=top 6
noncomputable abbrev sSum:Stmt:=top 7
noncomputable abbrev zHt:Stmt:=top 8
noncomputable abbrev sCan:Stmt:=top 10
noncomputable abbrev sIsp:Stmt:=top 11
noncomputable abbrev sLaw:Stmt:=top 50
noncomputable def zBd (H:Hp)(t p:Addr)(N:Nat):Prop:=∃(ns:List Int)(spot rest:Int),H t=some (.lst [.ref p,.int spot,.int rest])/\H p=some (.lst (ns.map V.int))/\p≠t/\0<=spot/\spot<=N/\0<=rest/\ns.length<=63
noncomputable def zAU (H:Hp)(t:Addr)(N:Nat):Prop:=∃p:Addr,zBd H t p N
variable {H:Hp}{N:Nat}
theorem zAU.mono {t:Addr}{M:Nat}(h:zAU H t N)(l:N<=M):zAU H t M:=by
 obtain⟨p,ns,spot,rest,a,b,c,d,e,f⟩:=h
 exact⟨p,ns,spot,rest,a,b,c,d,by omega,f⟩
noncomputable def Sm (t:Addr)(H H':Hp):Prop:=∀b o,b≠t->H b=some o->H' b=some o
theorem Sm.refl (t:Addr)(H:Hp):Sm t H H:=fun _ _ _ e=>e
variable {H1 H2:Hp}
theorem Sm.trans {t:Addr}(a:Sm t H H1)(b:Sm t H1 H2):Sm t H H2:=fun c o n e=>b c o n (a c o n e)
variable {H':Hp}
theorem Sm.of {t:Addr}(h:zA1 H H'):Sm t H H':=fun b o _ e=>h b o e
variable {l:Addr}
theorem Sm.laid {t:Addr}{o:HO}(h:H l=none):Sm t H (upd H l o):=fun b u _ e=>by rw[zZ (zh e h)];exact e
theorem Sm.chg {t:Addr}{o:HO}(s:Sm t H H')(h:H l=none):Sm t H (upd H' l o):=fun b u n e=>by rw[zZ (zh e h)];exact s b u n e
theorem zG {o:HO}(h:H l=none):zA1 H (upd H l o):=fun b u e=>by rw[zZ (zh e h)];exact e
theorem zAF {o:HO}(s:zA1 H H')(h:H l=none):zA1 H (upd H' l o):=fun b u e=>by rw[zZ (zh e h)];exact s b u e
theorem zAU.keep {t:Addr}(h:zAU H t N)(k:zA1 H H'):zAU H' t N:=by
 obtain⟨p,ns,spot,rest,a,b,c⟩:=h
 exact⟨p,ns,spot,rest,k _ _ a,k _ _ b,c⟩
theorem zAU.laid {t:Addr}{o:HO}(h:zAU H t N)(hl:H l=none):zAU (upd H l o) t N:=h.keep (zG hl)
variable {b:Addr}
theorem zAU.ne {t:Addr}(h:zAU H t N)(hb:H b=none):b≠t:=by
 obtain⟨p,ns,spot,rest,a,_⟩:=h
 exact (zh a hb).symm
theorem zAU.chg {t:Addr}{o u:HO}(h:zAU H t N)(hl:H l=some u)(hu:∀xs,u ≠ .lst xs):zAU (upd H l o) t N:=by
 obtain⟨p,ns,spot,rest,a,b,c⟩:=h
 exact⟨p,ns,spot,rest,by rw[zZ (zA5 a hl fun z=>hu _ z.symm)];exact a,by rw[zZ (zA5 b hl fun z=>hu _ z.symm)];exact b,c⟩
variable {p:Addr}
theorem zBd.keepF {t:Addr}{M:Nat}(h:zBd H t p N)(k1:∀o,H t=some o->H' t=some o)(k2:∀o,H p=some o->H' p=some o)(l:N<=M):zBd H' t p M:=by
 obtain⟨ns,spot,rest,a,b,c,d,e,f⟩:=h
 exact⟨ns,spot,rest,k1 _ a,k2 _ b,c,d,by omega,f⟩
noncomputable def zDa:Sp:=fun vs H Q _=>∃(t p:Addr)(N:Nat)(many:Int),vs=[.ref t,.int many]/\zBd H t p N/\N<1000000/\0<many/\many<1000000 /\
 ∀(r:Int)(H':Hp),0<=r->r<many->zBd H' t p (N+1)->(∀b,b≠t->H' b=H b)->Q (.int r) H'
noncomputable def zFD:Sp:=fun vs H Q _=>∃(t:Addr)(N:Nat)(many:Int),vs=[.ref t,.int many]/\zAU H t N/\N<1000000/\0<many/\many<1000000 /\
 ∀(r:Int)(H':Hp),0<=r->r<many->zAU H' t (N+1)->(∀b,b≠t->H' b=H b)->Q (.int r) H'
noncomputable def zJ7 (K:PySem.W.Frag):Sp:=fun vs H Q _=>∃(a:Addr)(ns:List Int),vs=[.ref a]/\SqL K H a (ns.map V.int)/\ns.length<=63/\∀(t:Addr)(H':Hp),H t=none->zAU H' t 0->zA1 H H'->Q (.ref t) H'
variable {f:Addr}{a:Int}
section
variable {P:Program}{w:World}{K:PySem.W.Frag}{mg:Str->Option Value}{base:Heap}
theorem scTape:zAR ["_law_script"] ["_law_script"] (defScope zJK):=⟨rfl,rfl,rfl,by decide +kernel,rfl,by decide +kernel,by decide +kernel⟩
theorem zLB {fd:FuncData}(F:Fun K "_law_tape" "_law_tape" zJK f fd):zAq P w K mg base CX0 1 f fd ["_law_script"] (zJ7 K):=by
 refine F.ok scTape (fun vs H Q E h=>?_) (fun cdv A outer s H vs Q E hr h=>?_)
 . obtain⟨a,ns,rfl,_⟩:=h
   rfl
 . obtain⟨a,ns,rfl,hS,hl,k⟩:=h
   refine⟨_,zn (zAb (zB1 (zF (zDT zKk (pv 0) zEn (zEm zAA)) (zCV (zCV zT))))),?_⟩
   refine⟨_,rfl,_,rfl,a,_,rfl,hS,fun p hp=>⟨by show 3<=sizeLine;decide,fun t ht=>?_⟩⟩
   have npt:p≠t:=fun e=>by rw[e,zJ] at ht;cases ht
   have e1:zE5 (ns.map V.int) none (some 63)=(ns.take 63).map V.int:=by
    unfold zE5
    rw[HT.sIx_none,List.drop_zero,Nat.sub_zero,zB,show (63:Int)=((63:Nat):Int) from rfl,HT.sIx_nat,List.map_take]
    rw[show min 63 ns.length=ns.length by omega,zf (by rw[zB];exact zL _),zf (by rw[zB];exact hl)]
   have ht0:H t=none:=by rw[zZ npt.symm] at ht;exact ht
   refine k t _ ht0 ⟨p,ns.take 63,0,0,zJ,?_,npt,zB5 _,zB5 _,zB5 _,by rw[zw];omega⟩ ?_
   . rw[zZ npt,zJ,e1]
   . exact zAF (zG hp) ht0
theorem zFI:zAR ["_law_tape_here", "_law_many", "_law_found", "_law_spot", "_law_cell", "_law_mixed"] ["_law_tape_here", "_law_many"] (defScope zEB):=⟨rfl,rfl,rfl,by decide +kernel,rfl,by decide +kernel,by decide +kernel⟩
theorem zDm {m:Int}(h:0<m):0<=a%m/\a%m<m:=⟨Int.emod_nonneg _ (by omega),Int.emod_lt_of_pos _ h⟩
theorem zEt {fd:FuncData}(F:Fun K "_law_draw" "_law_draw" zEB f fd) (mLen:mg "len" = none):zAq P w K mg base CX0 1 f fd ["_law_tape_here", "_law_many"] zDa:=by
 refine F.ok zFI (fun vs H Q E h=>?_) (fun cdv A outer s H vs Q E hr h=>?_)
 . obtain⟨t,p,N,many,rfl,_⟩:=h
   rfl
 . obtain⟨t,p,N,many,rfl,T,hN,hm0,hm1,k⟩:=h
   obtain⟨ns,spot,rest,ht,hp,hne,hs0,hs1,hr0,hl⟩:=T
   refine⟨_,zW (zCK (zAQ zF1 (zAH zAO (pv 0) zAA (fun _ _=>rfl)) zAA (zAc _))
    (zW (zAN (i:=2) zFI.nd rfl (Or.inl rfl) (zBc zDk (zAH zAO (pv 0) zAA (fun _ _=>rfl)) (pv 1)))
    (zW (zDJ (zBc zEs (zAH zAO (pv 0) zAA (fun _ _=>rfl)) (pv 1)) (zDj (pv 0) zAA zCX))
    (zn (zAb (pv 2))))) zA7)
    (zW (zAN (i:=3) zFI.nd rfl (Or.inl rfl) (zAH zAO (pv 0) zAA (fun _ _=>rfl)))
    (zW (zDJ (zBc zCO (pv 3) zAA) (zDj (pv 0) zAA zCX))
    (zW (zAN (i:=4) zFI.nd rfl (Or.inl rfl) (zC0 (zAQ zF1 (zAV zBE (by rfl) mLen PySem.boot_len (zF (zAH zAO (pv 0) zAA (fun _ _=>rfl)) zT)) zAA (zAc _))
     (zAH zAO (zAH zAO (pv 0) zAA (fun _ _=>rfl)) (zBc zDk (pv 3) (zAV zBE (by rfl) mLen PySem.boot_len (zF (zAH zAO (pv 0) zAA (fun _ _=>rfl)) zT))) (fun _ _=>rfl)) zAA))
    (zW (zCK (zEK (zAQ op_ge (pv 4) (zBc op_pow zAA zAA) (zAc _)) (zDf (zAQ op_lt (pv 3) (zAV zBE (by rfl) mLen PySem.boot_len (zF (zAH zAO (pv 0) zAA (fun _ _=>rfl)) zT)) (zAc _)))).pt
     (zW (zDJ (zBc zEs (pv 4) (pv 1)) (zDj (pv 0) zAA zCX)) (zn (zAb (zBc zDk (pv 4) (pv 1))))) zA7)
    (zW (zAN (i:=5) zFI.nd rfl (Or.inl rfl) (zBc zDk (zBc zFT (zBc zCO (zBc zDk (pv 4) zAA) zAA) (zBc zCO zAA (zBc zFT zAA (pv 3)))) zAA))
    (zn (zAb (zBc zDk (zBc zEs (zBc zDk (zBc zFT (zBc zCO (pv 5) (zBc zFT (zBc zFT zAA (pv 3)) (pv 3))) zAA) zAA) zAA) (pv 1))))))))),?_⟩
   have cd:CDiv 0 many:=⟨hm0,by omega⟩
   refine⟨_,rfl,t,_,_,_,rfl,rfl,SqL.of ht,rfl,_,_,rfl,rfl,_,rfl,?_⟩
   refine zDO (fun hc=>?_) (fun hc=>?_)
   . have hpos:0<rest:=of_decide_eq_true hc
     refine⟨_,rfl,t,_,_,_,rfl,rfl,SqL.of ht,rfl,_,rfl,_,_,rfl,rfl,hm0,?_⟩
     refine⟨_,rfl,t,_,_,_,rfl,rfl,SqL.of ht,rfl,_,rfl,_,_,rfl,rfl,cd,?_⟩
     refine⟨_,rfl,t,_,_,2,rfl,rfl,ht,rfl,?_⟩
     refine⟨_,rfl,?_⟩
     refine k _ _ (zDm hm0).1 (zDm hm0).2 ⟨ns,spot,rest/many,zJ,by rw[zZ hne];exact hp,hne,hs0,by omega,Int.ediv_nonneg hr0 (by omega),hl⟩ fun b hb=>zZ hb
   . -- spot=tape[1];tape[1]=spot+1
     refine⟨_,rfl,t,_,_,_,rfl,rfl,SqL.of ht,rfl,?_⟩
     refine⟨_,rfl,_,_,rfl,rfl,_,rfl,t,_,_,1,rfl,rfl,ht,rfl,?_⟩
     have ht1:(upd H t (.lst [.ref p,.int (spot+1),.int rest])) t=some (.lst [.ref p,.int (spot+1),.int rest]):=zJ
     have hp1:(upd H t (.lst [.ref p,.int (spot+1),.int rest])) p=some (.lst (ns.map V.int)):=by rw[zZ hne];exact hp
     have ex:0<((ns.map V.int).length:Int)->∃c,atI (ns.map V.int) (spot%((ns.map V.int).length:Int))=some (.int c):=fun h=>by
      have hb:=zDm (a:=spot) h
      obtain⟨j,hj⟩:=Int.eq_ofNat_of_zero_le hb.1
      have hlt:j<ns.length:=by
       have h2:=hb.2
       rw[hj,zB] at h2
       omega
      refine⟨ns[j],?_⟩
      rw[hj]
      exact zCw (by simp[hlt])
     refine⟨_,rfl,t,_,_,_,rfl,rfl,SqL.of ht1,rfl,p,_,rfl,.inl (SqL.of hp1),_,_,rfl,rfl,_,rfl,?_⟩
     refine zDO (fun h2=>?a) (fun h2=>?b)
     case' a=>
      obtain⟨c,hc⟩:=ex (of_decide_eq_true h2)
      refine⟨_,rfl,t,_,_,_,rfl,rfl,SqL.of ht1,rfl,_,rfl,_,rfl,t,_,_,_,rfl,rfl,SqL.of ht1,rfl,p,_,rfl,.inl (SqL.of hp1),_,_,rfl,rfl,of_decide_eq_true h2,p,_,_,_,rfl,rfl,SqL.of hp1,hc,?_⟩
     all_goals
      refine⟨_,rfl,_,_,rfl,rfl,⟨by decide,by decide,by decide⟩,_,_,rfl,rfl,_,rfl,?_⟩
      refine zDO (fun h3=>?_) (fun h3=>?_)
     all_goals first
      | (refine⟨_,rfl,_,rfl,t,_,_,_,rfl,rfl,SqL.of ht1,rfl,p,_,rfl,.inl (SqL.of hp1),_,_,rfl,rfl,_,rfl,?_⟩;refine zDO (fun h4=>?_) (fun h4=>?_))
      | refine zDU ?_
     all_goals first
      | (refine⟨_,rfl,_,rfl,_,_,rfl,rfl,⟨hm0,by omega⟩,_,rfl,t,_,_,2,rfl,rfl,ht1,rfl,?_⟩
         refine⟨_,rfl,_,rfl,_,_,rfl,rfl,hm0,?_⟩
         refine k _ _ (zDm hm0).1 (zDm hm0).2 ⟨ns,spot+1,_,zJ,by rw[zZ hne];exact hp1,hne,by omega,by omega,Int.ediv_nonneg (Int.le_trans (show (0:Int)<=10 ^ (18:Int).toNat by decide) (of_decide_eq_true h3)) (by omega),hl⟩ fun b hb=>by rw[zZ hb,zZ hb])
      | (refine⟨_,rfl,_,_,rfl,rfl,(by dsimp only;decide),_,_,rfl,rfl,_,rfl,_,_,rfl,rfl,.inl ⟨by decide,by decide⟩,_,_,rfl,rfl,_,_,rfl,rfl,.inl ⟨by omega,by omega⟩,_,_,rfl,rfl,(by dsimp only;decide),?_⟩
         refine⟨_,rfl,_,rfl,_,_,rfl,rfl,.inl ⟨by decide,by decide⟩,_,rfl,_,_,rfl,rfl,.inr ⟨by omega,by omega⟩,_,_,rfl,rfl,_,_,rfl,rfl,.inr ⟨by decide,by decide⟩,_,_,rfl,rfl,(by dsimp only;decide),_,_,rfl,rfl,⟨by decide,by decide⟩,_,rfl,_,_,rfl,rfl,hm0,?_⟩
         refine k _ _ (zDm hm0).1 (zDm hm0).2 ⟨ns,spot+1,rest,ht1,hp1,hne,by omega,by omega,hr0,hl⟩ fun b hb=>zZ hb)
theorem zIC {fd:FuncData}(F:Fun K "_law_draw" "_law_draw" zEB f fd) (mLen:mg "len" = none):zAq P w K mg base CX0 1 f fd ["_law_tape_here", "_law_many"] zFD:=
 (zEt F mLen).imp fun vs H Q E ⟨t,N,many,e,⟨p,T⟩,a,b,c,k⟩=>⟨t,p,N,many,e,T,a,b,c,fun r H' h0 h1 T' he=>k r H' h0 h1 ⟨p,T'⟩ he⟩
end
theorem zDn {L:List Int}{r:Int}(h0:0<=r)(h1:r<L.length):∃n,n∈L/\atI (L.map V.int) r=some (.int n):=by
 obtain⟨j,rfl⟩:=Int.eq_ofNat_of_zero_le h0
 have hj:j<L.length:=by omega
 exact⟨L[j],zAX hj,zCw (by simp[hj])⟩
noncomputable def zBh (H:Hp)(wa:Addr)(n:Int)(ts:List T3):Prop:=∃(ta:Addr)(tys:List V),H wa=some (.tup [.int n,.ref ta])/\H ta=some (.tup tys)/\zAT H tys (ts.map tl)/\GW n ts
variable {wa:Addr}{n:Int}{ts:List T3}
theorem zBh.keepT (h:zBh H wa n ts)(k:∀b ys,H b=some (.tup ys)->H' b=some (.tup ys)):zBh H' wa n ts:=by
 obtain⟨ta,tys,a,b,c,d⟩:=h
 exact⟨ta,tys,k _ _ a,k _ _ b,c.keep k,d⟩
theorem zBh.keep (h:zBh H wa n ts)(k:zA1 H H'):zBh H' wa n ts:=h.keepT fun b _ e=>k b _ e
theorem zBh.sm {t:Addr}(h:zBh H wa n ts)(T:zAU H t N)(k:Sm t H H'):zBh H' wa n ts:=h.keepT fun b _ e=>by
 obtain⟨p,ns,spot,rest,a,_⟩:=T
 exact k b _ (zA5 e a (by intro z;cases z)) e
noncomputable def spWeb:Sp:=fun vs H Q _=>∃(t:Addr)(N:Nat)(n:Int),vs=[.ref t,.int n]/\zAU H t N/\N<900000/\1<=n/\n<=24 /\
 ∀(wa:Addr)(ts:List T3)(H':Hp),H wa=none->zBh H' wa n ts->zAU H' t (N+200)->Sm t H H'->Q (.ref wa) H'
noncomputable def JD (n:Int)(kvs:List (List Key×V)):Prop:=(∀kv∈kvs,∃a b l:Int,kv=([Sum.inl a,Sum.inl b],V.int l)/\0<=a/\a<b/\b<n/\1<=l/\l<=99)/\(kvs.map (·.1)).Nodup
theorem JD.nil (n:Int):JD n []:=⟨fun _ h=>by simp at h,zCC⟩
variable {kvs:List (List Key×V)}
theorem JD.put (h:JD n kvs){b l:Int}(h0:0<=a)(h1:a<b)(h2:b<n)(h3:1<=l)(h4:l<=99):JD n (zCP kvs [Sum.inl a,Sum.inl b] (.int l)):=by
 cases e:zBv kvs [Sum.inl a,Sum.inl b] with
 | none=>
  refine⟨fun kv hkv=>?_,zIF _ h.2 e⟩
  rw[zDS _ e] at hkv
  rcases zu.mp hkv with q | q
  . exact h.1 kv q
  . rw[zk.mp q];exact⟨a,b,l,rfl,h0,h1,h2,h3,h4⟩
 | some v=>
  have ha:(kvs.any fun kv=>decide (kv.1=[Sum.inl a,Sum.inl b]))=true:=by rw[zCA,e];rfl
  unfold zCP
  rw[if_pos ha]
  refine⟨fun kv hkv=>?_,?_⟩
  . obtain⟨q,hq,e2⟩:=zi.mp hkv
    by_cases hk:q.1=[Sum.inl a,Sum.inl b]
    . rw[if_pos hk,hk] at e2;rw[<-e2];exact⟨a,b,l,rfl,h0,h1,h2,h3,h4⟩
    . rw[if_neg hk] at e2;rw[<-e2];exact h.1 q hq
  . have e3:(kvs.map fun kv=>if kv.1=[Sum.inl a,Sum.inl b] then (kv.1,V.int l) else kv).map (·.1)=kvs.map (·.1):=by
     rw[zAZ]
     refine zBb fun kv _=>?_
     show (if kv.1=[Sum.inl a,Sum.inl b] then (kv.1,V.int l) else kv).1=kv.1
     split <;> rfl
    rw[e3];exact h.2
noncomputable def unk:Key->Int
 | .inl i=>i
 | .inr _=>0
noncomputable def zEG (kvs:List (List Key×V)):List (List Int):=kvs.map fun kv=>kv.1.map unk
theorem JD.keys (h:JD n kvs):kvs.map (·.1)=(zEG kvs).map (List.map Sum.inl):=by
 unfold zEG
 rw[zAZ]
 refine zBb fun kv hkv=>?_
 obtain⟨a,b,l,e,_⟩:=h.1 kv hkv
 rw[e];rfl
theorem JD.ne (h:JD n kvs):∀k∈zEG kvs,k≠[]:=fun k hk=>by
 obtain⟨kv,hkv,e⟩:=zi.mp hk
 obtain⟨a,b,l,e2,_⟩:=h.1 kv hkv
 rw[<-e,e2];simp[List.map]
theorem JD.nd (h:JD n kvs):(zEG kvs).Nodup:=by
 have e:=h.2
 rw[h.keys] at e
 rw[List.Nodup,zAW] at e
 exact e.imp fun h e'=>h (by rw[e'])
theorem JD.val (h:JD n kvs){k:List Int}(hk:k∈zEG kvs):∃a b l,k=[a,b]/\zBv kvs [Sum.inl a,Sum.inl b]=some (.int l)/\0<=a/\a<b/\b<n/\1<=l/\l<=99:=by
 obtain⟨kv,hkv,e⟩:=zi.mp hk
 obtain⟨a,b,l,e2,h0,h1,h2,h3,h4⟩:=h.1 kv hkv
 have ek:k=[a,b]:=by rw[<-e,e2];rfl
 have hm:(kvs.any fun kv=>decide (kv.1=[Sum.inl a,Sum.inl b]))=true:=List.any_eq_true.mpr ⟨kv,hkv,zV (by rw[e2])⟩
 rw[zCA] at hm
 cases hv:zBv kvs [Sum.inl a,Sum.inl b] with
 | none=>rw[hv] at hm;cases hm
 | some v=>
  have hv0:=hv
  unfold zBv at hv
  cases hf:kvs.find? fun kv=>decide (kv.1=[Sum.inl a,Sum.inl b]) with
  | none=>rw[hf] at hv;cases hv
  | some q=>
   rw[hf] at hv
   obtain⟨a',b',l',e3,_,_,_,g3,g4⟩:=h.1 q (List.mem_of_find?_eq_some hf)
   have ev:v = .int l':=by rw[e3] at hv;exact (zR hv).symm
   exact⟨a,b,l',ek,by rw[hv0,ev],h0,h1,h2,g3,g4⟩
variable {m:Nat}{fD:Addr}{fdD:FuncData}
section
variable {P:Program}{w:World}{K:PySem.W.Frag}{mg:Str->Option Value}{base:Heap}
structure WI (H:Hp)(t d la:Addr)(n:Int)(N m:Nat)(H2:Hp):Prop where
 sm:Sm t H H2
 tp:zAU H2 t N
 dc:∃kvs,H2 d=some (.dT kvs)/\JD n kvs/\kvs.length<=m
 lg:∃l0 l1 l2:Int,H2 la=some (.lst [.int l0,.int l1,.int l2])/\(∀l∈[l0,l1,l2],1<=l/\l<=99)
theorem WI.draw {H3:Hp}{t d la:Addr}(h:WI H t d la n N m H2)(hd:d≠t)(hl:la≠t)(T:zAU H3 t (N+1))(he:∀b,b≠t->H3 b=H2 b):WI H t d la n (N+1) m H3:=by
 refine⟨fun b o nb e=>by rw[he b nb];exact h.sm b o nb e,T,?_,?_⟩
 . rw[he d hd];exact h.dc
 . rw[he la hl];exact h.lg
theorem WI.laid {H H2:Hp}{t d la l:Addr}{n:Int}{N m:Nat}{o:HO}(h:WI H t d la n N m H2)(hl:H2 l=none):WI H t d la n N m (upd H2 l o):=by
 obtain⟨kvs,a,b⟩:=h.dc
 obtain⟨l0,l1,l2,c,e⟩:=h.lg
 exact⟨h.sm.trans (Sm.laid hl),h.tp.laid hl,⟨kvs,by rw[zZ (zh a hl)];exact a,b⟩,⟨l0,l1,l2,by rw[zZ (zh c hl)];exact c,e⟩⟩
theorem WI.put {H H2:Hp}{t d la:Addr}{n:Int}{N m:Nat}{kvs:List (List Key×V)}(h:WI H t d la n N m H2)(hd0:H d=none)(hd:H2 d=some (.dT kvs)){a b l:Int}(h0:0<=a)(h1:a<b)(h2:b<n)(h3:1<=l)(h4:l<=99) :
 WI H t d la n N (m+1) (upd H2 d (.dT (zCP kvs [Sum.inl a,Sum.inl b] (.int l)))):=by
 obtain⟨kvs',e,j,hm⟩:=h.dc
 rw[hd] at e
 cases e
 obtain⟨l0,l1,l2,c,e⟩:=h.lg
 refine⟨h.sm.chg hd0,h.tp.chg hd (by intro xs z;cases z),⟨_,zJ,j.put h0 h1 h2 h3 h4,?_⟩,⟨l0,l1,l2,by rw[zZ (zA5 c hd (by intro z;cases z))];exact c,e⟩⟩
 have:=zBG kvs [Sum.inl a,Sum.inl b] (V.int l)
 omega
theorem WI.up {t d la:Addr}{N' m':Nat}(h:WI H t d la n N m H2)(hN:N<=N')(hm:m<=m'):WI H t d la n N' m' H2:=by
 obtain⟨kvs,a,b,c⟩:=h.dc
 exact⟨h.sm,h.tp.mono hN,⟨kvs,a,b,by omega⟩,h.lg⟩
theorem at3 {l0 l1 l2 r:Int}(h:∀l∈[l0,l1,l2],1<=l/\l<=99)(h0:0<=r)(h1:r<3):∃l,atI [V.int l0,V.int l1,V.int l2] r=some (.int l)/\1<=l/\l<=99:=by
 obtain⟨l,hl,ha⟩:=zDn (L:=[l0,l1,l2]) h0 h1
 exact⟨l,ha,h l hl⟩
theorem zAL {n:Nat}(h:n<=100000):n<sizeLine:=zAD h (by decide)
theorem zKU {ms:List (List Int)}(h:JD n kvs)(hp:ms.Perm (zEG kvs))(hl:kvs.length<64)(hn:1<=n)(hn2:n<=24)(e:ts.map (fun t=>[t.1,t.2.1])=ms)(hr:∀t∈ts,0<=t.1/\t.1<t.2.1/\t.2.1<n/\1<=t.2.2/\t.2.2<=99):GW n ts:=by
 have hlen:ts.length=kvs.length:=by
  have:=hp.length_eq
  rw[<-e] at this
  simpa [zEG] using this
 refine⟨hn,hn2,by omega,hr,?_⟩
 have nd:(ts.map fun t:T3=>[t.1,t.2.1]).Nodup:=by rw[e];exact hp.nodup_iff.mpr h.nd
 rw[List.Nodup,zAW] at nd
 exact nd.imp fun hne hc=>hne (by rw[hc.1,hc.2])
theorem zFy:zAR ["_law_tape_here", "_law_n", "_law_longs", "_law_joined_here", "_law_b", "_law_k", "_law_a"] ["_law_tape_here", "_law_n"] (defScope sWeb):=⟨rfl,rfl,rfl,by decide +kernel,rfl,by decide +kernel,by decide +kernel⟩
theorem ok_web {fd:FuncData}(F:Fun K "_law_web" "_law_web" sWeb f fd) (FD:Fun K "_law_draw" "_law_draw" zEB fD fdD) (bD:zAP K fdD ["_law_tape_here", "_law_many"] []) (mD:mg "_law_draw" = some (.ref fD)) (mLen:mg "len" = none)
 (mRange:mg "range" = none) (mTuple:mg "tuple" = none) (mSorted:mg "sorted" = none):zAq P w K mg base CX0 2 f fd ["_law_tape_here", "_law_n"] spWeb:=by
 have GD:zAq P w K mg base CX0 1 fD fdD ["_law_tape_here", "_law_many"] zFD:=zIC FD mLen
 refine F.ok zFy (fun vs H Q E h=>?_) (fun cdv A outer s H vs Q E hr h=>?_)
 . obtain⟨t,N,n,rfl,_⟩:=h
   rfl
 . obtain⟨t,N,n,rfl,T,hN,hn1,hn2,k⟩:=h
   have hu:=zDv hr
   obtain⟨es,q0,q1,q2,j3,q3,q4,p1,p2,p3,hbd,hes⟩:∃es q0 q1 q2 j3 q3 q4 p1 p2 p3,defBody sWeb = .Assign [.Name "_law_longs" q0] (.Subscript (.List es p1) (.Call (.Name "_law_draw" q1) [.Name "_law_tape_here" q2,.Constant (.int 4) j3 q3] [] q4) p2) p3::(defBody sWeb).drop 1 /\
    zC7 es [[1,1,1],[1,2,1],[1,2,3],[5,99,7]]:=⟨_,_,_,_,_,_,_,_,_,_,rfl,.cons (.cons (.cons (.cons .nil))) (by show 3<=sizeLine;decide) (.cons (.cons (.cons (.cons .nil))) (by show 3<=sizeLine;decide) (.cons (.cons (.cons (.cons .nil))) (by show 3<=sizeLine;decide) (.cons (.cons (.cons (.cons .nil))) (by show 3<=sizeLine;decide) (.nil))))⟩
   rw[hbd]
   refine⟨_,zW (zAN (i:=2) zFy.nd rfl (Or.inl rfl) (zAH zAO (zB1 (zJa hes))
    (zx GD hr rfl mD FD.kp bD .nil zAl (zF (pv 0) (zCV zT))) (fun _ _=>rfl)))
    (zW (zAN (i:=3) zFy.nd rfl (Or.inr rfl) zEq)
    (zW (zCK (zAQ zF1 (zx GD hr rfl mD FD.kp bD .nil zAl (zF (pv 0) (zCV zT))) zAA (zAc _))
     (zn (zBk PassesOwn.never rfl (zH0 rfl mRange (zCV (zF (pv 1) zT))) (zr (i:=4) zFy.nd rfl (Or.inl rfl))
      (zn (zCe hu (pv 3) (zBC (zF (zx GD hr rfl mD FD.kp bD .nil zAl (zF (pv 0) (zF (pv 4) zT))) (zF (pv 4) zT)))
       (zAH zAO (pv 2) (zx GD hr rfl mD FD.kp bD .nil zAl (zF (pv 0) (zCV zT))) (fun _ _=>rfl)) rfl)))) zA7)
    (zW (zBk PassesOwn.never rfl (zAm rfl mRange (zF (zx GD hr rfl mD FD.kp bD .nil zAl (zF (pv 0) (zF (zBc zCO (zBc zCO zAA (pv 1)) (zBc zEs (pv 1) zAA)) zT))) zT)) (zr (i:=5) zFy.nd rfl (Or.inl rfl))
     (zW (zAN (i:=6) zFy.nd rfl (Or.inl rfl) (zx GD hr rfl mD FD.kp bD .nil zAl (zF (pv 0) (zF (pv 1) zT))))
     (zW (zAN (i:=4) zFy.nd rfl (Or.inl rfl) (zx GD hr rfl mD FD.kp bD .nil zAl (zF (pv 0) (zF (pv 1) zT))))
     (zn (zCK (zAQ op_lt (pv 6) (pv 4) (zAc _)) (zn (zCe hu (pv 3) (zBC (zF (pv 6) (zF (pv 4) zT)))
      (zAH zAO (pv 2) (zx GD hr rfl mD FD.kp bD .nil zAl (zF (pv 0) (zCV zT))) (fun _ _=>rfl)) rfl)) zA7)))))
    (zn (zAb (zBC (zF (pv 1) (zF (zAf zAJ (by rfl) mTuple (by decide +kernel) (zF
     (zBA (own:=["_law_pair"]) (cn:=["_law_joined_here"]) (ci:=[3]) rfl (csc rfl rfl) ⟨rfl,rfl,rfl,trivial⟩ rfl
      (zCE (zAV (zDM rfl) (by rfl) mSorted (by decide +kernel) (zF (pv 3) zT))) (fun _ _ _ _=>zr (i:=0) (zBJ rfl) rfl (Or.inl rfl)) (fun _ _ _ _=>zBK)
      (fun _ _ _ _=>zBC (zF (zAH zBf (pv 0) zAA (fun _ _=>rfl)) (zF (zAH zBf (pv 0) zAA (fun _ _=>rfl)) (zF (zCa hu (pv 1) (pv 0) (fun _ _=>rfl)) zT))))) zT)) zT)))))))),?_⟩
   intro a1 e1 a2 e2 a3 e3 a4 e4
   refine⟨by show 4<=sizeLine;decide,fun al el=>?_⟩
   have T5:=((((T.laid (o:=.lst [.int 1,.int 1,.int 1]) e1).laid (o:=.lst [.int 1,.int 2,.int 1]) e2).laid (o:=.lst [.int 1,.int 2,.int 3]) e3).laid (o:=.lst [.int 5,.int 99,.int 7]) e4).laid (o:=.lst [.ref a1,.ref a2,.ref a3,.ref a4]) el
   refine⟨_,rfl,t,N,4,rfl,T5,by omega,by decide,by decide,fun r H1 h0 h1 T1 he1=>?_⟩
   have nel:al≠t:=((((T.laid (o:=.lst [.int 1,.int 1,.int 1]) e1).laid (o:=.lst [.int 1,.int 2,.int 1]) e2).laid (o:=.lst [.int 1,.int 2,.int 3]) e3).laid (o:=.lst [.int 5,.int 99,.int 7]) e4).ne el
   obtain⟨la,l0,l1,l2,hat,hla,hb,nla⟩:∃(la:Addr)(l0 l1 l2:Int),atI [V.ref a1,V.ref a2,V.ref a3,V.ref a4] r=some (.ref la)/\H1 la=some (.lst [.int l0,.int l1,.int l2])/\(∀l∈[l0,l1,l2],1<=l/\l<=99)/\la≠t:=by
    have n1:a1≠t:=T.ne e1
    have n2:a2≠t:=(T.laid (o:=.lst [.int 1,.int 1,.int 1]) e1).ne e2
    have n3:a3≠t:=((T.laid (o:=.lst [.int 1,.int 1,.int 1]) e1).laid (o:=.lst [.int 1,.int 2,.int 1]) e2).ne e3
    have n4:a4≠t:=(((T.laid (o:=.lst [.int 1,.int 1,.int 1]) e1).laid (o:=.lst [.int 1,.int 2,.int 1]) e2).laid (o:=.lst [.int 1,.int 2,.int 3]) e3).ne e4
    have g1:H1 a1=some (.lst [.int 1,.int 1,.int 1]):=by rw[he1 a1 n1];exact zG el _ _ (zG e4 _ _ (zG e3 _ _ (zG e2 _ _ zJ)))
    have g2:H1 a2=some (.lst [.int 1,.int 2,.int 1]):=by rw[he1 a2 n2];exact zG el _ _ (zG e4 _ _ (zG e3 _ _ zJ))
    have g3:H1 a3=some (.lst [.int 1,.int 2,.int 3]):=by rw[he1 a3 n3];exact zG el _ _ (zG e4 _ _ zJ)
    have g4:H1 a4=some (.lst [.int 5,.int 99,.int 7]):=by rw[he1 a4 n4];exact zG el _ _ zJ
    have hr4:r=0\/r=1\/r=2\/r=3:=by omega
    rcases hr4 with rfl | rfl | rfl | rfl
    . exact⟨a1,1,1,1,rfl,g1,by decide,n1⟩
    . exact⟨a2,1,2,1,rfl,g2,by decide,n2⟩
    . exact⟨a3,1,2,3,rfl,g3,by decide,n3⟩
    . exact⟨a4,5,99,7,rfl,g4,by decide,n4⟩
   refine⟨al,_,_,_,rfl,rfl,SqL.of (by rw[he1 al nel];exact zJ),hat,?_⟩
   have sm1:Sm t H H1:=fun b o nb e=>by
    rw[he1 b nb]
    exact zG el _ _ (zG e4 _ _ (zG e3 _ _ (zG e2 _ _ (zG e1 _ _ e))))
   intro d hd
   have nd:d≠t:=T1.ne hd
   have hd0:H d=none:=by
    cases q:H d with
    | none=>rfl
    | some o=>have:=sm1 d o nd q;rw[hd] at this;cases this
   have W0:WI H t d la n (N+1) 0 (upd H1 d (.dT [])):=⟨sm1.chg hd0,T1.laid hd,⟨[],zJ,JD.nil n,zL _⟩,⟨l0,l1,l2,by rw[zZ (zh hla hd)];exact hla,hb⟩⟩
   refine⟨_,rfl,t,N+1,3,rfl,W0.tp,by omega,by decide,by decide,fun r1 H2 _ _ T2 he2=>?_⟩
   have W2:=W0.draw nd nla T2 he2
   refine⟨_,_,rfl,rfl,_,rfl,?_⟩
   refine zDO (fun _=>?a) (fun _=>?b)
   case' a=>
    refine⟨_,rfl,1,n,rfl,⟨by decide,by decide,by omega,by omega⟩,zBQ (lo:=1) (n:=(n-1).toNat) (fun i σ H3=>∃vb:Option V,σ=[some (.ref t),some (.int n),some (.ref la),some (.ref d),vb,none,none]/\WI H t d la n (N+2+2*i) i H3) ⟨none,rfl,W2⟩ ?turn ?after⟩
    case turn=>
     rintro i σ H3 hi ⟨vb,rfl,W⟩
     obtain⟨m0,m1,m2,hm,hmb⟩:=W.lg
     refine⟨_,rfl,_,rfl,t,N+2+2*i,3,rfl,W.tp,by omega,by decide,by decide,fun r3 H4 g0 g1 T4 he4=>?_⟩
     have W4:=W.draw nd nla T4 he4
     obtain⟨lg,hlg,hg1,hg2⟩:=at3 hmb g0 g1
     refine⟨la,_,_,_,rfl,rfl,SqL.of (by rw[he4 la nla];exact hm),hlg,?_⟩
     refine⟨_,rfl,_,rfl,_,rfl,t,N+2+2*i+1,1+i,rfl,W4.tp,by omega,by omega,by omega,fun r5 H5 q0 q1 T5 he5=>?_⟩
     have W5:=W4.draw nd nla T5 he5
     refine⟨_,rfl,by show 2<=sizeLine;decide,fun p hp=>?_⟩
     have W6:=W5.laid (o:=.tup [.int r5,.int (1+i)]) hp
     obtain⟨kvs,hk,J,hkl⟩:=W6.dc
     refine⟨d,_,rfl,zGr.t (k:=[Sum.inl r5,Sum.inl (1+(i:Int))]) hk zJ (zAL (by omega)),?_⟩
     exact⟨_,rfl,(W6.put hd0 hk q0 q1 (by omega) hg1 hg2).up (by omega) (by omega)⟩
    case' after=>
     rintro σ H3 ⟨vb,rfl,W⟩
     have W3:WI H t d la n (N+50) 23 H3:=W.up (by omega) (by omega)
   case' b=>
    have W3:WI H t d la n (N+50) 23 H2:=W2.up (by omega) (by omega)
   all_goals
    refine⟨_,rfl,_,rfl,_,_,rfl,rfl,_,rfl,_,_,rfl,rfl,⟨by decide,by decide⟩,_,_,rfl,rfl,t,N+50,_,rfl,W3.tp,by omega,by omega,by omega,fun r4 H4 p0 p1 T4 he4=>?_⟩
    have W4:=W3.draw nd nla T4 he4
    refine⟨r4,rfl,by omega,by omega,zBQ (lo:=0) (n:=r4.toNat) (fun i σ H5=>∃vb vk va:Option V,σ=[some (.ref t),some (.int n),some (.ref la),some (.ref d),vb,vk,va]/\WI H t d la n (N+51+3*i) (23+i) H5) ⟨_,_,_,rfl,W4⟩ ?turn2 ?after2⟩
    case turn2=>
     rintro i σ H5 hi ⟨vb,vk,va,rfl,W⟩
     refine⟨_,rfl,_,rfl,t,N+51+3*i,n,rfl,W.tp,by omega,by omega,by omega,fun a H6 a0 a1 T6 he6=>?_⟩
     have W6:=W.draw nd nla T6 he6
     refine⟨_,rfl,_,rfl,t,N+51+3*i+1,n,rfl,W6.tp,by omega,by omega,by omega,fun b H7 b0 b1 T7 he7=>?_⟩
     have W7:=W6.draw nd nla T7 he7
     refine⟨_,rfl,_,rfl,_,_,rfl,rfl,_,rfl,?_⟩
     refine zDO (fun hc=>?_) (fun hc=>?_)
     . have hab:a<b:=of_decide_eq_true hc
       obtain⟨m0,m1,m2,hm,hmb⟩:=W7.lg
       refine⟨_,rfl,_,rfl,t,N+51+3*i+1+1,3,rfl,W7.tp,by omega,by decide,by decide,fun r3 H8 g0 g1 T8 he8=>?_⟩
       have W8:=W7.draw nd nla T8 he8
       obtain⟨lg,hlg,hg1,hg2⟩:=at3 hmb g0 g1
       refine⟨la,_,_,_,rfl,rfl,SqL.of (by rw[he8 la nla];exact hm),hlg,?_⟩
       refine⟨_,rfl,_,rfl,_,rfl,by show 2<=sizeLine;decide,fun p hp=>?_⟩
       have W9:=W8.laid (o:=.tup [.int a,.int b]) hp
       obtain⟨kvs,hk,J,hkl⟩:=W9.dc
       refine⟨d,_,rfl,zGr.t (k:=[Sum.inl a,Sum.inl b]) hk zJ (zAL (by omega)),?_⟩
       exact⟨_,_,_,rfl,(W9.put hd0 hk a0 hab b1 hg1 hg2).up (by omega) (by omega)⟩
     . exact⟨_,_,_,rfl,W7.up (by omega) (by omega)⟩
    case after2=>
     rintro σ H5 ⟨vb,vk,va,rfl,W⟩
     obtain⟨kvs,hk,J,hkl⟩:=W.dc
     have hk64:kvs.length<64:=by omega
     refine⟨_,rfl,_,rfl,d,kvs,zEG kvs,rfl,hk,J.keys,J.ne,by rw[zEG,zB];exact hk64,fun l zs ms hl TA hp _=>?_⟩
     refine⟨l,rfl,⟨_,SqL.of zJ⟩,[.ref d],rfl,fun D hD=>?_⟩
     have hlz:=TA.length
     have hlm:ms.length=kvs.length:=by rw[hp.length_eq,zEG,zB]
     have nlD:l≠D:=fun e=>by rw[<-e,zJ] at hD;cases hD
     have hk1:(upd H5 l (.lst zs)) d=some (.dT kvs):=zG hl _ _ hk
     have hD5:H5 D=none:=by rw[zZ nlD.symm] at hD;exact hD
     refine zBz (a:=l) (xs:=zs) (fun i ys H6=>∃ts:List T3,ts.length=i/\ts.map (fun t:T3=>[t.1,t.2.1])=ms.take i/\(∀t∈ts,0<=t.1/\t.1<t.2.1/\t.2.1<n/\1<=t.2.2/\t.2.2<=99)/\H6 D=some (.lst ys)/\zAT H6 ys (ts.map tl)/\zA1 (upd H5 l (.lst zs)) H6)
      ⟨[],rfl,rfl,fun _ h=>by simp at h,zJ,trivial,zG hD⟩ (fun i ys H6 h=>?_) (fun i ys H6 h=>?_) (fun i x ys H6 hx h=>?_) (fun ys H6 h=>?_)
     . obtain⟨_,_,_,_,_,_,s6⟩:=h
       exact SqL.of (s6 _ _ zJ)
     . obtain⟨ts,e1,e2,_,_,T6,_⟩:=h
       have e3:=T6.length
       rw[zB] at e3
       have e4:=congrArg List.length e2
       rw[zB,zw] at e4
       exact zAL (by omega)
     . obtain⟨ts,e1,e2,hts,hD6,T6,s6⟩:=h
       obtain⟨pa,kx,ex,hkx,hpa,_⟩:=TA.get hx
       subst ex
       have hpa6:H6 pa=some (.tup (kx.map V.int)):=s6 _ _ (zG hl _ _ hpa)
       obtain⟨a,b,lg,ek,hv,a0,ab,bn,lg1,lg2⟩:=J.val (hp.mem_iff.mp (zS hkx))
       subst ek
       refine⟨⟨rfl,rfl⟩,?_⟩
       refine zD8 ?_
       refine⟨_,rfl,pa,_,_,_,rfl,rfl,SqT.of hpa6,rfl,_,rfl,pa,_,_,_,rfl,rfl,SqT.of hpa6,rfl,_,rfl,_,rfl,d,_,rfl,hv ▸ zCz.t (k:=[Sum.inl a,Sum.inl b]) (s6 _ _ hk1) hpa6,by show 3<=sizeLine;decide,fun p hp6=>?_⟩
       have nDp:D≠p:=zh hD6 hp6
       refine⟨by rw[zZ nDp];exact hD6,ts++[(a,b,lg)],by rw[zI,e1];rfl,?_,?_,zJ,?_,?_⟩
       . rw[zQ,e2,zAI,hkx];rfl
       . intro t ht
         rcases zu.mp ht with q | q
         . exact hts t q
         . rw[zk.mp q];exact⟨a0,ab,bn,lg1,lg2⟩
       . rw[zQ]
         refine (T6.keep fun c xs e=>?_).snoc ⟨p,rfl,by rw[zZ nDp.symm,zJ];rfl,by simp[tl]⟩
         rw[zZ (zA5 e hD6 (by intro z;cases z)),zZ (zh e hp6)]
         exact e
       . exact zAF (s6.trans (zG hp6)) hD
     . obtain⟨ts,e1,e2,hts,hD6,T6,s6⟩:=h
       refine⟨D,ys,rfl,.inl ⟨SqL.of hD6,fun ta hta=>?_⟩⟩
       refine⟨by show 2<=sizeLine;decide,fun wa hwa=>?_⟩
       rw[hlz,zf (zL _)] at e2
       have G:GW n ts:=zKU J hp hk64 hn1 hn2 e2 hts
       have nwt:wa≠ta:=fun e=>by rw[e,zJ] at hwa;cases hwa
       have h6wa:H6 wa=none:=by rw[zZ nwt] at hwa;exact hwa
       have s7:zA1 H6 (upd (upd H6 ta (.tup ys)) wa (.tup [.int n,.ref ta])):=zAF (zG hta) h6wa
       have T7:zAU (upd (upd H6 ta (.tup ys)) wa (.tup [.int n,.ref ta])) t (N+200):=((W.tp.mono (by omega)).keep ((zG hl).trans (s6.trans s7)))
       have nwa:wa≠t:=((W.tp.keep ((zG hl).trans s6)).ne h6wa)
       have sm7:Sm t H (upd (upd H6 ta (.tup ys)) wa (.tup [.int n,.ref ta])):=W.sm.trans (Sm.of ((zG hl).trans (s6.trans s7)))
       refine k wa ts _ ?_ ⟨ta,ys,zJ,by rw[zZ nwt.symm,zJ],T6.keep fun c xs e=>s7 _ _ e,G⟩ T7 sm7
       cases q:H wa with
       | none=>rfl
       | some o=>
        have:=(W.sm.trans (Sm.of ((zG hl).trans s6))) wa o nwa q
        rw[h6wa] at this;cases this
end
noncomputable def zHa:Sp:=fun vs H Q _=>∃(wa:Addr)(n:Int)(ts:List T3)(p:Int),vs=[.ref wa,.int p]/\zBh H wa n ts /\
 ∀(l:Addr)(zs:List V)(ms:List (List Int))(H':Hp),zA1 H H'->H l=none->H' l=some (.lst zs)->zAT H' zs ms->ms.Perm (fd p ts)->zIy ms->Q (.ref l) H'
variable {fd':FuncData}
section
variable {P:Program}{w:World}{K:PySem.W.Frag}{mg:Str->Option Value}{base:Heap}
theorem zFG:zAR ["web", "place", "found", "a", "b", "long"] ["web", "place"] (defScope zFz):=⟨rfl,rfl,rfl,by decide +kernel,rfl,by decide +kernel,by decide +kernel⟩
theorem zIA (F:Fun K "ties_at" "ties_at" zFz f fd') (mSorted:mg "sorted" = none):zAq P w K mg base CX0 1 f fd' ["web", "place"] zHa:=by
 refine F.ok zFG (fun vs H Q E h=>?_) (fun cdv A outer s H vs Q E hr h=>?_)
 . obtain⟨wa,n,ts,p,rfl,_⟩:=h
   rfl
 . obtain⟨wa,n,ts,p,rfl,⟨ta,tys,hwa,hta,TA,G⟩,k⟩:=h
   refine⟨_,zW (zAN (i:=2) zFG.nd rfl (Or.inl rfl) (zB1 zT))
    (zW (zBk PassesOwn.never rfl (zBu (zAH zAr (pv 0) zAA (fun _ _=>rfl))) (zCf rfl (zAK (zr (i:=3) zFG.nd rfl (Or.inl rfl)) (zAK (zr (i:=4) zFG.nd rfl (Or.inl rfl)) (zAK (zr (i:=5) zFG.nd rfl (Or.inl rfl)) zCB))))
     (zW (zCK (zAQ zCv (pv 3) (pv 1) (zAc _)) (zn (zCL (zDA PySem.F.plainAttrs_list PySem.F.slot_list_append PySem.F.type_list_append zBP (pv 2) (zF (zBC (zF (pv 4) (zF (pv 5) zT))) zT)))) zA7)
     (zn (zCK (zAQ zCv (pv 4) (pv 1) (zAc _)) (zn (zCL (zDA PySem.F.plainAttrs_list PySem.F.slot_list_append PySem.F.type_list_append zBP (pv 2) (zF (zBC (zF (pv 3) (zF (pv 5) zT))) zT)))) zA7))))
    (zn (zAb (zAV zGC (by rfl) mSorted (by decide +kernel) (zF (pv 2) zT))))),?_⟩
   refine⟨zc _,fun l hl=>?_⟩
   have hwl:wa≠l:=zh hwa hl
   have htl:ta≠l:=zh hta hl
   have hlt:tys.length=ts.length:=by rw[TA.length,zB]
   refine⟨_,rfl,wa,_,_,_,rfl,rfl,SqT.of (by rw[zZ hwl];exact hwa),rfl,ta,rfl,⟨_,SqT.of (by rw[zZ htl];exact hta)⟩,zDD (K:=K) (a:=ta) (xs:=tys)
    (fun i σ H2=>∃(va vb vl:Option V)(xs:List V),σ=[some (.ref wa),some (.int p),some (.ref l),va,vb,vl]/\zA1 H H2/\H2 l=some (.lst xs)/\zAT H2 xs (fd p (ts.take i)))
    ⟨none,none,none,[],rfl,zG hl,zJ,trivial⟩ (fun i σ H2 _ ⟨_,_,_,_,_,s2,_⟩=>SqT.of (s2 _ _ hta)) ?turn ?after⟩
   case turn=>
    rintro i y σ H2 hi ⟨va,vb,vl,xs,rfl,s2,hl2,T2⟩
    obtain⟨ya,ky,rfl,hky,hya,_⟩:=TA.get hi
    rw[zO] at hky
    obtain⟨⟨a,b,c⟩,hti,rfl⟩:∃t:T3,ts[i]? = some t/\tl t=ky:=by
     cases e:ts[i]? with
     | none=>rw[e] at hky;cases hky
     | some t=>rw[e] at hky;exact⟨t,rfl,zR hky⟩
    have hil:i<ts.length:=(zE.mp hti).1
    have hlen:∀{xs':List V}{H3:Hp},zAT H3 xs' (fd p (ts.take i))->xs'.length<sizeLine:=fun T=>by
     have e1:=T.length
     have e2:=zGj (n:=n) p (ts:=ts.take i) fun t ht=>(G.rng t (List.mem_of_mem_take ht)).2.1
     rw[zw] at e2
     exact zAL (by have:=G.len;omega)
    have hfd:fd p (ts.take (i+1))=fd p (ts.take i)++((if a=p then [[b,c]] else [])++(if b=p then [[a,c]] else [])):=by
     rw[zAI,hti,zFf]
     show _++((if a=p then [[b,c]] else [])++(if b=p then [[a,c]] else [])++[])=_
     rw[zAB]
    have hab:a<b:=(G.rng _ (zS hti)).2.1
    refine⟨ya,_,rfl,SqT.of (s2 _ _ hya),rfl,_,_,rfl,_,_,rfl,_,_,rfl,rfl,?_⟩
    have app:∀{x:Int},∀q,H2 q=none->∃xs',(upd (upd H2 q (.tup [.int x,.int c])) l (.lst (xs++[.ref q]))) l=some (.lst xs')/\zA1 H (upd (upd H2 q (.tup [.int x,.int c])) l (.lst (xs++[.ref q])))/\zAT (upd (upd H2 q (.tup [.int x,.int c])) l (.lst (xs++[.ref q]))) xs' (fd p (ts.take i)++[[x,c]]):=by
     intro x q hq
     have nlq:l≠q:=zh hl2 hq
     refine⟨_,zJ,zAF (s2.trans (zG hq)) hl,(T2.keep fun e ys he=>?_).snoc ⟨q,rfl,by rw[zZ nlq.symm,zJ];rfl,by simp⟩⟩
     rw[zZ (zA5 he hl2 (by intro z;cases z)),zZ (zh he hq)]
     exact he
    refine⟨_,rfl,_,rfl,rfl,_,rfl,?_⟩
    refine zDO (fun h1=>?_) (fun h1=>?_)
    . have e1:a=p:=by have:=of_decide_eq_true h1;injection this
      have n2:¬ b=p:=by omega
      refine⟨_,rfl,.inl ⟨rfl,_,SqL.of hl2⟩,_,rfl,_,rfl,by show 2<=sizeLine;decide,fun q hq=>?_⟩
      have nlq:l≠q:=zh hl2 hq
      refine⟨l,_,_,rfl,rfl,by rw[zZ nlq];exact hl2,hlen T2,?_⟩
      refine⟨_,rfl,_,rfl,rfl,_,rfl,?_⟩
      rw[show decide (V.int b=V.int p)=false from ze fun e=>n2 (by injection e)]
      refine zDU ?_
      obtain⟨xs',g1,g2,g3⟩:=app (x:=b) q hq
      refine⟨_,_,_,xs',rfl,g2,g1,?_⟩
      rw[hfd,if_pos e1,if_neg n2]
      exact g3
    . have n1:¬ a=p:=fun e=>by
       have:=h1
       rw[e] at this
       exact this (zV rfl)
      refine⟨_,rfl,_,rfl,rfl,_,rfl,?_⟩
      refine zDO (fun h2=>?_) (fun h2=>?_)
      . have e2:b=p:=by have:=of_decide_eq_true h2;injection this
        refine⟨_,rfl,.inl ⟨rfl,_,SqL.of hl2⟩,_,rfl,_,rfl,by show 2<=sizeLine;decide,fun q hq=>?_⟩
        have nlq:l≠q:=zh hl2 hq
        refine⟨l,_,_,rfl,rfl,by rw[zZ nlq];exact hl2,hlen T2,?_⟩
        obtain⟨xs',g1,g2,g3⟩:=app (x:=a) q hq
        refine⟨_,_,_,xs',rfl,g2,g1,?_⟩
        rw[hfd,if_neg n1,if_pos e2]
        exact g3
      . have n2:¬ b=p:=fun e=>by
         have:=h2
         rw[e] at this
         exact this (zV rfl)
        refine⟨_,_,_,xs,rfl,s2,hl2,?_⟩
        rw[hfd,if_neg n1,if_neg n2,zAB,zAB]
        exact T2
   case after=>
    rintro σ H2 ⟨va,vb,vl,xs,rfl,s2,hl2,T2⟩
    rw[hlt,zf (zL _)] at T2
    have e2:=zGj (n:=n) p (ts:=ts) fun t ht=>(G.rng t ht).2.1
    refine⟨_,rfl,l,xs,fd p ts,rfl,SqL.of hl2,T2,by have:=G.len;omega,fun l' zs ms hl' T3 hp hrs=>?_⟩
    have nll:l'≠l:=fun e=>by rw[e,hl2] at hl';cases hl'
    have hl0:H l'=none:=by
     cases q:H l' with
     | none=>rfl
     | some o=>have:=s2 l' o q;rw[hl'] at this;cases this
    exact k l' zs ms _ (s2.trans (zG hl')) hl0 zJ (T3.keep fun e ys he=>zG hl' _ _ he) hp hrs
end
theorem zHD {ms:List (List Int)}(h:zIy ms)(hk:∀k∈ms,∃y l,k=[y,l])(hn:(ms.map hd).Nodup):(ms.map hd).Pairwise (· < ·):=by
 rw[zAW]
 rw[List.Nodup,zAW] at hn
 have both:ms.Pairwise fun a b=>HT.lexLt b a=false/\hd a≠hd b:=by
  rw[zAC]
  intro i j hi hj hij
  exact⟨zAC.mp h i j hi hj hij,zAC.mp hn i j hi hj hij⟩
 refine both.imp_of_mem fun {a b} ha hb hab=>?_
 obtain⟨y,l,rfl⟩:=hk a ha
 obtain⟨z,m,rfl⟩:=hk b hb
 obtain⟨h1,h2⟩:=hab
 have h2':y≠z:=h2
 rw[HT.lexLt_cons,if_neg (Ne.symm h2')] at h1
 have:=of_decide_eq_false h1
 show y<z
 omega
theorem zGm {i j:Int}:decide (V.int i=V.int j)=decide (i=j):=by
 by_cases h:i=j
 . subst h;simp
 . rw[ze h,ze fun e=>h (by injection e)]
noncomputable def lamP:Pos:=⟨58,36,58,64⟩
noncomputable abbrev lamQ:Str:=(("nearest" : Str) ++ ".<locals>.") ++ "<lambda>"
noncomputable abbrev Tb (H:Hp)(PT:Addr):Prop:=zC6 H PT lamP lamQ
noncomputable def zJ9 (PT:Addr):Sp:=fun vs H Q _=>∃(d:Addr)(n:Int)(kvs:List (Key×V))(wt:Int->Option Int),vs=[.ref d]/\H d=some (.dK kvs)/\WD n kvs wt/\0<=n/\n<=24/\kvs≠[]/\Tb H PT /\
 ∀(M e:Int)(H':Hp),wt M=some e->(∀q f,wt q=some f->e<=f)->SmT H H'->Tb H' PT->Q (.int M) H'
noncomputable def zHe (PT:Addr):Sp:=fun vs H Q _=>∃(wa:Addr)(n:Int)(ts:List T3)(s:Int),vs=[.ref wa,.int s]/\zBh H wa n ts/\0<=s/\s<n/\Tb H PT /\
 ∀(l:Addr)(kn:List (Option Int))(H':Hp),SmT H H'->Tb H' PT->H' l=some (.tup (kn.map oV))->zI6 ts n s kn->Q (.ref l) H'
theorem zBh.smT (h:zBh H wa n ts)(k:SmT H H'):zBh H' wa n ts:=h.keepT fun b ys e=>by
 rcases k b _ e with ⟨ps,z⟩ | z
 . cases z
 . exact z
variable {o:Option Int}{j:Nat}{c fN:Addr}{fdN fdT:FuncData}
section
variable {P:Program}{w:World}{K:PySem.W.Frag}{mg:Str->Option Value}{base:Heap}{PT:Addr}
theorem scNear:zAR ["waiting"] ["waiting"] (defScope zHp):=⟨rfl,rfl,rfl,by decide +kernel,rfl,by decide +kernel,by decide +kernel⟩
theorem zLD (F:zJ1 K "nearest" "nearest" zHp f fd' c) (C:PySem.W.CodeHd base c PT)(hbm:zI2 mg base)(mMin:mg "min" = none) (mSorted:mg "sorted" = none):zAq P w K mg base CX0 2 f fd' ["waiting"] (zJ9 PT):=by
 refine F.ok scNear (fun vs H Q E h=>?_) (fun A outer s H vs Q E hr h=>?_)
 . obtain⟨d,n,kvs,wt,rfl,_⟩:=h
   rfl
 . obtain⟨d,n,kvs,wt,rfl,hd,W,hn0,hn,hne,T,k⟩:=h
   refine⟨_,zn (zAb (zH2 (k:=0) (j:=0) (P:=PT) (c:=c) (dn := "waiting") (pn := "place") rfl hr rfl mMin (zF (zAV (zCT rfl) (by rfl) mSorted (by decide +kernel) (zF (pv 0) zT)) zT) rfl C hbm rfl rfl rfl rfl rfl (by decide +kernel) (zLX rfl) rfl rfl rfl (fun _ _ _ _ _ _ _=>rfl))),?_⟩
   have hl:=W.len hn0
   refine⟨_,rfl,d,kvs,zEF kvs,rfl,hd,W.keys,by unfold zEF;rw[zB];omega,fun l ms hl' hp _=>?_⟩
   have mem:∀x,x∈ms->∃e,wt x=some e:=fun x hx=>W.mem.mp (hp.mem_iff.mp hx)
   refine⟨l,d,ms,kvs,fun x=>(wt x).getD 0,rfl,zJ,fun e=>?_,rfl,by rw[zZ (zh hd hl')];exact hd,fun x hx=>?_,T.same (zG hl'),fun M H2 hM hb sm T2=>?_⟩
   . subst e
     have:=hp.length_eq
     unfold zEF at this
     rw[zB] at this
     exact hne (List.eq_nil_of_length_eq_zero this.symm)
   . obtain⟨e,he⟩:=mem x hx
     show zBv kvs (Sum.inl x)=some (.int ((wt x).getD 0))
     rw[W.at_ x,he];rfl
   . obtain⟨e,he⟩:=mem M hM
     refine k M e H2 he (fun q f hq=>?_) ((SmT.of (zG hl')).trans sm) T2
     have hq':q∈ms:=hp.mem_iff.mpr (W.mem.mpr ⟨f,hq⟩)
     have:=hb q hq'
     simp only[he,hq,Option.getD_some] at this
     exact this
theorem zDb:zAR ["web", "start", "known", "waiting", "place", "other", "long", "far"] ["web", "start"] (defScope zHs):=⟨rfl,rfl,rfl,by decide +kernel,rfl,by decide +kernel,by decide +kernel⟩
theorem zG6 {kn:List (Option Int)}:(kn.map oV).set j (oV o)=(kn.set j o).map oV:=by rw[List.map_set]
theorem zEN:decide (oV o=V.non)=o.isNone:=by
 cases o with
 | none=>rfl
 | some d=>exact ze (by intro e;cases e)
theorem zLH {fT:Addr}(F:Fun K "lengths_from" "lengths_from" zHs f fd') (FN:zJ1 K "nearest" "nearest" zHp fN fdN c) (bN:zAP K fdN ["waiting"] []) (mN:mg "nearest" = some (.ref fN)) (FT:Fun K "ties_at" "ties_at" zFz fT fdT) (bT:zAP K fdT ["web", "place"] []) (mT:mg "ties_at" = some (.ref fT))
 (C:PySem.W.CodeHd base c PT)(hbm:zI2 mg base)(mMin:mg "min" = none) (mSorted:mg "sorted" = none) (mTuple:mg "tuple" = none):zAq P w K mg base CX0 3 f fd' ["web", "start"] (zHe PT):=by
 have GN:zAq P w K mg base CX0 2 fN fdN ["waiting"] (zJ9 PT):=zLD FN C hbm mMin mSorted
 have GT:zAq P w K mg base CX0 2 fT fdT ["web", "place"] zHa:=(zIA FT mSorted).mono (by decide)
 refine F.ok zDb (fun vs H Q E h=>?_) (fun cdv A outer s H vs Q E hr h=>?_)
 . obtain⟨wa,n,ts,st,rfl,_⟩:=h
   rfl
 . obtain⟨wa,n,ts,st,rfl,W,hs0,hs1,T,k⟩:=h
   obtain⟨ta,tys,hwa,_,_,G⟩:=id W
   have hu:=zDv hr
   have hn1:=G.n1
   have hn24:=G.n24
   refine⟨_,zW (zAN (i:=2) zDb.nd rfl (Or.inl rfl) (zBc op_rep (zB1 (zF zBl zT)) (zAH zAr (pv 0) zAA (fun _ _=>rfl))))
    (zW (zAN (i:=3) zDb.nd rfl (Or.inl rfl) (zK2 (zJU (pv 1) zAA zKz) rfl rfl (by decide) (by decide)))
    (zW (zJS PassesOwn.never (zJR (pv 3) (fun _=>rfl))
     (zW (zAN (i:=4) zDb.nd rfl (Or.inl rfl) (zx GN hr rfl mN FN.kp bN .nil zAl (zF (pv 3) zT)))
     (zW (zDJ (zJY (pv 3) (pv 4) ⟨rfl,rfl,rfl,rfl⟩) (zDj (pv 2) (pv 4) zCX))
     (zn (zBk PassesOwn.never rfl (zCE (zx GT hr rfl mT FT.kp bT .nil zAl (zF (pv 0) (zF (pv 4) zT)))) (zCf rfl (zAK (zr (i:=5) zDb.nd rfl (Or.inl rfl)) (zAK (zr (i:=6) zDb.nd rfl (Or.inl rfl)) zCB)))
      (zn (zCK (zAQ zCr (zAH zAO (pv 2) (pv 5) (fun _ _=>rfl)) zBl (zAc _))
       (zW (zAN (i:=7) zDb.nd rfl (Or.inl rfl) (zBc zCO (zAH zAO (pv 2) (pv 4) (fun _ _=>rfl)) (pv 6)))
       (zn (zCe hu (pv 3) (pv 5) (zAV (zFo rfl) (by rfl) mMin (by decide +kernel) (zF (pv 7) (zF (zJZ hu (pv 3) (pv 5) (pv 7) ⟨rfl,rfl,rfl,rfl⟩) zT))) rfl))) zA7)))))))
    (zn (zAb (zAf zAJ (by rfl) mTuple (by decide +kernel) (zF (pv 2) zT)))))),?_⟩
   refine⟨by show 1<=sizeLine;decide,fun l0 hl0=>?_⟩
   refine⟨_,rfl,wa,_,_,_,rfl,rfl,SqT.of (zG hl0 _ _ hwa),rfl,l0,n,_,rfl,rfl,zJ,by omega,by omega,?_,fun kl hkl=>?_⟩
   . have:sizeLine=16777216:=rfl
     show 1*n.toNat<=sizeLine
     omega
   have s1:zA1 H (upd (upd H l0 (.lst [.non])) kl (.lst (List.replicate n.toNat [V.non]).flatten)):=(zG hl0).trans (zG hkl)
   have erep:(List.replicate n.toNat [V.non]).flatten=(List.replicate n.toNat (none:Option Int)).map oV:=by
    generalize n.toNat=m
    induction m with
    | zero=>rfl
    | succ m ih=>rw[zBa,List.flatten_cons,ih,zBa];rfl
   rw[erep] at s1 ⊢
   have hk1:(upd (upd H l0 (.lst [.non])) kl (.lst ((List.replicate n.toNat (none:Option Int)).map oV))) kl=some (.lst ((List.replicate n.toNat (none:Option Int)).map oV)):=zJ
   generalize hH1:upd (upd H l0 (.lst [.non])) kl (.lst ((List.replicate n.toNat (none:Option Int)).map oV))=H1 at s1 hk1 ⊢
   intro wd hwd
   refine⟨_,rfl,zJ,[(Sum.inl st,.int 0)],rfl,by show 1<=15;decide,?_⟩
   have s2:zA1 H (upd (upd H1 wd (.dK [])) wd (.dK [(Sum.inl st,.int 0)])):=by rw[zCW];exact s1.trans (zG hwd)
   have nkw:kl≠wd:=zh hk1 hwd
   rw[show zEP [] [((Sum.inl st:Key),V.int 0)]=[((Sum.inl st:Key),V.int 0)] from rfl,zCW]
   rw[zCW] at s2
   refine⟨fun m σ H2=>∃(kn:List (Option Int))(kvs:List (Key×V))(wt:Int->Option Int)(v4 v5 v6 v7:Option V),σ=[some (.ref wa),some (.int st),some (.ref kl),some (.ref wd),v4,v5,v6,v7]/\m=n.toNat-cnt kn/\SmT H H2/\Tb H2 PT/\H2 kl=some (.lst (kn.map oV))/\H2 wd=some (.dK kvs)/\WD n kvs wt/\Dl ts n st kn wt,
    ⟨_,_,_,_,_,_,_,_,rfl,rfl,SmT.of s2,T.same s2,by rw[zZ nkw];exact hk1,zJ,WD.one hs0 hs1,Dl.start G hs0 hs1⟩,?_⟩
   rintro m σ H2 ⟨kn,kvs,wt,v4,v5,v6,v7,rfl,rfl,sm,T2,hk2,hw2,WW,D⟩
   cases hkb:kvs.isEmpty with
   | true=>
    refine⟨_,rfl,false,.inr (.inr ⟨kvs,hw2,by rw[hkb];rfl⟩),?_⟩
    refine zDU ?_
    have hkv:kvs=[]:=List.isEmpty_iff.mp hkb
    have hnone:∀q,wt q=none:=fun q=>by
     cases e:wt q with
     | none=>rfl
     | some d=>
      have:=WW.mem.mpr ⟨d,e⟩
      rw[hkv] at this
      simp[zEF] at this
    refine⟨_,rfl,kl,_,rfl,.inl ⟨SqL.of hk2,fun q hq=>?_⟩⟩
    exact k q kn _ (sm.trans (SmT.of (zG hq))) (T2.same (zG hq)) zJ (D.done G hnone)
   | false=>
    refine⟨_,rfl,true,.inr (.inr ⟨kvs,hw2,by rw[hkb];rfl⟩),?_⟩
    refine zFa ?_
    have hne:kvs≠[]:=by intro e;rw[e] at hkb;cases hkb
    refine⟨fun σ' H'=>∃(kn':List (Option Int))(kvs':List (Key×V))(wt':Int->Option Int)(v4 v5 v6 v7:Option V),σ'=[some (.ref wa),some (.int st),some (.ref kl),some (.ref wd),v4,v5,v6,v7]/\cnt kn'=cnt kn+1/\SmT H H'/\Tb H' PT/\H' kl=some (.lst (kn'.map oV))/\H' wd=some (.dK kvs')/\WD n kvs' wt'/\Dl ts n st kn' wt',?_,?_⟩
    . rintro σ' H' ⟨kn',kvs',wt',v4',v5',v6',v7',rfl,hc,sm',T',hk',hw',WW',D'⟩
      have h1:=zIo kn'
      have h2:=D'.ln
      exact⟨n.toNat-cnt kn',by omega,kn',kvs',wt',v4',v5',v6',v7',rfl,rfl,sm',T',hk',hw',WW',D'⟩
    refine⟨_,rfl,wd,n,kvs,wt,rfl,hw2,WW,by omega,hn24,hne,T2,fun M e H3 hM hmin sm3 T3=>?_⟩
    have hk3:H3 kl=some (.lst (kn.map oV)):=sm3.get hk2 (by intro ps z;cases z)
    have hw3:H3 wd=some (.dK kvs):=sm3.get hw2 (by intro ps z;cases z)
    obtain⟨hknM,hM0,hM1,hcnt,N0⟩:=D.enter G hM hmin
    have hval:zBv kvs (Sum.inl M)=some (.int e):=by rw[WW.at_ M,hM];rfl
    refine⟨_,rfl,wd,rfl,.inl ⟨kvs,.inl hw3⟩,_,rfl,kvs,Sum.inl M,_,hw3,rfl,hval,?_⟩
    have hlk:(kn.map oV).length=n.toNat:=by rw[zB];exact D.ln
    have hk3':(upd H3 wd (.dK (zCM kvs (Sum.inl M)))) kl=some (.lst (kn.map oV)):=by rw[zZ nkw];exact hk3
    refine⟨_,rfl,_,rfl,kl,_,M,M.toNat,rfl,rfl,hk3',zGg hM0 (by rw[hlk];omega),?_⟩
    rw[show V.int e=oV (some e) from rfl,zG6]
    have sm4:SmT H (upd (upd H3 wd (.dK (zCM kvs (Sum.inl M)))) kl (.lst ((kn.set M.toNat (some e)).map oV))):=by
     intro b o hb
     rcases (sm.trans sm3) b o hb with z | z
     . exact .inl z
     . right
       have n1:b≠wd:=fun q=>by
        have hbn:H b=none:=by
         rw[q]
         cases e':H wd with
         | none=>rfl
         | some o'=>have:=s1 wd o' e';rw[hwd] at this;cases this
        rw[hbn] at hb;cases hb
       have n2:b≠kl:=fun q=>by
        have hbn:H b=none:=by
         rw[q]
         cases e':H kl with
         | none=>rfl
         | some o'=>have:=zG (o:=.lst [.non]) hl0 kl o' e';rw[hkl] at this;cases this
        rw[hbn] at hb;cases hb
       rw[zZ n2,zZ n1];exact z
    have T4:Tb (upd (upd H3 wd (.dK (zCM kvs (Sum.inl M)))) kl (.lst ((kn.set M.toNat (some e)).map oV))) PT:=by
     refine T3.keep (fun o ho=>?_) fun c φ hc=>?_
     . obtain⟨ps,hps,_⟩:=T3
       have e1:=ho
       rw[hps] at e1;cases e1
       rw[zZ (zA5 ho hk3 (by intro z;cases z)),zZ (zA5 ho hw3 (by intro z;cases z))];exact ho
     . rw[zZ (zA5 hc hk3 (by intro z;cases z)),zZ (zA5 hc hw3 (by intro z;cases z))];exact hc
    have hk4:(upd (upd H3 wd (.dK (zCM kvs (Sum.inl M)))) kl (.lst ((kn.set M.toNat (some e)).map oV))) kl=some (.lst ((kn.set M.toNat (some e)).map oV)):=zJ
    have hw4:(upd (upd H3 wd (.dK (zCM kvs (Sum.inl M)))) kl (.lst ((kn.set M.toNat (some e)).map oV))) wd=some (.dK (zCM kvs (Sum.inl M))):=by rw[zZ nkw.symm,zJ]
    generalize upd (upd H3 wd (.dK (zCM kvs (Sum.inl M)))) kl (.lst ((kn.set M.toNat (some e)).map oV))=H4 at sm4 T4 hk4 hw4 ⊢
    refine⟨_,rfl,_,rfl,wa,n,ts,M,rfl,W.smT sm4,fun l zs ms H5 s5 hl5 hl5' T5 hp _=>?_⟩
    have hlz:=T5.length
    refine⟨l,rfl,⟨_,SqL.of hl5'⟩,zEz (K:=K) (a:=l) (xs:=zs) (fun i σ H6=>∃(kvs':List (Key×V))(wt':Int->Option Int)(v5 v6 v7:Option V),σ=[some (.ref wa),some (.int st),some (.ref kl),some (.ref wd),some (.int M),v5,v6,v7]/\(∀b o,b≠wd->H5 b=some o->H6 b=some o)/\H6 wd=some (.dK kvs')/\WD n kvs' wt'/\Dn ts n st M e (kn.set M.toNat (some e)) wt' (fun r=>∃j k,j<i/\ms[j]? = some k/\hd k=r))
     ⟨_,_,_,_,_,rfl,fun _ _ _ z=>z,s5 _ _ hw4,WW.drop,⟨⟨N0.dm.kd,N0.dm.wk,N0.dm.ord,fun q e' r l' hq ha=>(N0.dm.nb q e' r l' hq ha).imp (fun z=>⟨z.1,fun ⟨j,_,hj,_⟩=>absurd hj (zBw _)⟩) id,N0.dm.st,N0.dm.pd,N0.dm.mx⟩,N0.ln,N0.bk,N0.bd,N0.bw⟩⟩
     (fun i σ H6 _ ⟨_,_,_,_,_,_,s6,_⟩=>SqL.of (s6 l _ (zA5 hl5' (s5 _ _ hw4) (by intro z;cases z)) hl5')) ?turn ?after⟩
    case after=>
     rintro σ H6 ⟨kvs',wt',v5,v6,v7,rfl,s6,hw6,WW6,N6⟩
     have hk5:H5 kl=some (.lst ((kn.set M.toNat (some e)).map oV)):=s5 _ _ hk4
     refine⟨_,kvs',wt',_,_,_,_,rfl,hcnt,?_,?_,s6 kl _ nkw hk5,hw6,WW6,N6.leave fun r c ha=>?_⟩
     . intro b o hb
       rcases (sm4.trans (SmT.of s5)) b o hb with z | z
       . exact .inl z
       . right
         refine s6 b o (fun q=>?_) z
         have hbn:H b=none:=by
          rw[q]
          cases e':H wd with
          | none=>rfl
          | some o'=>have:=s1 wd o' e';rw[hwd] at this;cases this
         rw[hbn] at hb;cases hb
     . refine (T4.same s5).keep (fun o ho=>?_) fun c φ hc=>?_
       . obtain⟨ps,hps,_⟩:=T4.same s5
         refine s6 PT o (fun q=>?_) ho
         rw[q,s5 _ _ hw4] at hps;cases hps
       . refine s6 c _ (fun q=>?_) hc
         rw[q,s5 _ _ hw4] at hc;cases hc
     . have hm:[r,c]∈ms:=hp.mem_iff.mpr (zER.mpr ⟨r,c,rfl,ha⟩)
       obtain⟨j,hj,ej⟩:=zd hm
       exact⟨j,[r,c],by omega,by rw[zA hj,ej],rfl⟩
    case turn=>
     rintro i y σ H6 hi ⟨kvs',wt',v5,v6,v7,rfl,s6,hw6,WW6,N6⟩
     obtain⟨ya,ky,rfl,hky,hya,_⟩:=T5.get hi
     obtain⟨r,c,rfl,ha⟩:=zER.mp (hp.mem_iff.mp (zS hky))
     have hadj:=G.adj ha
     have hk6:H6 kl=some (.lst ((kn.set M.toNat (some e)).map oV)):=s6 kl _ nkw (s5 _ _ hk4)
     have hln:(kn.set M.toNat (some e)).length=n.toNat:=N6.ln
     have seen_of:∀{x:Int},(x=r\/∃j k,j<i/\ms[j]? = some k/\hd k=x)->∃j k,j<i+1/\ms[j]? = some k/\hd k=x:=fun {x} z=>by
      rcases z with rfl | ⟨j,k',hj,hk',e'⟩
      . exact⟨i,[x,c],zB8 _,hky,rfl⟩
      . exact⟨j,k',zA0 hj,hk',e'⟩
     have sub:∀{x:Int},(∃j k,j<i+1/\ms[j]? = some k/\hd k=x)->(∃j k,j<i/\ms[j]? = some k/\hd k=x)\/x=r:=fun {x} ⟨j,k',hj,hk',e'⟩=>by
      by_cases hji:j<i
      . exact .inl ⟨j,k',hji,hk',e'⟩
      . have:j=i:=by omega
        subst this
        rw[hky] at hk';cases hk'
        exact .inr e'.symm
     have conv:∀{wt2:Int->Option Int},Dn ts n st M e (kn.set M.toNat (some e)) wt2 (fun x=>(∃j k,j<i/\ms[j]? = some k/\hd k=x)\/x=r)->Dn ts n st M e (kn.set M.toNat (some e)) wt2 (fun x=>∃j k,j<i+1/\ms[j]? = some k/\hd k=x):=fun {wt2} N=>
      ⟨⟨N.dm.kd,N.dm.wk,N.dm.ord,fun q e' r' l' hq ha'=>(N.dm.nb q e' r' l' hq ha').imp (fun z=>⟨z.1,fun y=>z.2 (sub y)⟩) id,N.dm.st,N.dm.pd,N.dm.mx⟩,N.ln,N.bk,N.bd,N.bw⟩
     refine⟨ya,_,rfl,SqT.of (s6 _ _ (zA5 hya (s5 _ _ hw4) (by intro z;cases z)) hya),rfl,_,_,rfl,_,_,rfl,rfl,?_⟩
     obtain⟨o,ho⟩:∃o,(kn.set M.toNat (some e))[r.toNat]? = some o:=⟨_,zA (by omega)⟩
     have hfnl:fnl (kn.set M.toNat (some e)) r=o:=by
      unfold fnl
      rw[if_pos hadj.2.2.1,zD,ho];rfl
     refine⟨_,rfl,_,rfl,kl,_,_,oV o,rfl,rfl,SqL.of hk6,zBI hadj.2.2.1 (by rw[zO,ho];rfl),rfl,_,rfl,?_⟩
     rw[zEN]
     cases o with
     | some f0=>
      refine zDU ?_
      exact⟨kvs',wt',_,_,_,rfl,s6,hw6,WW6,conv (N6.skip hfnl)⟩
     | none=>
      refine zFa ?_
      have hkM:(kn.set M.toNat (some e))[M.toNat]? = some (some e):=by
       rw[zA2 (by have:=D.ln;omega)]
      refine⟨_,rfl,_,rfl,kl,_,_,oV (some e),rfl,rfl,SqL.of hk6,zBI hM0 (by rw[zO,hkM];rfl),_,rfl,_,_,rfl,rfl,?_⟩
      refine⟨_,rfl,_,rfl,wd,rfl,.inl ⟨kvs',.inl hw6⟩,_,rfl,_,rfl,_,zCz.k (k:=Sum.inl r) hw6,?_⟩
      have hg:((zBv kvs' (Sum.inl r)).getD (V.int (e+c)))=V.int ((wt' r).getD (e+c)):=by
       rw[WW6.at_ r]
       cases wt' r <;> rfl
      rw[hg]
      refine⟨_,_,rfl,?_⟩
      have hwl:=WW6.len (by omega)
      refine⟨_,rfl,_,rfl,wd,_,rfl,zGr.k (k:=Sum.inl r) hw6 (zAL (by omega)),?_⟩
      exact⟨_,_,_,_,_,rfl,fun b o' hb z=>by rw[zZ hb];exact s6 b o' hb z,zJ,WW6.put hadj.2.2.1 hadj.2.2.2.1,conv (N6.wait G ha hfnl)⟩
end
noncomputable def spBwr:Sp:=fun vs H Q _=>∃(lh lt:Addr)(n:Int)(ts:List T3)(x y:Int)(kn1 kn2:List (Option Int)),vs=[.ref lh,.ref lt,.int y]/\GW n ts/\0<=x/\x<n/\0<=y/\y<n/\H lh=some (.tup (kn1.map oV))/\H lt=some (.tup (kn2.map oV))/\zI6 ts n x kn1/\zI6 ts n y kn2 /\
 ∀(l:Addr)(xs:List Int)(H':Hp),zA1 H H'->H' l=some (.tup (xs.map V.int))->xs.Pairwise (· < ·)->(∀p,p∈xs↔Btw ts x y p)->Q (.ref l) H'
noncomputable def spNbr:Sp:=fun vs H Q _=>∃(wa lt:Addr)(n:Int)(ts:List T3)(x y:Int)(kn:List (Option Int)),vs=[.ref wa,.int x,.ref lt]/\zBh H wa n ts/\0<=x/\x<n/\0<=y/\y<n/\H lt=some (.tup (kn.map oV))/\zI6 ts n y kn /\
 ∀(l:Addr)(xs:List Int)(H':Hp),zA1 H H'->H' l=some (.tup (xs.map V.int))->xs.Pairwise (· < ·)->(∀p,p∈xs↔Nxt ts x y p)->Q (.ref l) H'
variable {y:Int}
theorem zCH {s:Int}{kn:List (Option Int)}(h:zI6 ts n s kn)(h0:0<=y)(h1:y<n):(kn.map oV)[y.toNat]? = some (oV (fnl kn y)):=by
 have hl:=h.ln
 have hlt:y.toNat<kn.length:=by omega
 rw[zO,zA hlt]
 unfold fnl
 rw[if_pos h0,zD,zA hlt]
 rfl
theorem zC3 (q:Nat):lowTo (q+1)=lowTo q++[(q:Int)]:=by unfold lowTo;rw[List.range_succ,zQ];rfl
theorem zDV (q:Nat):(lowTo q).length=q:=by unfold lowTo;rw[zB,zAn]
section
variable {P:Program}{w:World}{K:PySem.W.Frag}{mg:Str->Option Value}{base:Heap}{PT:Addr}
theorem scBwr:zAR ["here", "there", "other", "reached"] ["here", "there", "other"] (defScope sBwr):=⟨rfl,rfl,rfl,by decide +kernel,rfl,by decide +kernel,by decide +kernel⟩
theorem ok_bwr (F:Fun K "between_rows" "between_rows" sBwr f fd') (mRange:mg "range" = none) (mTuple:mg "tuple" = none) (mLen:mg "len" = none):zAq P w K mg base CX0 1 f fd' ["here", "there", "other"] spBwr:=by
 refine F.ok scBwr (fun vs H Q E h=>?_) (fun cdv A outer s H2 vs Q E hr h=>?_)
 . obtain⟨lh,lt,n,ts,x,y,kn1,kn2,rfl,_⟩:=h
   rfl
 . obtain⟨lh,lt,n,ts,x,y,kn1,kn2,rfl,G,hx0,hx1,hy0,hy1,hh2,hl2,L1,L2,k⟩:=h
   have hn24:=G.n24
   have hln:=L1.ln
   refine⟨_,zW (zCK (zAQ zCr (zAH zAr (pv 0) (pv 2) (fun _ _=>rfl)) zBl (zAc _)) (zn (zAb (zBC zT))) zA7)
    (zW (zCZ (i:=3) (own:=["place"]) (cn:=["here"]) (ci:=[0]) scBwr.nd rfl (Or.inl rfl) rfl (csc rfl rfl) ⟨rfl,rfl,rfl,trivial⟩ rfl
     (zAm rfl mRange (zF (zAV zBE (by rfl) mLen PySem.boot_len (zF (pv 0) zT)) zT)) (fun _ _ _ _=>zr (i:=0) (zBJ rfl) rfl (Or.inl rfl))
     (fun _ _ _ _=>zB0 (zAQ zEr (zAH zBf (pv 1) (pv 0) (fun _ _=>rfl)) zBl (zAc _))) (fun _ _ _ _=>pv 0))
    (zn (zAb (zAf zAJ (by rfl) mTuple (by decide +kernel) (zF
     (zBA (own:=["place"]) (cn:=["here", "there", "other"]) (ci:=[0,1,2]) rfl (csc rfl rfl) ⟨rfl,rfl,rfl,rfl,rfl,rfl,rfl,rfl,rfl,trivial⟩ rfl
      (zCE (pv 3)) (fun _ _ _ _=>zr (i:=0) (zBJ rfl) rfl (Or.inl rfl))
      (fun _ _ _ _=>zB0 (zAQ zCv (zBc zCO (zAH zBf (pv 1) (pv 0) (fun _ _=>rfl)) (zAH zBf (pv 2) (pv 0) (fun _ _=>rfl))) (zAH zBf (pv 1) (pv 3) (fun _ _=>rfl)) (zAc _)))
      (fun _ _ _ _=>pv 0)) zT))))),?_⟩
   have hy:=L1.len y hy0 hy1
   refine⟨_,rfl,_,rfl,lh,_,_,oV (fnl kn1 y),rfl,rfl,SqT.of hh2,zBI hy0 (zCH L1 hy0 hy1),rfl,_,rfl,?_⟩
   rw[zEN]
   cases hd:fnl kn1 y with
   | none=>
    refine zFa ?_
    rw[hd] at hy
    refine⟨zc _,fun l hl=>k l [] _ (zG hl) zJ zBX fun p=>⟨fun z=>by simp at z,fun ⟨a,b,_,_,z⟩=>absurd z.1 (hy _)⟩⟩
   | some d=>
    refine zDU ?_
    rw[hd] at hy
    have hyD:WM.IsD ts x y d:=hy
    refine⟨_,rfl,lh,_,rfl,.inr (SqT.of hh2),n,by rw[zB,hln];exact congrArg (fun z=>[V.int z]) (Int.toNat_of_nonneg (by omega)),by omega,by omega,[.ref lh],rfl,fun D hD=>?_⟩
    refine zBe (lo:=0) (n:=n.toNat) (fun q ys H3=>q<=n.toNat/\ys=((lowTo q).filter fun o=>(fnl kn1 o).isSome).map V.int/\zA1 H2 H3/\H3 D=some (.lst ys)) ⟨zc _,rfl,zG hD,zJ⟩ (fun q ys H3 h=>?_) (fun q ys H3 hq h=>?_) (fun ys H3 h=>?_)
    . obtain⟨hq,rfl,_⟩:=h
      rw[zB]
      refine zAD (zq _ _) (zAL ?_)
      rw[zDV];omega
    . obtain⟨_,rfl,s3,hD3⟩:=h
      rw[zAi]
      refine⟨⟨rfl,rfl⟩,?_⟩
      refine⟨_,rfl,_,rfl,lh,_,_,oV (fnl kn1 q),rfl,rfl,SqT.of (s3 _ _ hh2),zBI (by omega) (zCH L1 (by omega) (by omega)),rfl,_,rfl,?_⟩
      rw[zEN]
      cases e:fnl kn1 q with
      | none=>
       refine zDU ?_
       refine⟨hq,?_,s3,hD3⟩
       rw[zC3,zAh,zBU (by rw[e];decide),zBx,zAB]
      | some a=>
       refine zFa ?_
       refine⟨_,rfl,hD3,hq,?_,zAF s3 hD,zJ⟩
       rw[zC3,zAh,zBT (by rw[e];rfl),zBx,zQ]
       rfl
    . obtain⟨_,rfl,s3,hD3⟩:=h
      generalize hR:((lowTo n.toNat).filter fun o=>(fnl kn1 o).isSome)=R at hD3 ⊢
      have hRm:∀p,p∈R↔(0<=p/\p<n)/\∃a,fnl kn1 p=some a:=fun p=>by
       rw[<-hR,zAu,mem_ints,zA4]
       constructor
       . rintro ⟨z1,z2⟩;exact⟨by omega,z2⟩
       . rintro ⟨z1,z2⟩;exact⟨by omega,z2⟩
      have hRr:R.Pairwise (· < ·):=by rw[<-hR];exact (zDt _).sublist zB4
      have hRl:R.length<=24:=by
       rw[<-hR]
       exact zy (zq _ _) (by rw[zDV];omega)
      have both:∀p,p∈R->∃a b,fnl kn1 p=some a/\fnl kn2 p=some b/\WM.IsD ts x p a/\WM.IsD ts p y b:=fun p hp=>by
       obtain⟨⟨h0,h1⟩,a,ha⟩:=(hRm p).mp hp
       have l1:=L1.len p h0 h1
       rw[ha] at l1
       obtain⟨b,hb,_⟩:=Len.via (show WM.IsD ts x p a from l1) hyD (Len.symm (L2.len p h0 h1))
       have l2:=L2.len p h0 h1
       rw[hb] at l2
       exact⟨a,b,ha,hb,l1,WM.IsD.symm l2⟩
      refine⟨_,rfl,D,rfl,⟨_,SqL.of hD3⟩,[.ref lh,.ref lt,.int y],rfl,fun D2 hD2=>?_⟩
      have nDD:D≠D2:=zh hD3 hD2
      refine zBz (a:=D) (xs:=R.map V.int) (fun i ys H4=>ys=((R.take i).filter fun p=>decide ((fnl kn1 p).getD 0+(fnl kn2 p).getD 0=d)).map V.int/\zA1 H3 H4/\H4 D2=some (.lst ys)) ⟨rfl,zG hD2,zJ⟩ (fun i ys H4 h=>?_) (fun i ys H4 h=>?_) (fun i v ys H4 hv h=>?_) (fun ys H4 h=>?_)
      . obtain⟨_,s4,_⟩:=h
        exact SqL.of (s4 _ _ hD3)
      . obtain⟨rfl,_⟩:=h
        rw[zB]
        refine zAD (zq _ _) (zAL ?_)
        rw[zw];omega
      . obtain⟨rfl,s4,hD4⟩:=h
        obtain⟨p,hp,rfl⟩:∃p,R[i]? = some p/\V.int p=v:=by
         rw[zO] at hv
         cases e:R[i]? with
         | none=>rw[e] at hv;cases hv
         | some p=>rw[e] at hv;exact⟨p,rfl,zR hv⟩
        have hpR:=zS hp
        obtain⟨⟨h0,h1⟩,_⟩:=(hRm p).mp hpR
        obtain⟨a,b,ha,hb,_,_⟩:=both p hpR
        have hlh4:H4 lh=some (.tup (kn1.map oV)):=s4 _ _ (s3 _ _ hh2)
        have hlt4:H4 lt=some (.tup (kn2.map oV)):=s4 _ _ (s3 _ _ hl2)
        refine⟨⟨rfl,rfl⟩,?_⟩
        refine⟨_,rfl,_,rfl,lh,_,_,.int a,rfl,rfl,SqT.of hlh4,zBI h0 (by rw[zCH L1 h0 h1,ha];rfl),?_⟩
        refine⟨_,rfl,_,rfl,lt,_,_,.int b,rfl,rfl,SqT.of hlt4,zBI h0 (by rw[zCH L2 h0 h1,hb];rfl),_,_,rfl,rfl,?_⟩
        refine⟨_,rfl,_,rfl,lh,_,_,.int d,rfl,rfl,SqT.of hlh4,zBI hy0 (by rw[zCH L1 hy0 hy1,hd];rfl),rfl,_,rfl,?_⟩
        rw[zGm]
        have etk:(R.take (i+1)).filter (fun p=>decide ((fnl kn1 p).getD 0+(fnl kn2 p).getD 0=d))=(R.take i).filter (fun p=>decide ((fnl kn1 p).getD 0+(fnl kn2 p).getD 0=d))++(if a+b=d then [p] else []):=by
         rw[zAI,hp,zAh]
         show _++List.filter _ [p]=_
         rw[zBn,ha,hb]
         by_cases c:a+b=d
         . rw[if_pos (by simpa using c),if_pos c];rfl
         . rw[if_neg (by simpa using c),if_neg c];rfl
        refine zDO (fun c=>?_) (fun c=>?_)
        . have c':=of_decide_eq_true c
          refine⟨_,rfl,hD4,?_,zAF s4 hD2,zJ⟩
          rw[etk,if_pos c',zQ];rfl
        . have c':¬ a+b=d:=fun z=>c (zV z)
          refine⟨?_,s4,hD4⟩
          rw[etk,if_neg c',zAB]
      . obtain⟨rfl,s4,hD4⟩:=h
        rw[zB,zf (zL _)] at hD4
        refine⟨D2,_,rfl,.inl ⟨SqL.of hD4,fun q hq=>?_⟩⟩
        refine k q _ _ ((s3.trans s4).trans (zG hq)) zJ (hRr.sublist zB4) fun p=>?_
        rw[zAu]
        constructor
        . rintro ⟨hp,c⟩
          obtain⟨a,b,ha,hb,ia,ib⟩:=both p hp
          have c':=of_decide_eq_true c
          rw[ha,hb] at c'
          exact⟨a,b,ia,ib,by rw[show a+b=d from c'];exact hyD⟩
        . rintro ⟨a,b,ia,ib,iab⟩
          have hp:=ia.1.in_ G hx0 hx1
          have l1:=Len.uniq (L1.len p hp.1 hp.2) (show Len ts x p (some a) from ia)
          have l2:=Len.uniq (L2.len p hp.1 hp.2) (show Len ts y p (some b) from WM.IsD.symm ib)
          refine⟨(hRm p).mpr ⟨hp,a,l1⟩,zV ?_⟩
          rw[l1,l2]
          exact WM.IsD.uniq iab hyD
theorem scNbr:zAR ["web", "one", "there"] ["web", "one", "there"] (defScope sNbr):=⟨rfl,rfl,rfl,by decide +kernel,rfl,by decide +kernel,by decide +kernel⟩
noncomputable def sl1 (k:List Int):Int:=k.getD 1 0
theorem ok_nbr {fT:Addr}(F:Fun K "next_by_row" "next_by_row" sNbr f fd')
 (FT:Fun K "ties_at" "ties_at" zFz fT fdT) (bT:zAP K fdT ["web", "place"] []) (mT:mg "ties_at" = some (.ref fT)) (mSorted:mg "sorted" = none) (mTuple:mg "tuple" = none):zAq P w K mg base CX0 3 f fd' ["web", "one", "there"] spNbr:=by
 have GT:zAq P w K mg base CX0 2 fT fdT ["web", "place"] zHa:=(zIA FT mSorted).mono (by decide)
 refine F.ok scNbr (fun vs H Q E h=>?_) (fun cdv A outer s H1 vs Q E hr h=>?_)
 . obtain⟨wa,lt,n,ts,x,y,kn,rfl,_⟩:=h
   rfl
 . obtain⟨wa,lt,n,ts,x,y,kn,rfl,W,hx0,hx1,hy0,hy1,hl1,L,k⟩:=h
   obtain⟨ta,tys,hwa,_,_,G⟩:=id W
   refine⟨_,zW (zCK (zAQ zCr (zAH zAr (pv 2) (pv 1) (fun _ _=>rfl)) zBl (zAc _)) (zn (zAb (zBC zT))) zA7)
    (zn (zAb (zAf zAJ (by rfl) mTuple (by decide +kernel) (zF
     (zBA (own:=["place", "long"]) (cn:=["there", "one"]) (ci:=[2,1]) rfl (csc rfl rfl) ⟨rfl,rfl,rfl,rfl,rfl,rfl,trivial⟩ rfl
      (zCE (zx GT hr rfl mT FT.kp bT .nil zAl (zF (pv 0) (zF (pv 1) zT))))
      (fun _ _ _ _=>zEp (n:=2) rfl (zAK (zr (i:=0) (zBJ rfl) rfl (Or.inl rfl)) (zAK (zr (i:=1) (zBJ rfl) rfl (Or.inl rfl)) zCB)))
      (fun _ _ _ _=>zB0 (zAQ zCv (zBc zCO (pv 1) (zAH zBf (pv 2) (pv 0) (fun _ _=>rfl))) (zAH zBf (pv 2) (pv 3) (fun _ _=>rfl)) (zAc _)))
      (fun _ _ _ _=>pv 0)) zT)))),?_⟩
   have hx:=L.len x hx0 hx1
   refine⟨_,rfl,_,rfl,lt,_,_,oV (fnl kn x),rfl,rfl,SqT.of hl1,zBI hx0 (zCH L hx0 hx1),rfl,_,rfl,?_⟩
   rw[zEN]
   cases hd:fnl kn x with
   | none=>
    refine zFa ?_
    rw[hd] at hx
    refine⟨zc _,fun l hl=>k l [] _ (zG hl) zJ zBX fun p=>⟨fun z=>by simp at z,fun ⟨a,b,_,_,z⟩=>absurd z.1.symm (hx _)⟩⟩
   | some d=>
    refine zDU ?_
    rw[hd] at hx
    have hxD:WM.IsD ts x y d:=WM.IsD.symm hx
    refine⟨_,rfl,_,rfl,wa,n,ts,x,rfl,W,fun l zs ms H2 s2 hl0 hl2 TT hp hrs=>?_⟩
    have hlz:=TT.length
    have hlt2:H2 lt=some (.tup (kn.map oV)):=s2 _ _ hl1
    have hlm:ms.length<64:=by
     have e2:=zGj (n:=n) x (ts:=ts) fun t ht=>(G.rng t ht).2.1
     have:=G.len
     rw[hp.length_eq];omega
    have near:∀k,k∈ms->∃z c b,k=[z,c]/\Adj ts x z c/\fnl kn z=some b/\WM.IsD ts z y b:=fun k hk=>by
     obtain⟨z,c,e,ha⟩:=zER.mp (hp.mem_iff.mp hk)
     have hadj:=G.adj ha
     have lz:=L.len z hadj.2.2.1 hadj.2.2.2.1
     cases hz:fnl kn z with
     | none=>rw[hz] at lz;exact absurd (hx.1.snoc ha) (lz _)
     | some b=>rw[hz] at lz;exact⟨z,c,b,e,ha,hz,WM.IsD.symm lz⟩
    refine⟨l,rfl,⟨_,SqL.of hl2⟩,[.ref lt,.int x],rfl,fun D hD=>?_⟩
    have nlD:l≠D:=zh hl2 hD
    refine zBz (a:=l) (xs:=zs) (fun i ys H3=>ys=(((ms.take i).filter fun k=>decide (sl1 k+(fnl kn (WM.hd k)).getD 0=d)).map WM.hd).map V.int/\H3=upd H2 D (.lst ys)) ⟨rfl,rfl⟩ (fun i ys H3 h=>?_) (fun i ys H3 h=>?_) (fun i v ys H3 hv h=>?_) (fun ys H3 h=>?_)
    . obtain⟨_,rfl⟩:=h
      exact SqL.of (by rw[zZ nlD];exact hl2)
    . obtain⟨rfl,_⟩:=h
      rw[zB,zB]
      refine zAD (zq _ _) (zAL ?_)
      rw[zw];omega
    . obtain⟨rfl,rfl⟩:=h
      obtain⟨ya,ky,rfl,hky,hya,_⟩:=TT.get hv
      obtain⟨z,c,b,rfl,ha,hb,ib⟩:=near ky (zS hky)
      have hadj:=G.adj ha
      refine⟨ya,_,rfl,SqT.of (by rw[zZ (zh hya hD)];exact hya),rfl,_,_,rfl,_,_,rfl,rfl,⟨rfl,rfl⟩,?_⟩
      have hltD:(upd H2 D (.lst ((((ms.take i).filter fun k=>decide (sl1 k+(fnl kn (WM.hd k)).getD 0=d)).map WM.hd).map V.int))) lt=some (.tup (kn.map oV)):=by rw[zZ (zh hlt2 hD)];exact hlt2
      refine⟨_,rfl,_,rfl,_,rfl,lt,_,_,.int b,rfl,rfl,SqT.of hltD,zBI hadj.2.2.1 (by rw[zCH L hadj.2.2.1 hadj.2.2.2.1,hb];rfl),_,_,rfl,rfl,?_⟩
      refine⟨_,rfl,_,rfl,lt,_,_,.int d,rfl,rfl,SqT.of hltD,zBI hx0 (by rw[zCH L hx0 hx1,hd];rfl),rfl,_,rfl,?_⟩
      rw[zGm]
      have etk:(ms.take (i+1)).filter (fun k=>decide (sl1 k+(fnl kn (WM.hd k)).getD 0=d))=(ms.take i).filter (fun k=>decide (sl1 k+(fnl kn (WM.hd k)).getD 0=d))++(if c+b=d then [[z,c]] else []):=by
       rw[zAI,hky,zAh]
       show _++List.filter _ [[z,c]]=_
       rw[zBn]
       have e1:decide (sl1 [z,c]+(fnl kn (WM.hd [z,c])).getD 0=d)=decide (c+b=d):=by
        show decide (c+(fnl kn z).getD 0=d)=_
        rw[hb];rfl
       rw[e1]
       by_cases cc:c+b=d
       . rw[if_pos (by simpa using cc),if_pos cc];rfl
       . rw[if_neg (by simpa using cc),if_neg cc];rfl
      refine zDO (fun cc=>?_) (fun cc=>?_)
      . have c':=of_decide_eq_true cc
        refine⟨_,rfl,zJ,?_,zCW⟩
        rw[etk,if_pos c',zQ,zQ];rfl
      . have c':¬ c+b=d:=fun q=>cc (zV q)
        refine⟨?_,rfl⟩
        rw[etk,if_neg c',zAB]
    . obtain⟨rfl,rfl⟩:=h
      refine⟨D,_,rfl,.inl ⟨SqL.of zJ,fun q hq=>?_⟩⟩
      rw[hlz,zf (zL _)] at hq ⊢
      have s4:=(zG (o:=.lst ((((ms.filter fun k=>decide (sl1 k+(fnl kn (WM.hd k)).getD 0=d)).map WM.hd).map V.int))) hD).trans (zG (o:=.tup ((((ms.filter fun k=>decide (sl1 k+(fnl kn (WM.hd k)).getD 0=d)).map WM.hd).map V.int))) hq)
      have hk:∀k∈ms,∃y l,k=[y,l]:=fun k hk=>by
       obtain⟨z,c,b,e,_⟩:=near k hk
       exact⟨z,c,e⟩
      have hrise:=zHD hrs hk ((hp.map WM.hd).nodup_iff.mpr (zJq G x))
      refine k q _ _ (s2.trans s4) zJ (hrise.sublist (zB4.map _)) fun p=>?_
      rw[zi]
      constructor
      . rintro ⟨k0,hk0,rfl⟩
        obtain⟨hm,c⟩:=zAu.mp hk0
        obtain⟨z,c0,b,rfl,ha,hb,ib⟩:=near k0 hm
        have c':=of_decide_eq_true c
        have c2:c0+b=d:=by
         have:c0+(fnl kn z).getD 0=d:=c'
         rw[hb] at this;exact this
        exact⟨c0,b,ha,ib,by rw[c2];exact hxD⟩
      . rintro ⟨c0,b,ha,ib,iab⟩
        have hm:[p,c0]∈ms:=hp.mem_iff.mpr (zER.mpr ⟨p,c0,rfl,ha⟩)
        refine⟨[p,c0],zAu.mpr ⟨hm,zV ?_⟩,rfl⟩
        have hadj:=G.adj ha
        have lp:=Len.uniq (L.len p hadj.2.2.1 hadj.2.2.2.1) (show Len ts y p (some b) from WM.IsD.symm ib)
        show c0+(fnl kn p).getD 0=d
        rw[lp]
        exact WM.IsD.uniq iab hxD
end
noncomputable def zCk (H:Hp)(rs:List Addr)(M:List (List (Option Int))):Prop:=rs.length=M.length/\∀(i:Nat)(r:Addr)(row:List (Option Int)),rs[i]? = some r->M[i]? = some row->H r=some (.tup (row.map oV))
variable {M:List (List (Option Int))}{rs:List Addr}
theorem zCk.smT (h:zCk H rs M)(k:SmT H H'):zCk H' rs M:=⟨h.1,fun i r row a b=>k.get (h.2 i r row a b) (by intro ps z;cases z)⟩
noncomputable def zHc (PT:Addr):Sp:=fun vs H Q _=>∃(wa:Addr)(n:Int)(ts:List T3),vs=[.ref wa]/\zBh H wa n ts/\Tb H PT /\
 ∀(l:Addr)(rs:List Addr)(M:List (List (Option Int)))(H':Hp),SmT H H'->Tb H' PT->H' l=some (.tup (rs.map V.ref))->zCk H' rs M->Rows ts n M->Q (.ref l) H'
variable {fF:Addr}{fdF:FuncData}
section
variable {P:Program}{w:World}{K:PySem.W.Frag}{mg:Str->Option Value}{base:Heap}{PT:Addr}
theorem scLens:zAR ["web"] ["web"] (defScope zHq):=⟨rfl,rfl,rfl,by decide +kernel,rfl,by decide +kernel,by decide +kernel⟩
theorem zLE (F:Fun K "lengths" "lengths" zHq f fd') (FF:Fun K "lengths_from" "lengths_from" zHs fF fdF) (bF:zAP K fdF ["web", "start"] []) (mF:mg "lengths_from" = some (.ref fF)) (GF:zAq P w K mg base CX0 3 fF fdF ["web", "start"] (zHe PT))
 (mRange:mg "range" = none) (mTuple:mg "tuple" = none):zAq P w K mg base CX0 4 f fd' ["web"] (zHc PT):=by
 refine F.ok scLens (fun vs H Q E h=>?_) (fun cdv A outer s H vs Q E hr h=>?_)
 . obtain⟨wa,n,ts,rfl,_⟩:=h
   rfl
 . obtain⟨wa,n,ts,rfl,W,T,k⟩:=h
   obtain⟨ta,tys,hwa,_,_,G⟩:=id W
   have hn24:=G.n24
   have hn1:=G.n1
   refine⟨_,zn (zAb (zAf zAJ (by rfl) mTuple (by decide +kernel) (zF
    (zBA (own:=["place"]) (cn:=["web"]) (ci:=[0]) rfl (csc rfl rfl) ⟨rfl,rfl,rfl,trivial⟩ rfl
     (zAm rfl mRange (zF (zAH zAr (pv 0) zAA (fun _ _=>rfl)) zT)) (fun _ _ _ _=>zr (i:=0) (zBJ rfl) rfl (Or.inl rfl)) (fun _ _ _ _=>zBK)
     (fun _ _ _ _=>zx GF hr rfl mF FF.kp bF .nil zAl (zF (pv 1) (zF (pv 0) zT)))) zT))),?_⟩
   refine⟨_,rfl,wa,_,_,_,rfl,rfl,SqT.of hwa,rfl,n,rfl,by omega,by omega,[.ref wa],rfl,fun D hD=>?_⟩
   refine zBe (lo:=0) (n:=n.toNat) (fun q ys H1=>q<=n.toNat/\∃(rs:List Addr)(M:List (List (Option Int))),ys=rs.map V.ref/\rs.length=q/\zCk H1 rs M/\(∀x:Nat,x<q->zI6 ts n x (M.getD x []))/\SmT H H1/\Tb H1 PT/\H1 D=some (.lst ys))
    ⟨zc _,[],[],rfl,rfl,⟨rfl,fun i r row h=>by simp at h⟩,fun x hx=>absurd hx (zBw _),SmT.of (zG hD),T.same (zG hD),zJ⟩ (fun q ys H1 h=>?_) (fun q ys H1 hq h=>?_) (fun ys H1 h=>?_)
   . obtain⟨hq,rs,M,rfl,hl,_⟩:=h
     rw[zB,hl]
     exact zAL (by omega)
   . obtain⟨_,rs,M,rfl,hl,R,L,sm,T1,hD1⟩:=h
     rw[zAi]
     refine⟨⟨rfl,rfl⟩,?_⟩
     refine zD8 ?_
     refine⟨_,rfl,_,rfl,wa,n,ts,q,rfl,W.smT sm,by omega,by omega,T1,fun l kn H2 sm2 T2 hl2 L2=>?_⟩
     have hD2:H2 D=some (.lst (rs.map V.ref)):=sm2.get hD1 (by intro ps z;cases z)
     refine⟨hD2,hq,rs++[l],M++[kn],by rw[zQ];rfl,by rw[zI,hl];rfl,⟨by rw[zI,zI,R.1];rfl,fun i r row h1 h2=>?_⟩,fun x hx=>?_,(sm.trans sm2).chg hD,T2.chg hD2,zJ⟩
     . have key:H2 r=some (.tup (row.map oV)):=by
        by_cases hi:i<rs.length
        . rw[zN hi] at h1
          rw[zN (by rw[<-R.1];exact hi)] at h2
          exact sm2.get (R.2 i r row h1 h2) (by intro ps z;cases z)
        . rw[zM (by omega)] at h1
          rw[zM (by rw[<-R.1];omega),<-R.1] at h2
          cases hz:i-rs.length with
          | zero=>
           rw[hz] at h1 h2
           have e1:l=r:=by simpa using h1
           have e2:kn=row:=by simpa using h2
           subst e1 e2
           exact hl2
          | succ k=>rw[hz] at h1;simp at h1
       rw[zZ (zA5 key hD2 (by intro z;cases z))]
       exact key
     . by_cases hx':x<q
       . rw[zD,zN (by rw[<-R.1,hl];exact hx'),<-zD]
         exact L x hx'
       . have e:x=q:=by omega
         subst e
         rw[zD,zM (by rw[<-R.1,hl];exact zL _),<-R.1,hl]
         simpa using L2
   . obtain⟨_,rs,M,rfl,hl,R,L,sm,T1,hD1⟩:=h
     refine⟨D,_,rfl,.inl ⟨SqL.of hD1,fun q hq=>?_⟩⟩
     refine k q rs M _ (sm.trans (SmT.of (zG hq))) (T1.same (zG hq)) zJ (R.smT (SmT.of (zG hq))) ⟨by rw[<-R.1,hl],fun x hx hx'=>?_⟩
     have:=L x.toNat (by omega)
     rw[show ((x.toNat:Nat):Int)=x by omega] at this
     exact this
end
theorem ifT {c:Bool}{p q:Prop}(h:c=true)(hp:p):(if c=true then p else q):=by rw[if_pos h];exact hp
theorem ifF {c:Bool}{p q:Prop}(h:c=false)(hq:q):(if c=true then p else q):=by rw[if_neg (by simp[h])];exact hq
theorem zB2 (a:Int):decide (oV (some a)=V.non)=false:=ze (by intro z;cases z)
noncomputable def zKi:Sp:=fun vs H Q _=>∃a b:Option Int,vs=[oV a,oV b]/\Q (oV (oadd a b)) H
noncomputable def spLes:Sp:=fun vs H Q _=>∃a b:Option Int,vs=[oV a,oV b]/\Q (oV (oles a b)) H
noncomputable def zCl (H:Hp)(rs:List Addr)(M:List (List (Option Int))):Prop:=rs.length=M.length/\rs.Nodup/\∀(i:Nat)(r:Addr)(row:List (Option Int)),rs[i]? = some r->M[i]? = some row->H r=some (.lst (row.map oV))
theorem zCl.keep (h:zCl H rs M)(k:∀b ys,H b=some (.lst ys)->b∈rs->H' b=some (.lst ys)):zCl H' rs M:=⟨h.1,h.2.1,fun i r row a b=>k r _ (h.2.2 i r row a b) (zS a)⟩
theorem zCl.get (h:zCl H rs M)(S:Sqm n M)(ha:0<=a)(ha':a<n):∃r row,rs[a.toNat]? = some r/\M[a.toNat]? = some row/\M.getD a.toNat []=row/\row.length=n.toNat/\H r=some (.lst (row.map oV))/\∀y,fnl row y=mat M a y:=by
 obtain⟨row,h1,h2,h3⟩:=S.row ha ha'
 have hl:a.toNat<rs.length:=by rw[h.1,S.ln];omega
 exact⟨rs[a.toNat],row,zA hl,h1,h2,h3,h.2.2 _ _ _ (zA hl) h1,fun y=>by unfold mat;rw[if_pos ha,h2]⟩
theorem zCl.set {H:Hp}{rs:List Addr}{M:List (List (Option Int))}{n a b:Int}{v:Option Int}{r:Addr}{row:List (Option Int)}(h:zCl H rs M)(S:Sqm n M)(ha:0<=a)(ha':a<n)(h1:rs[a.toNat]? = some r)(h2:M[a.toNat]? = some row) :
 zCl (upd H r (.lst ((row.map oV).set b.toNat (oV v)))) rs (zHL M a b v):=by
 refine⟨by unfold zHL;rw[zAg];exact h.1,h.2.1,fun i r' row' a1 a2=>?_⟩
 unfold zHL at a2
 rw[List.getElem?_set] at a2
 have hlt:a.toNat<M.length:=(zE.mp h2).1
 by_cases e:a.toNat=i
 . subst e
   rw[if_pos rfl,if_pos hlt] at a2
   rw[h1] at a1
   cases a1
   cases a2
   rw[zJ,zD,h2,Option.getD_some,List.map_set]
 . rw[if_neg e] at a2
   have hne:r'≠r:=fun z=>by
    subst z
    exact e ((List.getElem?_inj ((zE.mp h1).1) h.2.1).mp (h1.trans a1.symm))
   rw[zZ hne]
   exact h.2.2 i r' row' a1 a2
theorem zGQ {row:List (Option Int)}(hl:row.length=n.toNat)(h0:0<=y)(h1:y<n):atI (row.map oV) y=some (oV (fnl row y)):=by
 have hlt:y.toNat<row.length:=by omega
 refine zBI h0 ?_
 rw[zO,zA hlt]
 unfold fnl
 rw[if_pos h0,zD,zA hlt];rfl
noncomputable def zHw (a:Int)(j:Nat):List (Option Int):=(List.range j).map fun (b:Nat)=>if a=(b:Int) then some 0 else none
theorem zFM (a:Int)(j:Nat):zHw a (j+1)=zHw a j++[if a=(j:Int) then some 0 else none]:=by unfold zHw;rw[List.range_succ,zQ];rfl
theorem zGR (a:Int)(j:Nat):(zHw a j).length=j:=by unfold zHw;rw[zB,zAn]
theorem zJM (h0:0<=y)(h1:y<j):fnl (zHw a j) y=if a=y then some 0 else none:=by
 unfold fnl zHw
 rw[if_pos h0,zD,zO,List.getElem?_range (by omega)]
 show (if a=((y.toNat:Nat):Int) then some 0 else none)=_
 rw[show ((y.toNat:Nat):Int)=y by omega]
noncomputable def zJH:Sp:=fun vs H Q _=>∃(wa:Addr)(n:Int)(ts:List T3),vs=[.ref wa]/\zBh H wa n ts /\
 ∀(fl:Addr)(rs:List Addr)(M:List (List (Option Int)))(H':Hp),zA1 H H'->H' fl=some (.lst (rs.map V.ref))->zCl H' rs M->Rows ts n M->Q (.ref fl) H'
variable {fA fL:Addr}{fdA fdL:FuncData}
section
variable {P:Program}{w:World}{K:PySem.W.Frag}{mg:Str->Option Value}{base:Heap}
theorem scAdd:zAR ["_law_one", "_law_other"] ["_law_one", "_law_other"] (defScope sAdd):=⟨rfl,rfl,rfl,by decide +kernel,rfl,by decide +kernel,by decide +kernel⟩
theorem zKG (F:Fun K "_law_added" "_law_added" sAdd f fd'):zAq P w K mg base CX0 1 f fd' ["_law_one", "_law_other"] zKi:=by
 refine F.ok scAdd (fun vs H Q E h=>?_) (fun cdv A outer s H vs Q E hr h=>?_)
 . obtain⟨a,b,rfl,_⟩:=h
   rfl
 . obtain⟨a,b,rfl,k⟩:=h
   refine⟨_,zn (zAb (zC0 (PW.pt (zG1 (zAQ zCr (pv 0) zBl (zAc _)) (zFO (zAQ zCr (pv 1) zBl (zAc _))))) zBl (zBc zCO (pv 0) (pv 1)))),?_⟩
   cases a with
   | none=>exact⟨_,rfl,rfl,_,rfl,ifT (zV rfl) (ifT rfl k)⟩
   | some a=>
    refine⟨_,rfl,rfl,_,rfl,ifF (zB2 a) ?_⟩
    cases b with
    | none=>exact⟨_,rfl,rfl,_,rfl,ifT (zV rfl) k⟩
    | some b=>exact⟨_,rfl,rfl,_,rfl,ifF (zB2 b) ⟨_,rfl,_,rfl,a,b,rfl,rfl,k⟩⟩
theorem scLes:zAR ["_law_one", "_law_other"] ["_law_one", "_law_other"] (defScope sLes):=⟨rfl,rfl,rfl,by decide +kernel,rfl,by decide +kernel,by decide +kernel⟩
theorem ok_les (F:Fun K "_law_lesser" "_law_lesser" sLes f fd') (mMin:mg "min" = none):zAq P w K mg base CX0 1 f fd' ["_law_one", "_law_other"] spLes:=by
 refine F.ok scLes (fun vs H Q E h=>?_) (fun cdv A outer s H vs Q E hr h=>?_)
 . obtain⟨a,b,rfl,_⟩:=h
   rfl
 . obtain⟨a,b,rfl,k⟩:=h
   refine⟨_,zW (zCK (PW.pt (zG1 (zAQ zCr (pv 0) zBl (zAc _)) (zFO (zAQ zCr (pv 1) zBl (zAc _))))) (zn (zAb (zC0 (zAQ zCr (pv 0) zBl (zAc _)) (pv 1) (pv 0)))) zA7)
    (zn (zAb (zAV (zFo rfl) (by rfl) mMin (by decide +kernel) (zF (pv 0) (zF (pv 1) zT))))),?_⟩
   cases a with
   | none=>exact⟨_,rfl,rfl,_,rfl,ifT (zV rfl) (ifT rfl ⟨_,rfl,rfl,_,rfl,ifT (zV rfl) ⟨_,rfl,k⟩⟩)⟩
   | some a=>
    refine⟨_,rfl,rfl,_,rfl,ifF (zB2 a) ?_⟩
    cases b with
    | none=>exact⟨_,rfl,rfl,_,rfl,ifT (zV rfl) ⟨_,rfl,rfl,_,rfl,ifF (zB2 a) ⟨_,rfl,k⟩⟩⟩
    | some b=>exact⟨_,rfl,rfl,_,rfl,ifF (zB2 b) ⟨_,rfl,_,rfl,a,b,rfl,k⟩⟩
theorem zDc:zAR ["_law_web_here", "_law_n", "_law_ties", "_law_far_here", "_law_a", "_law_b", "_law_long", "_law_k", "_law_way"] ["_law_web_here"] (defScope sFar):=⟨rfl,rfl,rfl,by decide +kernel,rfl,by decide +kernel,by decide +kernel⟩
theorem ok_far (F:Fun K "_law_far" "_law_far" sFar f fd') (FA:Fun K "_law_added" "_law_added" sAdd fA fdA) (bA:zAP K fdA ["_law_one", "_law_other"] []) (mA:mg "_law_added" = some (.ref fA))
 (FL:Fun K "_law_lesser" "_law_lesser" sLes fL fdL) (bL:zAP K fdL ["_law_one", "_law_other"] []) (mL:mg "_law_lesser" = some (.ref fL)) (mRange:mg "range" = none) (mMin:mg "min" = none):zAq P w K mg base CX0 2 f fd' ["_law_web_here"] zJH:=by
 have GA:zAq P w K mg base CX0 1 fA fdA ["_law_one", "_law_other"] zKi:=zKG FA
 have GL:zAq P w K mg base CX0 1 fL fdL ["_law_one", "_law_other"] spLes:=ok_les FL mMin
 refine F.ok zDc (fun vs H Q E h=>?_) (fun cdv A outer s H vs Q E hr h=>?_)
 . obtain⟨wa,n,ts,rfl,_⟩:=h
   rfl
 . obtain⟨wa,n,ts,rfl,W,k⟩:=h
   obtain⟨ta,tys,hwa,hta,TA,G⟩:=id W
   have hn1:=G.n1
   have hn24:=G.n24
   refine⟨_,zW (zDJ (pv 0) (zCf rfl (zAK (zr (i:=1) zDc.nd rfl (Or.inr rfl)) (zAK (zr (i:=2) zDc.nd rfl (Or.inl rfl)) zCB))))
    (zW (zJT (yc := "_law_a") (i:=3) (own:=["_law_a"]) (cn:=["_law_n"]) (ci:=[1]) zDc.nd rfl (Or.inl rfl) rfl (csc1 rfl (fun _ _=>rfl) rfl rfl) ⟨rfl,rfl,rfl,trivial⟩ rfl
     (zAm rfl mRange (zF (pv 1) zT)) (fun _ _ _ _=>zr (i:=0) (zBJ rfl) rfl (Or.inr rfl)) (fun _ _ _ _=>zBK)
     (fun _ _ _ _=>zBA (own:=["_law_b"]) (cn:=["_law_a"]) (ci:=[0]) rfl (csc rfl rfl) ⟨rfl,rfl,rfl,trivial⟩ rfl
      (zAm rfl mRange (zF (pv 1) zT)) (fun _ _ _ _=>zr (i:=0) (zBJ rfl) rfl (Or.inl rfl)) (fun _ _ _ _=>zBK)
      (fun _ _ _ _=>zC0 (zAQ zCv (pv 1) (pv 0) (zAc _)) zAA zBl)))
    (zW (zBk PassesOwn.never rfl (zBu (pv 2)) (zCf rfl (zAK (zr (i:=4) zDc.nd rfl (Or.inl rfl)) (zAK (zr (i:=5) zDc.nd rfl (Or.inl rfl)) (zAK (zr (i:=6) zDc.nd rfl (Or.inl rfl)) zCB))))
     (zW (zDJ (pv 6) (zDj (zAH zAO (pv 3) (pv 4) (fun _ _=>rfl)) (pv 5) zCX))
     (zn (zDJ (pv 6) (zDj (zAH zAO (pv 3) (pv 5) (fun _ _=>rfl)) (pv 4) zCX)))))
    (zW (zBk PassesOwn.never rfl (zAm rfl mRange (zF (pv 1) zT)) (zr (i:=7) zDc.nd rfl (Or.inl rfl))
     (zn (zBk PassesOwn.never rfl (zAm rfl mRange (zF (pv 1) zT)) (zr (i:=4) zDc.nd rfl (Or.inl rfl))
      (zn (zBk PassesOwn.never rfl (zAm rfl mRange (zF (pv 1) zT)) (zr (i:=5) zDc.nd rfl (Or.inl rfl))
       (zW (zAN (i:=8) zDc.nd rfl (Or.inl rfl) (zx GA hr rfl mA FA.kp bA .nil zAl (zF (zAH zAO (zAH zAO (pv 3) (pv 4) (fun _ _=>rfl)) (pv 7) (fun _ _=>rfl)) (zF (zAH zAO (zAH zAO (pv 3) (pv 7) (fun _ _=>rfl)) (pv 5) (fun _ _=>rfl)) zT))))
       (zn (zDJ (zx GL hr rfl mL FL.kp bL .nil zAl (zF (zAH zAO (zAH zAO (pv 3) (pv 4) (fun _ _=>rfl)) (pv 5) (fun _ _=>rfl)) (zF (pv 8) zT))) (zDj (zAH zAO (pv 3) (pv 4) (fun _ _=>rfl)) (pv 5) zCX)))))))))
    (zn (zAb (pv 3)))))),?_⟩
   refine⟨_,rfl,wa,_,rfl,SqT.of hwa,rfl,_,_,rfl,_,_,rfl,rfl,?_⟩
   refine⟨_,rfl,n,rfl,by omega,by omega,[.int n],rfl,fun D hD=>?_⟩
   refine zBe (lo:=0) (n:=n.toNat) (fun q ys H1=>q<=n.toNat/\∃(rs:List Addr)(M:List (List (Option Int))),ys=rs.map V.ref/\rs.length=q/\zCl H1 rs M/\(∀x:Nat,x<q->M[x]? = some (zHw x n.toNat))/\(∀r∈rs,H r=none/\r≠D)/\zA1 H H1/\H1 D=some (.lst ys))
    ⟨zc _,[],[],rfl,rfl,⟨rfl,zCC,fun i r row h=>by simp at h⟩,fun x hx=>absurd hx (zBw _),fun r h=>by simp at h,zG hD,zJ⟩ (fun q ys H1 h=>?_) (fun q ys H1 hq h=>?_) (fun ys H1 h=>?_)
   . obtain⟨hq,rs,M,rfl,hl,_⟩:=h
     rw[zB,hl]
     exact zAL (by omega)
   . obtain⟨_,rs,M,rfl,hl,R,L,fr,sm,hD1⟩:=h
     rw[zAi]
     refine⟨⟨rfl,rfl⟩,?_⟩
     refine zD8 ?_
     refine⟨_,rfl,n,rfl,by omega,by omega,[.int q],rfl,fun D2 hD2=>?_⟩
     have nD2:D2≠D:=fun z=>by rw[z,hD1] at hD2;cases hD2
     refine zBe (lo:=0) (n:=n.toNat) (fun j ys H2=>j<=n.toNat/\ys=(zHw q j).map oV/\zA1 H1 H2/\H2 D2=some (.lst ys))
      ⟨zc _,rfl,zG hD2,zJ⟩ (fun j ys H2 h=>?_) (fun j ys H2 hj h=>?_) (fun ys H2 h=>?_)
     . obtain⟨hj,rfl,_⟩:=h
       rw[zB,zGR]
       exact zAL (by omega)
     . obtain⟨_,rfl,s2,h2⟩:=h
       rw[zAi]
       refine⟨⟨rfl,rfl⟩,?_⟩
       refine zD8 ?_
       refine⟨_,rfl,_,rfl,rfl,_,rfl,?_⟩
       by_cases e:(q:Int)=(j:Int)
       . refine ifT (zV (congrArg V.int e)) ?_
         refine⟨h2,hj,?_,zAF s2 hD2,zJ⟩
         rw[zFM,if_pos e,zQ];rfl
       . refine ifF (ze fun z=>e (V.int.inj z)) ?_
         refine⟨h2,hj,?_,zAF s2 hD2,zJ⟩
         rw[zFM,if_neg e,zQ];rfl
     . obtain⟨_,rfl,s2,h2⟩:=h
       have hD22:H2 D=some (.lst (rs.map V.ref)):=s2 _ _ hD1
       have frD2:H D2=none:=by
        cases z:H D2 with
        | none=>rfl
        | some o=>rw[sm _ _ z] at hD2;cases hD2
       have nin:D2∉rs:=fun z=>by
        obtain⟨i,hi,e⟩:=zd z
        have hM:i<M.length:=by rw[<-R.1];exact hi
        have:=R.2.2 i D2 M[i] (by rw[zA hi,e]) (zA hM)
        rw[hD2] at this;cases this
       refine⟨hD22,hq,rs++[D2],M++[zHw q n.toNat],by rw[zQ];rfl,by rw[zI,hl];rfl,⟨by rw[zI,zI,R.1];rfl,?_,fun i r row h1 h3=>?_⟩,fun x hx=>?_,fun r hr'=>?_,zAF (sm.trans s2) hD,zJ⟩
       . exact List.nodup_append.mpr ⟨R.2.1,by simp,fun a ha b hb=>by
          have e:b=D2:=by simpa using hb
          rw[e];exact fun z=>nin (z ▸ ha)⟩
       . have key:H2 r=some (.lst (row.map oV))/\r≠D:=by
          by_cases hi:i<rs.length
          . rw[zN hi] at h1
            rw[zN (by rw[<-R.1];exact hi)] at h3
            exact⟨s2 _ _ (R.2.2 i r row h1 h3),(fr r (zS h1)).2⟩
          . rw[zM (by omega)] at h1
            rw[zM (by rw[<-R.1];omega),<-R.1] at h3
            cases hz:i-rs.length with
            | zero=>
             rw[hz] at h1 h3
             have e1:D2=r:=by simpa using h1
             have e2:zHw q n.toNat=row:=by simpa using h3
             subst e1 e2
             exact⟨h2,nD2⟩
            | succ k=>rw[hz] at h1;simp at h1
         rw[zZ key.2]
         exact key.1
       . by_cases hx':x<q
         . rw[zN (by rw[<-R.1,hl];exact hx')]
           exact L x hx'
         . have e:x=q:=by omega
           subst e
           rw[zM (by rw[<-R.1,hl];exact zL _),<-R.1,hl]
           simp
       . rcases zu.mp hr' with z | z
         . exact fr r z
         . have e:r=D2:=by simpa using z
           rw[e];exact⟨frD2,nD2⟩
   . obtain⟨_,rs,M,rfl,hl,R,L,fr,sm,hD1⟩:=h
     have hML:M.length=n.toNat:=by rw[<-R.1,hl]
     have S0:Sqm n M:=⟨hML,fun r hr'=>by
      obtain⟨i,hi,e⟩:=zd hr'
      have:=L i (by omega)
      rw[zA hi,e] at this
      rw[zR this,zGR]⟩
     have M0:∀x y,0<=x->x<n->0<=y->y<n->mat M x y=if x=y then some 0 else none:=fun x y hx hx' hy hy'=>by
      unfold mat
      rw[if_pos hx,zD,L x.toNat (by omega),Option.getD_some,zJM hy (by omega),show ((x.toNat:Nat):Int)=x by omega]
     have wr:∀{H2:Hp}{r:Addr}{o:HO},r∈rs->zA1 H H2->zA1 H (upd H2 r o):=fun {H2 r o} hr' s2=>zAF s2 (fr r hr').1
     have wD:∀{H2:Hp}{r:Addr}{o:HO},r∈rs->H2 D=some (.lst (rs.map V.ref))->(upd H2 r o) D=some (.lst (rs.map V.ref)):=fun {H2 r o} hr' e=>by rw[zZ (fr r hr').2.symm];exact e
     refine⟨_,rfl,ta,rfl,⟨_,SqT.of (sm _ _ hta)⟩,zDD (K:=K) (a:=ta) (xs:=tys)
      (fun i σ H2=>∃(v4 v5 v6 v7 v8:Option V)(M:List (List (Option Int))),σ=[some (.ref wa),some (.int n),some (.ref ta),some (.ref D),v4,v5,v6,v7,v8]/\zA1 H H2/\H2 D=some (.lst (rs.map V.ref))/\zCl H2 rs M/\Sqm n M/\Ft (ts.take i) n (mat M))
      ⟨_,_,_,_,_,M,rfl,sm,hD1,R,S0,by rw[List.take_zero];exact Ft.nil n M0⟩ (fun i σ H2 _ ⟨_,_,_,_,_,_,_,s,_⟩=>SqT.of (s _ _ hta)) ?turn1 ?after1⟩
     case turn1=>
      rintro i y σ H2 hi ⟨v4,v5,v6,v7,v8,M2,rfl,s2,hD2,R2,S2,T2⟩
      obtain⟨ya,ky,rfl,hky,hya,_⟩:=TA.get hi
      rw[zO] at hky
      obtain⟨⟨a,b,c⟩,hti,rfl⟩:∃t:T3,ts[i]? = some t/\tl t=ky:=by
       cases e:ts[i]? with
       | none=>rw[e] at hky;cases hky
       | some t=>rw[e] at hky;exact⟨t,rfl,zR hky⟩
      have hm:=zS hti
      have hr3:=G.rng _ hm
      simp only at hr3
      obtain⟨ra,rowa,a1,a2,a3,a4,a5,_⟩:=R2.get S2 (a:=a) (by omega) (by omega)
      have ma:=zS a1
      refine⟨ya,_,rfl,SqT.of (s2 _ _ hya),rfl,_,_,rfl,_,_,rfl,_,_,rfl,rfl,?_⟩
      refine⟨_,rfl,_,rfl,_,rfl,D,_,_,.ref ra,rfl,rfl,SqL.of hD2,zBI (by omega) (by rw[zO,a1];rfl),_,rfl,ra,_,b,b.toNat,rfl,rfl,a5,zGg (by omega) (by rw[zB,a4];omega),?_⟩
      have R3:zCl (upd H2 ra (.lst ((rowa.map oV).set b.toNat (.int c)))) rs (zHL M2 a b (some c)):=R2.set S2 (v:=some c) (by omega) (by omega) a1 a2
      have S3:Sqm n (zHL M2 a b (some c)):=S2.set (by omega) (by omega)
      have s3:=wr (o:=.lst ((rowa.map oV).set b.toNat (.int c))) ma s2
      have hD3:=wD (o:=.lst ((rowa.map oV).set b.toNat (.int c))) ma hD2
      generalize upd H2 ra (.lst ((rowa.map oV).set b.toNat (.int c)))=H3 at R3 s3 hD3 ⊢
      obtain⟨rb,rowb,b1,b2,b3,b4,b5,_⟩:=R3.get S3 (a:=b) (by omega) (by omega)
      have mb:=zS b1
      refine⟨_,rfl,_,rfl,_,rfl,D,_,_,.ref rb,rfl,rfl,SqL.of hD3,zBI (show 0<=b by omega) (by rw[zO,b1];rfl),_,rfl,rb,_,a,a.toNat,rfl,rfl,b5,zGg (by omega) (by rw[zB,b4];omega),?_⟩
      have R4:zCl (upd H3 rb (.lst ((rowb.map oV).set a.toNat (.int c)))) rs (zHL (zHL M2 a b (some c)) b a (some c)):=R3.set S3 (v:=some c) (by omega) (by omega) b1 b2
      refine⟨_,_,_,_,_,_,rfl,wr mb s3,wD mb hD3,R4,S3.set (by omega) (by omega),?_⟩
      have hsp:ts=ts.take i++(a,b,c)::ts.drop (i+1):=by
       have hil:=(zE.mp hti)
       conv=>lhs;rw[<-List.take_append_drop i ts,List.drop_eq_getElem_cons hil.1,hil.2]
      have htk:ts.take (i+1)=ts.take i++[(a,b,c)]:=by rw[zAI,hti];rfl
      rw[htk]
      refine (Ft.put (post:=ts.drop (i+1)) (by rw[<-hsp];exact G) T2).congr fun x y hx hx' hy hy'=>?_
      rw[zF7 S3 (by omega) (by omega) (by omega) (by omega) hx hx',zF7 S2 (by omega) (by omega) (by omega) (by omega) hx hx']
     case after1=>
      rintro σ H2 ⟨v4,v5,v6,v7,v8,M2,rfl,s2,hD2,R2,S2,T2⟩
      have hlt:tys.length=ts.length:=by rw[TA.length,zB]
      rw[hlt,List.take_length] at T2
      have FC:=T2.fw G
      refine⟨_,rfl,n,rfl,by omega,by omega,zBQ (lo:=0) (n:=n.toNat)
       (fun kk σ H3=>∃(v4 v5 v6 v7 v8:Option V)(M:List (List (Option Int))),σ=[some (.ref wa),some (.int n),some (.ref ta),some (.ref D),v4,v5,v6,v7,v8]/\zA1 H H3/\H3 D=some (.lst (rs.map V.ref))/\zCl H3 rs M/\Sqm n M/\Fw ts n (mat M)/\Cov ts n (kk:Int) (mat M))
       ⟨_,_,_,_,_,M2,rfl,s2,hD2,R2,S2,FC.1,FC.2⟩ ?turn2 ?after2⟩
      case after2=>
       rintro σ H3 ⟨v4,v5,v6,v7,v8,M3,rfl,s3,hD3,R3,S3,f3,c3⟩
       rw[show ((n.toNat:Nat):Int)=n by omega] at c3
       exact⟨_,rfl,k D rs M3 H3 s3 hD3 R3 (zKu G S3 f3 c3)⟩
      case turn2=>
       rintro kk σ H3 hkk ⟨v4,v5,v6,v7,v8,M3,rfl,s3,hD3,R3,S3,f3,c3⟩
       rw[zAi]
       refine⟨_,rfl,n,rfl,by omega,by omega,zBQ (lo:=0) (n:=n.toNat)
        (fun aa σ H4=>∃(v4 v5 v6 v8:Option V)(M:List (List (Option Int))),σ=[some (.ref wa),some (.int n),some (.ref ta),some (.ref D),v4,v5,v6,some (.int (kk:Int)),v8]/\zA1 H H4/\H4 D=some (.lst (rs.map V.ref))/\zCl H4 rs M/\Sqm n M/\Fm ts n (kk:Int) (mat M) (fun x _=>x<(aa:Int)))
        ⟨_,_,_,_,M3,rfl,s3,hD3,R3,S3,(Fm.enter f3 c3).congr (fun _ _ _ _ _ _=>rfl) fun x y hx _ _ _ z=>by omega⟩ ?turn3 ?after3⟩
       case after3=>
        rintro σ H4 ⟨v4,v5,v6,v8,M4,rfl,s4,hD4,R4,S4,F4⟩
        have fc:=F4.leave fun x y _ hx' _ _=>by omega
        exact⟨_,_,_,_,_,M4,rfl,s4,hD4,R4,S4,fc.1,fc.2⟩
       case turn3=>
        rintro aa σ H4 haa ⟨v4,v5,v6,v8,M4,rfl,s4,hD4,R4,S4,F4⟩
        rw[zAi]
        refine⟨_,rfl,n,rfl,by omega,by omega,zBQ (lo:=0) (n:=n.toNat)
         (fun bb σ H5=>∃(v5 v6 v8:Option V)(M:List (List (Option Int))),σ=[some (.ref wa),some (.int n),some (.ref ta),some (.ref D),some (.int (aa:Int)),v5,v6,some (.int (kk:Int)),v8]/\zA1 H H5/\H5 D=some (.lst (rs.map V.ref))/\zCl H5 rs M/\Sqm n M/\Fm ts n (kk:Int) (mat M) (fun x y=>x<(aa:Int)\/(x=(aa:Int)/\y<(bb:Int))))
         ⟨_,_,_,M4,rfl,s4,hD4,R4,S4,F4.congr (fun _ _ _ _ _ _=>rfl) fun x y _ _ hy _ z=>by omega⟩ ?turn4 ?after4⟩
        case after4=>
         rintro σ H5 ⟨v5,v6,v8,M5,rfl,s5,hD5,R5,S5,F5⟩
         exact⟨_,_,_,_,M5,rfl,s5,hD5,R5,S5,F5.congr (fun _ _ _ _ _ _=>rfl) fun x y _ _ _ hy' z=>by omega⟩
        case turn4=>
         rintro bb σ H5 hbb ⟨v5,v6,v8,M5,rfl,s5,hD5,R5,S5,F5⟩
         rw[zAi]
         obtain⟨ra,rowa,a1,a2,a3,a4,a5,a6⟩:=R5.get S5 (a:=(aa:Int)) (by omega) (by omega)
         obtain⟨rk,rowk,k1,k2,k3,k4,k5,k6⟩:=R5.get S5 (a:=(kk:Int)) (by omega) (by omega)
         have ma:=zS a1
         refine⟨_,rfl,_,rfl,D,_,_,.ref ra,rfl,rfl,SqL.of hD5,zBI (by omega) (by rw[zO,a1];rfl),_,rfl,ra,_,_,_,rfl,rfl,SqL.of a5,zGQ a4 (by omega) (by omega),?_⟩
         refine⟨_,rfl,_,rfl,D,_,_,.ref rk,rfl,rfl,SqL.of hD5,zBI (by omega) (by rw[zO,k1];rfl),_,rfl,rk,_,_,_,rfl,rfl,SqL.of k5,zGQ k4 (by omega) (by omega),?_⟩
         refine⟨_,_,rfl,?_⟩
         refine⟨_,rfl,_,rfl,D,_,_,.ref ra,rfl,rfl,SqL.of hD5,zBI (by omega) (by rw[zO,a1];rfl),_,rfl,ra,_,_,_,rfl,rfl,SqL.of a5,zGQ a4 (by omega) (by omega),?_⟩
         refine⟨_,rfl,_,_,rfl,?_⟩
         refine⟨_,rfl,_,rfl,D,_,_,.ref ra,rfl,rfl,SqL.of hD5,zBI (by omega) (by rw[zO,a1];rfl),_,rfl,ra,_,_,(bb:Int).toNat,rfl,rfl,a5,zGg (by omega) (by rw[zB,a4];omega),?_⟩
         refine⟨_,_,_,_,rfl,wr ma s5,wD ma hD5,R5.set S5 (by omega) (by omega) a1 a2,S5.set (by omega) (by omega),?_⟩
         refine (Fm.step G F5 (a:=(aa:Int)) (b:=(bb:Int)) (by omega) (by omega) (by omega) (by omega) (by omega) (by omega)).congr (fun x y hx hx' hy hy'=>?_) fun x y _ _ _ _ z=>by omega
         rw[zF7 S5 (by omega) (by omega) (by omega) (by omega) hx hx',a6,a6,k6]
end
noncomputable def PD (ts:List T3)(kvs:List (List Key×V)):Prop:=∀x y:Int,(∀l,zBv kvs [Sum.inl x,Sum.inl y]=some (.int l)↔Adj ts x y l)/\∀v,zBv kvs [Sum.inl x,Sum.inl y]=some v->∃l,v = .int l
theorem PD.nil:PD [] []:=fun x y=>⟨fun l=>by simp[zEb,Adj],fun v h=>by simp[zEb] at h⟩
variable {x:Int}
theorem zH6 {b:Int}:([Sum.inl x,Sum.inl y]:List Key)=[Sum.inl a,Sum.inl b]↔x=a/\y=b:=by simp
theorem PD.put {pre:List T3}{b c:Int}{post:List T3}(g:GW n ts)(e:ts=pre++(a,b,c)::post)(h:PD pre kvs):PD (pre++[(a,b,c)]) (zCP (zCP kvs [Sum.inl a,Sum.inl b] (.int c)) [Sum.inl b,Sum.inl a] (.int c)):=by
 have hin:(a,b,c)∈ts:=by rw[e];simp
 have hab:=(g.rng _ hin).2.1
 simp only at hab
 have sub:∀ {x y l},Adj (pre++[(a,b,c)]) x y l->Adj ts x y l:=fun h=>by
  rw[e]
  rcases h with h | h
  . refine .inl ?_
    rcases zu.mp h with q | q
    . exact zAE _ q
    . rw[zk.mp q];simp
  . refine .inr ?_
    rcases zu.mp h with q | q
    . exact zAE _ q
    . rw[zk.mp q];simp
 have new:Adj (pre++[(a,b,c)]) a b c:=.inl (by simp)
 intro x y
 rw[zEa,zEa]
 by_cases h1:x=b/\y=a
 . obtain⟨rfl,rfl⟩:=h1
   rw[if_pos rfl]
   refine⟨fun l=>⟨fun hl=>?_,fun ha=>?_⟩,fun v hv=>⟨c,(zR hv).symm⟩⟩
   . have:c=l:=by have:=zR hl;injection this
     subst this
     exact new.symm
   . rw[g.uniq (sub ha) (sub new.symm)]
 . rw[if_neg (fun z=>h1 (zH6.mp z))]
   by_cases h2:x=a/\y=b
   . obtain⟨rfl,rfl⟩:=h2
     rw[if_pos rfl]
     refine⟨fun l=>⟨fun hl=>?_,fun ha=>?_⟩,fun v hv=>⟨c,(zR hv).symm⟩⟩
     . have:c=l:=by have:=zR hl;injection this
       subst this
       exact new
     . rw[g.uniq (sub ha) (sub new)]
   . rw[if_neg (fun z=>h2 (zH6.mp z))]
     refine⟨fun l=>?_,(h x y).2⟩
     rw[(h x y).1 l]
     constructor
     . rintro (q | q)
       . exact .inl (zAE _ q)
       . exact .inr (zAE _ q)
     . rintro (q | q)
       . rcases zu.mp q with q | q
         . exact .inl q
         . exfalso
           have:=zk.mp q
           injection this with q1 q2
           injection q2 with q2 q3
           exact h2 ⟨q1,q2⟩
       . rcases zu.mp q with q | q
         . exact .inr q
         . exfalso
           have:=zk.mp q
           injection this with q1 q2
           injection q2 with q2 q3
           exact h1 ⟨q2,q1⟩
theorem PD.some (h:PD ts kvs)(x y:Int):(zBv kvs [Sum.inl x,Sum.inl y]).isSome=true↔∃l,Adj ts x y l:=by
 constructor
 . intro hs
   obtain⟨v,hv⟩:=zA4.mp hs
   obtain⟨l,rfl⟩:=(h x y).2 v hv
   exact⟨l,((h x y).1 l).mp hv⟩
 . rintro ⟨l,ha⟩
   rw[((h x y).1 l).mpr ha]
   rfl
theorem zHn (a b:Option Int):scal (oV a) (oV b)=true:=by cases a <;> cases b <;> rfl
theorem zDB:decide (oV none=V.non)=true:=zV rfl
theorem zKN (a b:Option Int):decide (oV a=oV b)=decide (a=b):=decide_eq_decide.mpr ⟨fun h=>by
 cases a with
 | none=>
  cases b with
  | none=>rfl
  | some b=>cases h
 | some a=>
  cases b with
  | none=>cases h
  | some b=>rw[V.int.inj h],fun h=>by rw[h]⟩
noncomputable def zCQ (H:Hp)(fl:Addr)(n:Int)(ts:List T3)(M:List (List (Option Int))):Prop:=∃rs:List Addr,H fl=some (.lst (rs.map V.ref))/\zCl H rs M/\Rows ts n M
theorem zKt (R:Rows ts n M):Sqm n M:=⟨R.1,fun r hr=>by
 obtain⟨i,hi,e⟩:=zd hr
 have h1:=R.1
 have:=(R.2 (i:Int) (by omega) (by omega)).ln
 rw[zBH,zD,zA hi,Option.getD_some,e] at this
 exact this⟩
theorem zCQ.keep {H H':Hp}{fl:Addr}{n:Int}{ts:List T3}{M:List (List (Option Int))}(h:zCQ H fl n ts M)(k:∀b ys,H b=some (.lst ys)->H' b=some (.lst ys)):zCQ H' fl n ts M:=by
 obtain⟨rs,a,b,c⟩:=h
 exact⟨rs,k _ _ a,b.keep fun b ys e _=>k b ys e,c⟩
theorem zCQ.get {H:Hp}{fl:Addr}{n:Int}{ts:List T3}{M:List (List (Option Int))}(h:zCQ H fl n ts M){x y:Int}(hx:0<=x)(hx':x<n)(hy:0<=y)(hy':y<n) :
 ∃(rs:List V)(r:Addr)(row:List V),H fl=some (.lst rs)/\atI rs x=some (.ref r)/\H r=some (.lst row)/\atI row y=some (oV (mat M x y))/\Len ts x y (mat M x y):=by
 obtain⟨rs,a,b,c⟩:=h
 obtain⟨r,row,e1,e2,e3,e4,e5,e6⟩:=b.get (zKt c) hx hx'
 have L:=c.2 x hx hx'
 rw[e3] at L
 refine⟨_,r,_,a,zBI hx (by rw[zO,e1];rfl),e5,?_,?_⟩
 . rw[<-e6];exact zGQ e4 hy hy'
 . rw[<-e6];exact L.len y hy hy'
noncomputable def onB (M:List (List (Option Int)))(p x y:Int):Bool:=match mat M x y with
 | none=>false
 | some d=>decide (oadd (mat M x p) (mat M p y)=some d)
variable {fl:Addr}
theorem zH9 (h:zCQ H fl n ts M){p:Int}(hp:0<=p)(hp':p<n)(hx:0<=x)(hx':x<n)(hy:0<=y)(hy':y<n):onB M p x y=true↔Btw ts x y p:=by
 obtain⟨_,_,_,_,_,_,_,l1⟩:=h.get hx hx' hy hy'
 obtain⟨_,_,_,_,_,_,_,l2⟩:=h.get hx hx' hp hp'
 obtain⟨_,_,_,_,_,_,_,l3⟩:=h.get hp hp' hy hy'
 unfold onB
 constructor
 . intro z
   cases e:mat M x y with
   | none=>rw[e] at z;cases z
   | some d=>
    rw[e] at z l1
    obtain⟨a,b,e1,e2,e3⟩:=zFU (of_decide_eq_true z)
    rw[e1] at l2
    rw[e2] at l3
    exact⟨a,b,l2,l3,by rw[e3];exact l1⟩
 . rintro ⟨a,b,h1,h2,h3⟩
   have e1:=Len.uniq l1 (show Len ts x y (some (a+b)) from h3)
   have e2:=Len.uniq l2 (show Len ts x p (some a) from h1)
   have e3:=Len.uniq l3 (show Len ts p y (some b) from h2)
   rw[e1,e2,e3]
   exact zV rfl
noncomputable def spOn:Sp:=fun vs H Q _=>∃(fl:Addr)(n:Int)(ts:List T3)(M:List (List (Option Int)))(p x y:Int),vs=[.ref fl,.int p,.int x,.int y]/\zCQ H fl n ts M/\0<=p/\p<n/\0<=x/\x<n/\0<=y/\y<n/\Q (.bl (onB M p x y)) H
noncomputable def spJoi:Sp:=fun vs H Q _=>∃(wa:Addr)(n:Int)(ts:List T3),vs=[.ref wa]/\zBh H wa n ts/\∀(d:Addr)(kvs:List (List Key×V))(H':Hp),zA1 H H'->H' d=some (.dT kvs)->PD ts kvs->Q (.ref d) H'
noncomputable def zJF:Sp:=fun vs H Q _=>∃(wa fl:Addr)(n:Int)(ts:List T3)(M:List (List (Option Int)))(x y:Int),vs=[.ref wa,.ref fl,.int x,.int y]/\zBh H wa n ts/\zCQ H fl n ts M/\0<=x/\x<n/\0<=y/\y<n /\
 ∀(l:Addr)(xs:List Int)(H':Hp),zA1 H H'->H' l=some (.lst (xs.map V.int))->xs.Pairwise (· < ·)->(∀p,p∈xs↔Nxt ts x y p)->Q (.ref l) H'
section
variable {P:Program}{w:World}{K:PySem.W.Frag}{mg:Str->Option Value}{base:Heap}
theorem scOn:zAR ["_law_far_here", "_law_place", "_law_one", "_law_other", "_law_due"] ["_law_far_here", "_law_place", "_law_one", "_law_other"] (defScope sOn):=⟨rfl,rfl,rfl,by decide +kernel,rfl,by decide +kernel,by decide +kernel⟩
theorem ok_on (F:Fun K "_law_on" "_law_on" sOn f fd') (FA:Fun K "_law_added" "_law_added" sAdd fA fdA) (bA:zAP K fdA ["_law_one", "_law_other"] []) (mA:mg "_law_added" = some (.ref fA)):zAq P w K mg base CX0 2 f fd' ["_law_far_here", "_law_place", "_law_one", "_law_other"] spOn:=by
 have GA:zAq P w K mg base CX0 1 fA fdA ["_law_one", "_law_other"] zKi:=zKG FA
 refine F.ok scOn (fun vs H Q E h=>?_) (fun cdv A outer s H vs Q E hr h=>?_)
 . obtain⟨fl,n,ts,M,p,x,y,rfl,_⟩:=h
   rfl
 . obtain⟨fl,n,ts,M,p,x,y,rfl,FR,hp,hp',hx,hx',hy,hy',k⟩:=h
   refine⟨_,zW (zAN (i:=4) scOn.nd rfl (Or.inl rfl) (zAH zAO (zAH zAO (pv 0) (pv 2) (fun _ _=>rfl)) (pv 3) (fun _ _=>rfl)))
    (zn (zAb (zFS (zCg zEr (pv 4) zBl (zAc _)) (zGY (zCg zCv (zx GA hr rfl mA FA.kp bA .nil zAl (zF (zAH zAO (zAH zAO (pv 0) (pv 2) (fun _ _=>rfl)) (pv 1) (fun _ _=>rfl)) (zF (zAH zAO (zAH zAO (pv 0) (pv 1) (fun _ _=>rfl)) (pv 3) (fun _ _=>rfl)) zT))) (pv 4) (zAc _)))))),?_⟩
   obtain⟨r1,a1,w1,f1,g1,i1,j1,_⟩:=FR.get hx hx' hy hy'
   obtain⟨r2,a2,w2,f2,g2,i2,j2,_⟩:=FR.get hx hx' hp hp'
   obtain⟨r3,a3,w3,f3,g3,i3,j3,_⟩:=FR.get hp hp' hy hy'
   refine⟨_,rfl,_,rfl,fl,_,_,.ref a1,rfl,rfl,SqL.of f1,g1,_,rfl,a1,_,_,_,rfl,rfl,SqL.of i1,j1,?_⟩
   refine⟨_,rfl,rfl,_,rfl,?_⟩
   unfold onB at k
   cases e:mat M x y with
   | none=>
    rw[e] at k
    exact ifF (by rw[zDB];rfl) k
   | some d=>
    rw[e] at k
    refine ifT (by rw[zB2];rfl) ?_
    refine⟨_,rfl,_,rfl,fl,_,_,.ref a2,rfl,rfl,SqL.of f2,g2,_,rfl,a2,_,_,_,rfl,rfl,SqL.of i2,j2,?_⟩
    refine⟨_,rfl,_,rfl,fl,_,_,.ref a3,rfl,rfl,SqL.of f3,g3,_,rfl,a3,_,_,_,rfl,rfl,SqL.of i3,j3,?_⟩
    refine⟨_,_,rfl,_,rfl,zHn _ (some d),?_⟩
    rw[zKN]
    exact k
theorem zEA:zAR ["_law_web_here", "_law_found", "_law_a", "_law_b", "_law_long"] ["_law_web_here"] (defScope zKs):=⟨rfl,rfl,rfl,by decide +kernel,rfl,by decide +kernel,by decide +kernel⟩
theorem ok_joi (F:Fun K "_law_joined" "_law_joined" zKs f fd'):zAq P w K mg base CX0 1 f fd' ["_law_web_here"] spJoi:=by
 refine F.ok zEA (fun vs H Q E h=>?_) (fun cdv A outer s H vs Q E hr h=>?_)
 . obtain⟨wa,n,ts,rfl,_⟩:=h
   rfl
 . obtain⟨wa,n,ts,rfl,W,k⟩:=h
   obtain⟨ta,tys,hwa,hta,TA,G⟩:=id W
   have hlt:tys.length=ts.length:=by rw[TA.length,zB]
   have hu:=zDv hr
   refine⟨_,zW (zAN (i:=1) zEA.nd rfl (Or.inl rfl) zEq)
    (zW (zBk PassesOwn.never rfl (zBu (zAH zAr (pv 0) zAA (fun _ _=>rfl))) (zCf rfl (zAK (zr (i:=2) zEA.nd rfl (Or.inl rfl)) (zAK (zr (i:=3) zEA.nd rfl (Or.inl rfl)) (zAK (zr (i:=4) zEA.nd rfl (Or.inl rfl)) zCB))))
     (zW (zCe hu (pv 1) (zBC (zF (pv 2) (zF (pv 3) zT))) (pv 4) rfl) (zn (zCe hu (pv 1) (zBC (zF (pv 3) (zF (pv 2) zT))) (pv 4) rfl))))
    (zn (zAb (pv 1)))),?_⟩
   intro d hd
   refine⟨_,rfl,wa,_,_,_,rfl,rfl,SqT.of (zG hd _ _ hwa),rfl,ta,rfl,⟨_,SqT.of (zG hd _ _ hta)⟩,zDD (K:=K) (a:=ta) (xs:=tys)
    (fun j σ H5=>∃(v2 v3 v4:Option V)(kvs:List (List Key×V)),σ=[some (.ref wa),some (.ref d),v2,v3,v4]/\zA1 H H5/\H5 d=some (.dT kvs)/\kvs.length<=2*j/\PD (ts.take j) kvs)
    ⟨_,_,_,[],rfl,zG hd,zJ,zL _,PD.nil⟩ (fun j σ H5 _ ⟨_,_,_,_,_,s5,_⟩=>SqT.of (s5 _ _ hta)) ?turn1 ?after1⟩
   case turn1=>
    rintro j y σ H5 hj ⟨v2,v3,v4,kvs,rfl,s5,hd5,hkl,pd⟩
    obtain⟨ya,ky,rfl,hky,hya,_⟩:=TA.get hj
    rw[zO] at hky
    obtain⟨⟨x,z,c⟩,htj,rfl⟩:∃t:T3,ts[j]? = some t/\tl t=ky:=by
     cases e:ts[j]? with
     | none=>rw[e] at hky;cases hky
     | some t=>rw[e] at hky;exact⟨t,rfl,zR hky⟩
    have hjl:j<ts.length:=(zE.mp htj).1
    have h64:=G.len
    refine⟨ya,_,rfl,SqT.of (s5 _ _ hya),rfl,_,_,rfl,_,_,rfl,_,_,rfl,rfl,?_⟩
    refine⟨_,rfl,_,rfl,_,rfl,_,rfl,by show 2<=sizeLine;decide,fun p hp=>?_⟩
    refine⟨d,_,rfl,zGr.t (k:=[Sum.inl x,Sum.inl z]) (zG hp _ _ hd5) zJ (zAL (by omega)),?_⟩
    refine⟨_,rfl,_,rfl,_,rfl,_,rfl,by show 2<=sizeLine;decide,fun p2 hp2=>?_⟩
    refine⟨d,_,rfl,zGr.t (k:=[Sum.inl z,Sum.inl x]) (zG hp2 _ _ zJ) zJ (zAL (zy (zBG _ _ _) (by omega))),?_⟩
    refine⟨_,_,_,_,rfl,?_,zJ,zy (zBG _ _ _) (zy (Nat.succ_le_succ (zBG _ _ _)) (by omega)),?_⟩
    . have a1:zA1 H (upd (upd H5 p (.tup [.int x,.int z])) d (.dT (zCP kvs [Sum.inl x,Sum.inl z] (.int c)))):=zAF (s5.trans (zG hp)) hd
      exact zAF (a1.trans (zG hp2)) hd
    . rw[zAI,htj]
      refine PD.put G (post:=ts.drop (j+1)) ?_ pd
      have e1:ts.drop j=(x,z,c)::ts.drop (j+1):=by
       rw[List.drop_eq_getElem_cons hjl]
       rw[zA hjl] at htj
       rw[zR htj]
      rw[<-e1,List.take_append_drop]
   case after1=>
    rintro σ H5 ⟨v2,v3,v4,kvs,rfl,s5,hd5,hkl,pd⟩
    rw[hlt,zf (zL _)] at pd
    exact⟨_,rfl,k d kvs H5 s5 hd5 pd⟩
end
noncomputable def nb (kvs:List (List Key×V))(M:List (List (Option Int)))(x y d p:Int):Bool:=match zBv kvs [Sum.inl x,Sum.inl p],mat M p y with
 | some (.int l),some b=>decide (l+b=d)
 | _,_=>false
variable {fJ:Addr}{fdJ:FuncData}
section
variable {P:Program}{w:World}{K:PySem.W.Frag}{mg:Str->Option Value}{base:Heap}
theorem zJJ:zAR ["_law_web_here", "_law_far_here", "_law_one", "_law_other", "_law_due", "_law_pairs", "_law_some_here"] ["_law_web_here", "_law_far_here", "_law_one", "_law_other"] (defScope sNxs):=⟨rfl,rfl,rfl,by decide +kernel,rfl,by decide +kernel,by decide +kernel⟩
theorem ok_nxs (F:Fun K "_law_nexts" "_law_nexts" sNxs f fd') (FJ:Fun K "_law_joined" "_law_joined" zKs fJ fdJ) (bJ:zAP K fdJ ["_law_web_here"] []) (mJ:mg "_law_joined" = some (.ref fJ)) (mRange:mg "range" = none):zAq P w K mg base CX0 2 f fd' ["_law_web_here", "_law_far_here", "_law_one", "_law_other"] zJF:=by
 have GJ:zAq P w K mg base CX0 1 fJ fdJ ["_law_web_here"] spJoi:=ok_joi FJ
 refine F.ok zJJ (fun vs H Q E h=>?_) (fun cdv A outer s H vs Q E hr h=>?_)
 . obtain⟨wa,fl,n,ts,M,x,y,rfl,_⟩:=h
   rfl
 . obtain⟨wa,fl,n,ts,M,x,y,rfl,W,FR,hx,hx',hy,hy',k⟩:=h
   obtain⟨ta,tys,hwa,hta,TA,G⟩:=id W
   have hu:=zDv hr
   have hn1:=G.n1
   have hn24:=G.n24
   refine⟨_,zW (zAN (i:=4) zJJ.nd rfl (Or.inr rfl) (zAH zAO (zAH zAO (pv 1) (pv 2) (fun _ _=>rfl)) (pv 3) (fun _ _=>rfl)))
    (zW (zCK (PW.pt (zG1 (zAQ zCv (pv 2) (pv 3) (zAc _)) (zFO (zAQ zCr (pv 4) zBl (zAc _))))) (zn (zAb (zB1 zT))) zA7)
    (zW (zAN (i:=5) zJJ.nd rfl (Or.inr rfl) (zx GJ hr rfl mJ FJ.kp bJ .nil zAl (zF (pv 0) zT)))
    (zW (zCZ (i:=6) (own:=["_law_place"]) (cn:=["_law_one", "_law_pairs"]) (ci:=[2,5]) zJJ.nd rfl (Or.inl rfl) rfl (csc rfl rfl) ⟨rfl,rfl,rfl,rfl,rfl,rfl,trivial⟩ rfl
     (zAm rfl mRange (zF (zAH zAr (pv 0) zAA (fun _ _=>rfl)) zT)) (fun _ _ _ _=>zr (i:=0) (zBJ rfl) rfl (Or.inl rfl))
     (fun _ _ _ _=>zB0 (zFR (zGa hu (zBC (zF (pv 1) (zF (pv 0) zT))) (pv 2)))) (fun _ _ _ _=>pv 0))
    (zn (zAb (zBA (own:=["_law_place"]) (cn:=["_law_pairs", "_law_one", "_law_far_here", "_law_other", "_law_due"]) (ci:=[5,2,1,3,4]) rfl (csc rfl rfl) ⟨rfl,rfl,rfl,rfl,rfl,rfl,rfl,rfl,rfl,rfl,rfl,rfl,rfl,rfl,rfl,trivial⟩ rfl
     (zCE (pv 6)) (fun _ _ _ _=>zr (i:=0) (zBJ rfl) rfl (Or.inl rfl))
     (fun _ _ _ _=>zB0 (zAQ zCv (zBc zCO (zCa hu (pv 1) (zBC (zF (pv 2) (zF (pv 0) zT))) (fun _ _=>rfl)) (zAH zCR (zAH zCR (pv 3) (pv 0) (fun _ _=>rfl)) (pv 4) (fun _ _=>rfl))) (pv 5) (zAc _)))
     (fun _ _ _ _=>pv 0))))))),?_⟩
   obtain⟨r1,a1,w1,f1,g1,i1,j1,l1⟩:=FR.get hx hx' hy hy'
   refine⟨_,rfl,_,rfl,fl,_,_,.ref a1,rfl,rfl,SqL.of f1,g1,_,rfl,a1,_,_,_,rfl,rfl,SqL.of i1,j1,?_⟩
   refine⟨_,rfl,_,rfl,rfl,_,rfl,?_⟩
   by_cases hxy:x=y
   . refine ifT (zV (congrArg V.int hxy)) (ifT rfl ?_)
     exact⟨zc _,fun l hl=>k l [] _ (zG hl) zJ zBX fun p=>⟨fun z=>by simp at z,fun z=>absurd hxy (Nxt.ne G z)⟩⟩
   refine ifF (ze fun z=>hxy (V.int.inj z)) ?_
   refine⟨_,rfl,rfl,_,rfl,?_⟩
   cases e:mat M x y with
   | none=>
    rw[e] at l1
    refine ifT zDB ?_
    exact⟨zc _,fun l hl=>k l [] _ (zG hl) zJ zBX fun p=>⟨fun z=>by simp at z,fun ⟨l,b,_,_,z⟩=>absurd z.1 (l1 _)⟩⟩
   | some d=>
    rw[e] at l1
    have hxy':WM.IsD ts x y d:=l1
    refine ifF (zB2 d) ?_
    refine⟨_,rfl,wa,n,ts,rfl,W,fun dd kvs H1 s1 hd1 pd=>?_⟩
    refine⟨_,rfl,wa,_,_,_,rfl,rfl,SqT.of (s1 _ _ hwa),rfl,n,rfl,by omega,by omega,[.int x,.ref dd],rfl,fun D hD=>?_⟩
    refine zBe (lo:=0) (n:=n.toNat) (fun q ys H7=>q<=n.toNat/\ys=((lowTo q).filter fun o=>(zBv kvs [Sum.inl x,Sum.inl o]).isSome).map V.int/\zA1 H1 H7/\H7 D=some (.lst ys)) ⟨zc _,rfl,zG hD,zJ⟩ (fun q ys H7 h=>?_) (fun q ys H7 hq h=>?_) (fun ys H7 h=>?_)
    . obtain⟨hq,rfl,_⟩:=h
      rw[zB]
      refine zAD (zq _ _) (zAL ?_)
      rw[lowTo,zB,zAn]
      omega
    . obtain⟨_,rfl,s7,hD7⟩:=h
      rw[zAi]
      refine⟨⟨rfl,rfl⟩,?_⟩
      refine⟨_,rfl,_,rfl,by show 2<=sizeLine;decide,fun p hp=>?_⟩
      refine⟨_,rfl,dd,_,rfl,zCz.t (k:=[Sum.inl x,Sum.inl (q:Int)]) (zG hp _ _ (s7 _ _ hd1)) zJ,_,rfl,?_⟩
      refine zDO (fun hc=>?_) (fun hc=>?_)
      . refine⟨_,rfl,zG hp _ _ hD7,hq,?_,zAF (s7.trans (zG hp)) hD,zJ⟩
        rw[zC3,zAh,zBT (p:=fun o=>(zBv kvs [Sum.inl x,Sum.inl o]).isSome) hc,zBx,zQ]
        rfl
      . refine⟨hq,?_,s7.trans (zG hp),zG hp _ _ ?_⟩
        . rw[zC3,zAh,zBU (p:=fun o=>(zBv kvs [Sum.inl x,Sum.inl o]).isSome) hc,zBx,zAB]
        . exact hD7
    . obtain⟨_,rfl,s7,hD7⟩:=h
      generalize hsm:((lowTo n.toNat).filter fun o=>(zBv kvs [Sum.inl x,Sum.inl o]).isSome)=sm at hD7 ⊢
      have sm_rise:sm.Pairwise (· < ·):=by rw[<-hsm];exact (zDt _).sublist zB4
      have sm_mem:∀p,p∈sm↔∃l,Adj ts x p l:=fun p=>by
       rw[<-hsm,zAu,pd.some]
       refine⟨fun h=>h.2,fun h=>⟨mem_ints.mpr ?_,h⟩⟩
       obtain⟨c,ha⟩:=h
       have:=G.adj ha
       omega
      have sm_len:sm.length<=24:=by
       rw[<-hsm]
       refine zy (zq _ _) ?_
       rw[lowTo,zB,zAn]
       omega
      have nb_iff:∀p,p∈sm.filter (nb kvs M x y d)↔Nxt ts x y p:=fun p=>by
       rw[zAu,sm_mem]
       constructor
       . rintro ⟨⟨l,ha⟩,hb⟩
         have hadj:=G.adj ha
         obtain⟨_,_,_,_,_,_,_,l3⟩:=FR.get (x:=p) (y:=y) (by omega) (by omega) hy hy'
         unfold nb at hb
         rw[((pd x p).1 l).mpr ha] at hb
         cases e2:mat M p y with
         | none=>rw[e2] at hb;cases hb
         | some b=>
          rw[e2] at hb l3
          have hs:l+b=d:=of_decide_eq_true hb
          exact⟨l,b,ha,l3,by rw[hs];exact hxy'⟩
       . rintro ⟨l,b,ha,h2,h3⟩
         have hadj:=G.adj ha
         obtain⟨_,_,_,_,_,_,_,l3⟩:=FR.get (x:=p) (y:=y) (by omega) (by omega) hy hy'
         refine⟨⟨l,ha⟩,?_⟩
         unfold nb
         rw[((pd x p).1 l).mpr ha,Len.uniq l3 (show Len ts p y (some b) from h2)]
         exact zV (WM.IsD.uniq h3 hxy')
      refine⟨_,rfl,D,rfl,⟨_,SqL.of hD7⟩,[.ref dd,.int x,.ref fl,.int y,.int d],rfl,fun D2 hD2=>?_⟩
      have nDD:D≠D2:=zh hD7 hD2
      refine zBz (a:=D) (xs:=sm.map V.int) (fun i ys H8=>ys=((sm.take i).filter (nb kvs M x y d)).map V.int/\zA1 H7 H8/\H8 D2=some (.lst ys)) ⟨rfl,zG hD2,zJ⟩ (fun i ys H8 h=>?_) (fun i ys H8 h=>?_) (fun i v ys H8 hv h=>?_) (fun ys H8 h=>?_)
      . exact SqL.of (h.2.1 _ _ hD7)
      . rw[h.1,zB]
        refine zAD (zq _ _) (zAL ?_)
        rw[zw];omega
      . obtain⟨rfl,s8,hD8⟩:=h
        obtain⟨p,hp,rfl⟩:∃p,sm[i]? = some p/\V.int p=v:=by
         rw[zO] at hv
         cases e:sm[i]? with
         | none=>rw[e] at hv;cases hv
         | some p=>rw[e] at hv;exact⟨p,rfl,zR hv⟩
        obtain⟨l,ha⟩:=(sm_mem p).mp (zS hp)
        have hadj:=G.adj ha
        have hval:=((pd x p).1 l).mpr ha
        have s18:zA1 H H8:=s1.trans (s7.trans s8)
        refine⟨⟨rfl,rfl⟩,?_⟩
        refine⟨_,rfl,_,rfl,_,rfl,by show 2<=sizeLine;decide,fun q hq=>?_⟩
        have sq:zA1 H (upd H8 q (.tup [.int x,.int p])):=s18.trans (zG hq)
        obtain⟨r3,a3,w3,f3,g3,i3,j3,l3⟩:=(FR.keep fun b ys e=>sq _ _ e).get (x:=p) (y:=y) (by omega) (by omega) hy hy'
        obtain⟨b,eb⟩:∃b,mat M p y=some b:=by
         cases e2:mat M p y with
         | none=>rw[e2] at l3;exact absurd ((WM.Way.one ha).symm.trans hxy'.1) (l3 _)
         | some b=>exact⟨b,rfl⟩
        rw[eb] at j3
        refine⟨dd,_,rfl,hval ▸ zCz.t (k:=[Sum.inl x,Sum.inl p]) (zG hq _ _ (s8 _ _ (s7 _ _ hd1))) zJ,?_⟩
        refine⟨_,rfl,_,rfl,fl,_,_,.ref a3,rfl,rfl,SqL.of f3,g3,_,rfl,a3,_,_,_,rfl,rfl,SqL.of i3,j3,l,b,rfl,rfl,?_⟩
        refine⟨_,rfl,rfl,_,rfl,?_⟩
        have ek:sm.take (i+1)=sm.take i++[p]:=by rw[zAI,hp];rfl
        have enb:nb kvs M x y d p=decide (l+b=d):=by unfold nb;rw[hval,eb]
        by_cases hs:l+b=d
        . refine ifT (zV (congrArg V.int hs)) ?_
          refine⟨_,rfl,zG hq _ _ hD8,?_,zAF (s8.trans (zG hq)) hD2,zJ⟩
          rw[ek,zAh,zBT (by rw[enb];exact zV hs),zBx,zQ]
          rfl
        . refine ifF (ze fun z=>hs (V.int.inj z)) ?_
          refine⟨?_,s8.trans (zG hq),zG hq _ _ hD8⟩
          rw[ek,zAh,zBU (by rw[enb,ze hs];decide),zBx,zAB]
      . obtain⟨rfl,s8,hD8⟩:=h
        rw[zB,List.take_length] at hD8
        exact k D2 _ H8 (s1.trans (s7.trans s8)) hD8 (sm_rise.sublist zB4) nb_iff
end
noncomputable def spNum:Sp:=fun vs H Q _=>∃i:Int,vs=[.int i]/\Q (.bl true) H
noncomputable def spWi:Sp:=fun vs H Q _=>∃i a b:Int,vs=[.int i,.int a,.int b]/\a<=i/\i<=b/\Q (.bl true) H
noncomputable def spPl:Sp:=fun vs H Q _=>∃n i:Int,vs=[.int n,.int i]/\0<=i/\i<=n-1/\Q (.bl true) H
noncomputable def spTof:Sp:=fun vs H Q _=>∃(p:Addr)(ys:List V),vs=[.ref p,.int ys.length]/\H p=some (.tup ys)/\Q (.bl true) H
structure zJz (n:Int)(os:List Int):Prop where
 ln:os.length=n.toNat
 nd:os.Nodup
 rng:∀p∈os,0<=p/\p<n
noncomputable def zKc:Sp:=fun vs H Q _=>∃(wa p:Addr)(n:Int)(ts:List T3)(os:List Int),vs=[.ref wa,.ref p]/\zBh H wa n ts/\H p=some (.tup (os.map V.int))/\zJz n os/\∀H',zA1 H H'->Q (.bl true) H'
variable {fW:Addr}{fdW:FuncData}
section
variable {P:Program}{w:World}{K:PySem.W.Frag}{mg:Str->Option Value}{base:Heap}
theorem scNum:zAR ["thing"] ["thing"] (defScope zKr):=⟨rfl,rfl,rfl,by decide +kernel,rfl,by decide +kernel,by decide +kernel⟩
theorem ok_num (F:Fun K "is_number" "is_number" zKr f fd') (mIsi:mg "isinstance" = none) (mInt:mg "int" = none) (mBool:mg "bool" = none):zAq P w K mg base CX0 1 f fd' ["thing"] spNum:=by
 refine F.ok scNum (fun vs H Q E h=>?_) (fun cdv A outer s H vs Q E hr h=>?_)
 . obtain⟨i,rfl,_⟩:=h
   rfl
 . obtain⟨i,rfl,k⟩:=h
   refine⟨_,zn (zAb (zFS (zAV zCc (by rfl) mIsi (by decide +kernel) (zF (pv 0) (zF (zGX (T := "int") (by rfl) mInt (by decide +kernel)) zT)))
    (zGY (pe_not (zAV zCc (by rfl) mIsi (by decide +kernel) (zF (pv 0) (zF (zGX (T := "bool") (by rfl) mBool (by decide +kernel)) zT))))))),?_⟩
   refine⟨_,rfl,_,_,_,true,rfl,.int i,rfl,true,rfl,zFa ?_⟩
   exact⟨_,rfl,_,_,_,false,rfl,.int i,rfl,false,rfl,k⟩
theorem scWi:zAR ["thing", "least", "most"] ["thing", "least", "most"] (defScope sWi):=⟨rfl,rfl,rfl,by decide +kernel,rfl,by decide +kernel,by decide +kernel⟩
theorem ok_wi (F:Fun K "is_within" "is_within" sWi f fd') (FN:Fun K "is_number" "is_number" zKr fN fdN) (bN:zAP K fdN ["thing"] []) (mN:mg "is_number" = some (.ref fN)) (mIsi:mg "isinstance" = none) (mInt:mg "int" = none) (mBool:mg "bool" = none) :
 zAq P w K mg base CX0 2 f fd' ["thing", "least", "most"] spWi:=by
 have GN:zAq P w K mg base CX0 1 fN fdN ["thing"] spNum:=ok_num FN mIsi mInt mBool
 refine F.ok scWi (fun vs H Q E h=>?_) (fun cdv A outer s H vs Q E hr h=>?_)
 . obtain⟨i,a,b,rfl,_⟩:=h
   rfl
 . obtain⟨i,a,b,rfl,h1,h2,k⟩:=h
   refine⟨_,zn (zAb (zFS (zx GN hr rfl mN FN.kp bN .nil zAl (zF (pv 0) zT)) (zFS (zCg zK4 (pv 1) (pv 0) (zAc _)) (zGY (zCg zK4 (pv 0) (pv 2) (zAc _)))))),?_⟩
   refine⟨_,rfl,i,rfl,true,rfl,zFa ?_⟩
   refine⟨_,rfl,_,rfl,_,_,rfl,rfl,_,rfl,?_⟩
   refine ifT (zV h1) ?_
   refine⟨_,rfl,_,rfl,_,_,rfl,rfl,?_⟩
   show Q (.bl (decide (i<=b))) H
   rw[zV h2]
   exact k
theorem scPl:zAR ["n", "thing"] ["n", "thing"] (defScope sPl):=⟨rfl,rfl,rfl,by decide +kernel,rfl,by decide +kernel,by decide +kernel⟩
theorem ok_pl (F:Fun K "is_place" "is_place" sPl f fd') (FW:Fun K "is_within" "is_within" sWi fW fdW) (bW:zAP K fdW ["thing", "least", "most"] []) (mW:mg "is_within" = some (.ref fW)) (FN:Fun K "is_number" "is_number" zKr fN fdN) (bN:zAP K fdN ["thing"] []) (mN:mg "is_number" = some (.ref fN)) (mIsi:mg "isinstance" = none) (mInt:mg "int" = none) (mBool:mg "bool" = none) :
 zAq P w K mg base CX0 3 f fd' ["n", "thing"] spPl:=by
 have GW':zAq P w K mg base CX0 2 fW fdW ["thing", "least", "most"] spWi:=ok_wi FW FN bN mN mIsi mInt mBool
 refine F.ok scPl (fun vs H Q E h=>?_) (fun cdv A outer s H vs Q E hr h=>?_)
 . obtain⟨n,i,rfl,_⟩:=h
   rfl
 . obtain⟨n,i,rfl,h1,h2,k⟩:=h
   refine⟨_,zn (zAb (zx GW' hr rfl mW FW.kp bW .nil zAl (zF (pv 1) (zF zAA (zF (zBc zKD (pv 0) zAA) zT))))),?_⟩
   exact⟨_,rfl,_,rfl,_,_,rfl,rfl,i,0,n-1,rfl,h1,h2,k⟩
theorem scTof:zAR ["thing", "count"] ["thing", "count"] (defScope sTof):=⟨rfl,rfl,rfl,by decide +kernel,rfl,by decide +kernel,by decide +kernel⟩
theorem ok_tof (F:Fun K "is_tuple_of" "is_tuple_of" sTof f fd') (mIsi:mg "isinstance" = none) (mTuple:mg "tuple" = none) (mLen:mg "len" = none):zAq P w K mg base CX0 1 f fd' ["thing", "count"] spTof:=by
 refine F.ok scTof (fun vs H Q E h=>?_) (fun cdv A outer s H vs Q E hr h=>?_)
 . obtain⟨p,ys,rfl,_⟩:=h
   rfl
 . obtain⟨p,ys,rfl,hp,k⟩:=h
   refine⟨_,zn (zAb (zFS (zAV zCc (by rfl) mIsi (by decide +kernel) (zF (pv 0) (zF (zGX (T := "tuple") (by rfl) mTuple (by decide +kernel)) zT)))
    (zGY (zCg zCv (zAV zBE (by rfl) mLen PySem.boot_len (zF (pv 0) zT)) (pv 1) (zAc _))))),?_⟩
   refine⟨_,rfl,_,_,_,true,rfl,.tup hp,rfl,true,rfl,zFa ?_⟩
   refine⟨_,rfl,p,_,rfl,.inr (SqT.of hp),_,rfl,rfl,?_⟩
   rw[zV rfl]
   exact k
theorem scOrd:zAR ["web", "thing", "n"] ["web", "thing"] (defScope sOrd):=⟨rfl,rfl,rfl,by decide +kernel,rfl,by decide +kernel,by decide +kernel⟩
theorem ok_ord {fT fP:Addr}{fdP:FuncData}(F:Fun K "is_order" "is_order" sOrd f fd') (FT:Fun K "is_tuple_of" "is_tuple_of" sTof fT fdT) (bT:zAP K fdT ["thing", "count"] []) (mT:mg "is_tuple_of" = some (.ref fT))
 (FW:Fun K "is_within" "is_within" sWi fW fdW) (bW:zAP K fdW ["thing", "least", "most"] []) (mW:mg "is_within" = some (.ref fW)) (FP:Fun K "is_place" "is_place" sPl fP fdP) (bP:zAP K fdP ["n", "thing"] []) (mP:mg "is_place" = some (.ref fP)) (FN:Fun K "is_number" "is_number" zKr fN fdN) (bN:zAP K fdN ["thing"] []) (mN:mg "is_number" = some (.ref fN))
 (mIsi:mg "isinstance" = none) (mInt:mg "int" = none) (mBool:mg "bool" = none) (mTuple:mg "tuple" = none) (mLen:mg "len" = none) (mAll:mg "all" = none) (mSet:mg "set" = none):zAq P w K mg base CX0 4 f fd' ["web", "thing"] zKc:=by
 have GT:zAq P w K mg base CX0 3 fT fdT ["thing", "count"] spTof:=(ok_tof FT mIsi mTuple mLen).mono (by decide)
 have GP:zAq P w K mg base CX0 3 fP fdP ["n", "thing"] spPl:=ok_pl FP FW bW mW FN bN mN mIsi mInt mBool
 refine F.ok scOrd (fun vs H Q E h=>?_) (fun cdv A outer s H vs Q E hr h=>?_)
 . obtain⟨wa,p,n,ts,os,rfl,_⟩:=h
   rfl
 . obtain⟨wa,p,n,ts,os,rfl,W,hp,O,k⟩:=h
   obtain⟨ta,tys,hwa,_,_,G⟩:=id W
   have hn1:=G.n1
   have hn24:=G.n24
   have hol:os.length<=24:=by rw[O.ln];omega
   refine⟨_,zW (zAN (i:=2) scOrd.nd rfl (Or.inr rfl) (zAH zAr (pv 0) zAA (fun _ _=>rfl)))
    (zW (zCK (PW.pt (zG1 (zGW (zDh (zx GT hr rfl mT FT.kp bT .nil zAl (zF (pv 1) (zF (pv 2) zT)))))
     (zFO (zGW (zDh (zAV (zE3 rfl) (by rfl) mAll (by decide +kernel) (zF (zBA (own:=["place"]) (cn:=["n"]) (ci:=[2]) rfl (csc rfl rfl) ⟨rfl,rfl,rfl,trivial⟩ rfl (zBu (pv 1)) (fun _ _ _ _=>zr (i:=0) (zBJ rfl) rfl (Or.inl rfl))
      (fun _ _ _ _=>zBK) (fun _ _ _ _=>zx GP hr rfl mP FP.kp bP .nil zAl (zF (pv 1) (zF (pv 0) zT)))) zT))))))) (zn (zAb zH4)) zA7)
    (zn (zAb (zCg zCv (zAV zIt (by rfl) mLen PySem.boot_len (zF (zAf (zIr rfl) (by rfl) mSet (by decide +kernel) (zF (pv 1) zT)) zT)) (pv 2) (zAc _))))),?_⟩
   refine⟨_,rfl,wa,_,_,_,rfl,rfl,SqT.of hwa,rfl,?_⟩
   have hpl:(os.map V.int).length=n:=by rw[zB,O.ln];omega
   refine⟨_,rfl,_,rfl,p,os.map V.int,by rw[hpl];rfl,hp,_,rfl,zDU ?_⟩
   refine⟨_,rfl,p,rfl,⟨_,SqT.of hp⟩,[.int n],rfl,fun D hD=>?_⟩
   refine zBN (a:=p) (xs:=os.map V.int) (fun i ys H4=>i<=os.length/\ys=(List.replicate i true).map V.bl/\H4=upd H D (.lst ys)) ⟨zc _,rfl,rfl⟩ (fun i ys H4 h=>?_) (fun i ys H4 h=>?_) (fun i v ys H4 hv h=>?_) (fun ys H4 h=>?_)
   . obtain⟨_,_,rfl⟩:=h
     exact SqT.of (by rw[zZ (zh hp hD)];exact hp)
   . obtain⟨hi,rfl,_⟩:=h
     rw[zB,zAa]
     exact zAL (by omega)
   . obtain⟨_,rfl,rfl⟩:=h
     obtain⟨x,hx,rfl⟩:∃x,os[i]? = some x/\V.int x=v:=by
      rw[zO] at hv
      cases e:os[i]? with
      | none=>rw[e] at hv;cases hv
      | some x=>rw[e] at hv;exact⟨x,rfl,zR hv⟩
     have hr':=O.rng x (zS hx)
     refine⟨⟨rfl,rfl⟩,?_⟩
     refine zD8 ?_
     refine⟨_,rfl,_,rfl,n,x,rfl,hr'.1,by omega,?_⟩
     refine⟨zJ,(zE.mp hx).1,?_,zCW⟩
     rw[List.replicate_succ',zQ];rfl
   . obtain⟨_,rfl,rfl⟩:=h
     refine⟨D,List.replicate (os.map V.int).length true,rfl,SqL.of zJ,_,rfl,?_⟩
     have hall:(List.replicate (os.map V.int).length true).all id=true:=zAy.mpr fun b hb=>(List.mem_replicate.mp hb).2
     rw[hall]
     refine zDU ?_
     have hp5:=zG (o:=.lst ((List.replicate (os.map V.int).length true).map V.bl)) hD _ _ hp
     refine⟨_,rfl,p,os,rfl,SqT.of hp5,by omega,fun d S hd=>?_⟩
     refine⟨d,S,_,rfl,zJ,_,rfl,rfl,?_⟩
     rw[zDx O.nd os.length (zL _),zf (zL _),zV (by rw[<-hpl,zB])]
     exact k _ ((zG hD).trans (zG hd))
end
noncomputable def eV (e:En):List V:=[.int e.h,.int e.l,oV e.u,oV e.d]
noncomputable def zCI (H:Hp)(as:List Addr)(es:List En):Prop:=as.length=es.length/\∀(i:Nat)(a:Addr),as[i]? = some a->∃e,es[i]? = some e/\H a=some (.tup (eV e))
noncomputable def zB6 (H:Hp)(p:Addr)(es:List En):Prop:=∃as:List Addr,H p=some (.tup (as.map V.ref))/\zCI H as es/\es.length<=1000
variable {as:List Addr}{es:List En}
theorem zCI.keep (h:zCI H as es)(k:∀b ys,H b=some (.tup ys)->H' b=some (.tup ys)):zCI H' as es:=
 ⟨h.1,fun i a ha=>let ⟨e,h1,h2⟩:=h.2 i a ha;⟨e,h1,k _ _ h2⟩⟩
variable {e:En}
theorem zCI.snoc {a:Addr}(h:zCI H as es)(ha:H a=some (.tup (eV e))):zCI H (as++[a]) (es++[e]):=by
 refine⟨by rw[zI,zI,h.1];rfl,fun i b hb=>?_⟩
 by_cases c:i<as.length
 . rw[zN c] at hb
   obtain⟨e',h1,h2⟩:=h.2 i b hb
   exact⟨e',by rw[zN (by rw[<-h.1];exact c)];exact h1,h2⟩
 . rw[zM (by omega)] at hb
   have hi:i-as.length=0:=by
    cases z:i-as.length with
    | zero=>rfl
    | succ m=>rw[z] at hb;simp at hb
   rw[hi] at hb
   have:a=b:=by simpa using hb
   subst this
   exact⟨e,by rw[zM (by rw[<-h.1];omega),<-h.1,hi];rfl,ha⟩
theorem zB6.keep {H H':Hp}{p:Addr}{es:List En}(h:zB6 H p es)(k:∀b ys,H b=some (.tup ys)->H' b=some (.tup ys)):zB6 H' p es:=
 let ⟨as,h1,h2,h3⟩:=h;⟨as,k _ _ h1,h2.keep k,h3⟩
theorem zB6.same (h:zB6 H p es)(k:zA1 H H'):zB6 H' p es:=h.keep fun b ys e=>k _ _ e
theorem zCI.at {H:Hp}{as:List Addr}{es:List En}(h:zCI H as es){i:Nat}{v:V}(hv:(as.map V.ref)[i]? = some v):∃a e,v = .ref a/\es[i]? = some e/\H a=some (.tup (eV e)):=by
 rw[zO] at hv
 cases z:as[i]? with
 | none=>rw[z] at hv;cases hv
 | some a=>
  rw[z] at hv
  obtain⟨e,h1,h2⟩:=h.2 i a z
  exact⟨a,e,(zR hv).symm,h1,h2⟩
theorem zAd {n:Nat}(h:n<=1000):n<sizeLine:=zAD h (by decide)
theorem zLb {b:Int}:decide (V.int a=V.int b)=decide (a=b):=by
 by_cases h:a=b
 . rw[zV h,zV (congrArg V.int h)]
 . rw[ze h,ze fun z=>h (V.int.inj z)]
noncomputable def rkf (rks:List Int)(p:Int):Int:=rks.getD p.toNat 0
noncomputable def zDP (ts:List T3)(rk:Int->Int)(h v:Int):Prop:=(∃d,WM.IsD ts h v d)/\∀p,Btw ts h v p->rk h<=rk p
noncomputable def zHN (P:Int->Prop):Option Int->Prop
 | none=>∀p,¬ P p
 | some m=>P m/\∀p,P p->m<=p
theorem zHN.congr {P P':Int->Prop}(e:∀p,P p↔P' p):∀{o:Option Int},zHN P o->zHN P' o
 | none,h=>fun p z=>h p ((e p).mpr z)
 | some _,h=>⟨(e _).mp h.1,fun p z=>h.2 p ((e p).mpr z)⟩
structure zHK (ts:List T3)(n:Int)(rk:Int->Int)(v:Int)(e:En):Prop where
 rng:0<=e.h/\e.h<n
 hub:zDP ts rk e.h v
 len:WM.IsD ts v e.h e.l
 up:zHN (Nxt ts v e.h) e.u
 dn:zHN (Nxt ts e.h v) e.d
structure zJ0 (ts:List T3)(n:Int)(rk:Int->Int)(v:Int)(es:List En):Prop where
 hub:Hub es
 ent:∀e∈es,zHK ts n rk v e
 all:∀h,0<=h->h<n->zDP ts rk h v->∃e∈es,e.h=h
 len:es.length<=24
noncomputable def zBF (H:Hp)(l:Addr)(ess:List (List En)):Prop:=∃as:List Addr,H l=some (.tup (as.map V.ref))/\as.length=ess.length/\∀(i:Nat)(a:Addr),as[i]? = some a->∃es,ess[i]? = some es/\zB6 H a es
theorem zBF.keep {H H':Hp}{l:Addr}{ess:List (List En)}(h:zBF H l ess)(k:∀b ys,H b=some (.tup ys)->H' b=some (.tup ys)):zBF H' l ess:=
 let ⟨as,h1,h2,h3⟩:=h;⟨as,k _ _ h1,h2,fun i a ha=>let ⟨es,e1,e2⟩:=h3 i a ha;⟨es,e1,e2.keep k⟩⟩
theorem zCk.at (RA:zCk H rs M)(RR:Rows ts n M)(h0:0<=x)(h1:x<n) :
 ∃r,(rs.map V.ref)[x.toNat]? = some (.ref r)/\H r=some (.tup ((M.getD x.toNat []).map oV))/\zI6 ts n x (M.getD x.toNat []):=by
 have hM:x.toNat<M.length:=by rw[RR.1];omega
 have hr:x.toNat<rs.length:=by rw[RA.1];exact hM
 have e:M[x.toNat]? = some (M.getD x.toNat []):=by rw[zD,zA hM];rfl
 exact⟨rs[x.toNat],by rw[zO,zA hr];rfl,RA.2 _ _ _ (zA hr) e,RR.2 x h0 h1⟩
theorem zCk.same (h:zCk H rs M)(k:zA1 H H'):zCk H' rs M:=⟨h.1,fun i r row a b=>k _ _ (h.2 i r row a b)⟩
variable {K:PySem.W.Frag}
theorem zII {xs:List Int}{Q:VK}(hp:SqT K H p (xs.map V.int))(h:∀u,zHN (· ∈ xs) u->Q (oV u) H):rMinD K (.ref p) .non H Q:=by
 refine⟨p,_,rfl,.inr hp,fun e=>?_,.inr ⟨xs,rfl,fun n hn hm=>h (some n) ⟨hn,hm⟩⟩⟩
 have:xs=[]:=by simpa using e
 exact h none fun q hq=>by rw[this] at hq;simp at hq
structure zI0 (H:Hp)(rl ra:Addr)(rs:List Addr)(M:List (List (Option Int)))(rks:List Int)(n:Int)(ts:List T3):Prop where
 tab:H rl=some (.tup (rs.map V.ref))
 rows:zCk H rs M
 right:Rows ts n M
 rk:H ra=some (.lst (rks.map V.int))
 rln:rks.length=n.toNat
 web:GW n ts
theorem zI0.same {rl ra:Addr}{rks:List Int}(L:zI0 H rl ra rs M rks n ts)(k:zA1 H H'):zI0 H' rl ra rs M rks n ts:=⟨k _ _ L.tab,L.rows.same k,L.right,k _ _ L.rk,L.rln,L.web⟩
theorem zI0.rank {rl ra:Addr}{rks:List Int}(L:zI0 H rl ra rs M rks n ts)(h0:0<=x)(h1:x<n):(rks.map V.int)[x.toNat]? = some (.int (rkf rks x)):=by
 have:x.toNat<rks.length:=by rw[L.rln];omega
 rw[zO,zA this]
 unfold rkf
 rw[zD,zA this]
 rfl
noncomputable def zKf:Sp:=fun vs H Q _=>∃(rl ra:Addr)(rs:List Addr)(M:List (List (Option Int)))(rks:List Int)(n:Int)(ts:List T3)(h v:Int),vs=[.ref rl,.ref ra,.int h,.int v]/\zI0 H rl ra rs M rks n ts/\0<=h/\h<n/\0<=v/\v<n /\
 ∀(b:Bool)(H':Hp),zA1 H H'->(b=true↔zDP ts (rkf rks) h v)->Q (.bl b) H'
noncomputable def zKg:Sp:=fun vs H Q _=>∃(wa rl ra:Addr)(rs:List Addr)(M:List (List (Option Int)))(rks:List Int)(n:Int)(ts:List T3)(v h:Int),vs=[.ref wa,.ref rl,.int v,.int h]/\zBh H wa n ts/\zI0 H rl ra rs M rks n ts/\0<=h/\h<n/\0<=v/\v<n/\zDP ts (rkf rks) h v /\
 ∀(a:Addr)(e:En)(H':Hp),zA1 H H'->H' a=some (.tup (eV e))->e.h=h->zHK ts n (rkf rks) v e->Q (.ref a) H'
noncomputable def zKd:Sp:=fun vs H Q _=>∃(wa rl ra:Addr)(rs:List Addr)(M:List (List (Option Int)))(rks:List Int)(n:Int)(ts:List T3)(v:Int),vs=[.ref wa,.ref rl,.ref ra,.int v]/\zBh H wa n ts/\zI0 H rl ra rs M rks n ts/\0<=v/\v<n /\
 ∀(a:Addr)(es:List En)(H':Hp),zA1 H H'->zB6 H' a es->zJ0 ts n (rkf rks) v es->Q (.ref a) H'
section
variable {P:Program}{w:World}{K:PySem.W.Frag}{mg:Str->Option Value}{base:Heap}
theorem scIsh:zAR ["rows", "ranks", "hub", "place"] ["rows", "ranks", "hub", "place"] (defScope sIsh):=⟨rfl,rfl,rfl,by decide +kernel,rfl,by decide +kernel,by decide +kernel⟩
theorem ok_ish {fB:Addr}{fdB:FuncData}(F:Fun K "is_hub" "is_hub" sIsh f fd') (FB:Fun K "between_rows" "between_rows" sBwr fB fdB) (bB:zAP K fdB ["here", "there", "other"] []) (mB:mg "between_rows" = some (.ref fB)) (mRange:mg "range" = none) (mTuple:mg "tuple" = none) (mLen:mg "len" = none) (mAll:mg "all" = none) :
 zAq P w K mg base CX0 2 f fd' ["rows", "ranks", "hub", "place"] zKf:=by
 have GB:zAq P w K mg base CX0 1 fB fdB ["here", "there", "other"] spBwr:=ok_bwr FB mRange mTuple mLen
 refine F.ok scIsh (fun vs H Q E h=>?_) (fun cdv A outer s H vs Q E hr h=>?_)
 . obtain⟨rl,ra,rs,M,rks,n,ts,h,v,rfl,_⟩:=h
   rfl
 . obtain⟨rl,ra,rs,M,rks,n,ts,h,v,rfl,L,h0,h1,v0,v1,k⟩:=h
   have G:=L.web
   have hn24:=G.n24
   refine⟨_,zW (zCK (zAQ zCr (zAH zAr (zAH zAr (pv 0) (pv 2) (fun _ _=>rfl)) (pv 3) (fun _ _=>rfl)) zBl (zAc _)) (zn (zAb zH4)) zA7)
    (zn (zAb (zAV (zE3 rfl) (by rfl) mAll (by decide +kernel) (zF (zBA (own:=["other"]) (cn:=["ranks", "hub"]) (ci:=[1,2]) rfl (csc rfl rfl) ⟨rfl,rfl,rfl,rfl,rfl,rfl,trivial⟩ rfl
     (zBu (zx GB hr rfl mB FB.kp bB .nil zAl (zF (zAH zAr (pv 0) (pv 2) (fun _ _=>rfl)) (zF (zAH zAr (pv 0) (pv 3) (fun _ _=>rfl)) (zF (pv 3) zT))))) (fun _ _ _ _=>zr (i:=0) (zBJ rfl) rfl (Or.inl rfl))
     (fun _ _ _ _=>zBK) (fun _ _ _ _=>zCg zK4 (zAH zCR (pv 1) (pv 2) (fun _ _=>rfl)) (zAH zCR (pv 1) (pv 0) (fun _ _=>rfl)) (zAc _))) zT)))),?_⟩
   obtain⟨rh,gh,hh,Lh⟩:=L.rows.at L.right h0 h1
   obtain⟨rv,gv,hv,Lv⟩:=L.rows.at L.right v0 v1
   have lhv:=Lh.len v v0 v1
   refine⟨_,rfl,_,rfl,rl,_,_,.ref rh,rfl,rfl,SqT.of L.tab,zBI h0 gh,_,rfl,rh,_,_,oV (fnl (M.getD h.toNat []) v),rfl,rfl,SqT.of hh,zBI v0 (zCH Lh v0 v1),rfl,_,rfl,?_⟩
   rw[zEN]
   cases ed:fnl (M.getD h.toNat []) v with
   | none=>
    rw[ed] at lhv
    refine zFa ?_
    exact k false H (zA1.refl _) ⟨(fun z=>by cases z),(fun z=>by obtain⟨d,hd⟩:=z.1;exact absurd hd.1 (lhv d))⟩
   | some d=>
    rw[ed] at lhv
    refine zDU ?_
    refine⟨_,rfl,_,rfl,rl,_,_,.ref rh,rfl,rfl,SqT.of L.tab,zBI h0 gh,_,rfl,_,rfl,rl,_,_,.ref rv,rfl,rfl,SqT.of L.tab,zBI v0 gv,_,rfl,rh,rv,n,ts,h,v,_,_,rfl,G,h0,h1,v0,v1,hh,hv,Lh,Lv,fun l xs H1 s1 hl hrise hmem=>?_⟩
    have hxr:∀p∈xs,0<=p/\p<n:=fun p hp=>by
     obtain⟨a,b,ia,_⟩:=(hmem p).mp hp
     exact ia.1.in_ G h0 h1
    have hxl:xs.length<=24:=by
     have:=nd_len (n:=n.toNat) (l:=xs) (hrise.imp fun z=>by omega) fun x hx=>by have:=hxr x hx;omega
     omega
    refine⟨l,rfl,⟨_,SqT.of hl⟩,[.ref ra,.int h],rfl,fun D hD=>?_⟩
    have hra:=s1 _ _ L.rk
    refine zBN (a:=l) (xs:=xs.map V.int) (fun i ys H4=>ys=((xs.take i).map fun p=>decide (rkf rks h<=rkf rks p)).map V.bl/\H4=upd H1 D (.lst ys)) ⟨rfl,rfl⟩ (fun i ys H4 z=>?_) (fun i ys H4 z=>?_) (fun i x ys H4 hx z=>?_) (fun ys H4 z=>?_)
    . obtain⟨_,rfl⟩:=z
      exact SqT.of (by rw[zZ (zh hl hD)];exact hl)
    . obtain⟨rfl,_⟩:=z
      rw[zB,zB,zw]
      exact zAL (by omega)
    . obtain⟨rfl,rfl⟩:=z
      obtain⟨p,hp,rfl⟩:∃p,xs[i]? = some p/\V.int p=x:=by
       rw[zO] at hx
       cases e:xs[i]? with
       | none=>rw[e] at hx;cases hx
       | some p=>rw[e] at hx;exact⟨p,rfl,zR hx⟩
      have hpr:=hxr p (zS hp)
      have hra4:=zG (o:=.lst (((xs.take i).map fun p=>decide (rkf rks h<=rkf rks p)).map V.bl)) hD _ _ hra
      refine⟨⟨rfl,rfl⟩,?_⟩
      refine zD8 ?_
      refine⟨_,rfl,_,rfl,ra,_,_,.int (rkf rks h),rfl,rfl,SqL.of hra4,zBI h0 (L.rank h0 h1),_,rfl,_,rfl,ra,_,_,.int (rkf rks p),rfl,rfl,SqL.of hra4,zBI hpr.1 (L.rank hpr.1 hpr.2),_,_,rfl,rfl,zJ,?_,zCW⟩
      rw[zAI,hp,zQ,zQ];rfl
    . obtain⟨rfl,rfl⟩:=z
      rw[zB,zf (zL _)]
      refine⟨D,_,rfl,SqL.of zJ,?_⟩
      refine k _ _ (s1.trans (zG hD)) ⟨fun z=>⟨⟨d,lhv⟩,fun p hp=>?_⟩,fun z=>zAy.mpr fun b hb=>?_⟩
      . have:=zAy.mp z _ (zi.mpr ⟨p,(hmem p).mpr hp,rfl⟩)
        exact of_decide_eq_true this
      . obtain⟨p,hp,rfl⟩:=zi.mp hb
        exact zV (z.2 p ((hmem p).mp hp))
theorem zKp:zAR ["web", "rows", "place", "hub", "up", "down"] ["web", "rows", "place", "hub"] (defScope sEbr):=⟨rfl,rfl,rfl,by decide +kernel,rfl,by decide +kernel,by decide +kernel⟩
theorem ok_ebr {fT:Addr}(F:Fun K "entry_by_rows" "entry_by_rows" sEbr f fd') (FN:Fun K "next_by_row" "next_by_row" sNbr fN fdN) (bN:zAP K fdN ["web", "one", "there"] []) (mN:mg "next_by_row" = some (.ref fN))
 (FT:Fun K "ties_at" "ties_at" zFz fT fdT) (bT:zAP K fdT ["web", "place"] []) (mT:mg "ties_at" = some (.ref fT)) (mSorted:mg "sorted" = none) (mTuple:mg "tuple" = none) (mMin:mg "min" = none):zAq P w K mg base CX0 4 f fd' ["web", "rows", "place", "hub"] zKg:=by
 have GN:zAq P w K mg base CX0 3 fN fdN ["web", "one", "there"] spNbr:=ok_nbr FN FT bT mT mSorted mTuple
 refine F.ok zKp (fun vs H Q E h=>?_) (fun cdv A outer s H vs Q E hr h=>?_)
 . obtain⟨wa,rl,ra,rs,M,rks,n,ts,v,h,rfl,_⟩:=h
   rfl
 . obtain⟨wa,rl,ra,rs,M,rks,n,ts,v,h,rfl,W,L,h0,h1,v0,v1,hh,k⟩:=h
   have hu:=zDv hr
   refine⟨_,zW (zAN (i:=4) zKp.nd rfl (Or.inl rfl) (zF0 rfl hu (by rfl) mMin (zF (zx GN hr rfl mN FN.kp bN .nil zAl (zF (pv 0) (zF (pv 2) (zF (zAH zAr (pv 1) (pv 3) (fun _ _=>rfl)) zT)))) zT) zBl))
    (zW (zAN (i:=5) zKp.nd rfl (Or.inl rfl) (zF0 rfl hu (by rfl) mMin (zF (zx GN hr rfl mN FN.kp bN .nil zAl (zF (pv 0) (zF (pv 3) (zF (zAH zAr (pv 1) (pv 2) (fun _ _=>rfl)) zT)))) zT) zBl))
    (zn (zAb (zBC (zF (pv 3) (zF (zAH zAr (zAH zAr (pv 1) (pv 2) (fun _ _=>rfl)) (pv 3) (fun _ _=>rfl)) (zF (pv 4) (zF (pv 5) zT)))))))),?_⟩
   obtain⟨rh,gh,ha,Lh⟩:=L.rows.at L.right h0 h1
   obtain⟨rv,gv,hv,Lv⟩:=L.rows.at L.right v0 v1
   refine⟨_,rfl,_,rfl,_,rfl,_,rfl,rl,_,_,.ref rh,rfl,rfl,SqT.of L.tab,zBI h0 gh,wa,rh,n,ts,v,h,_,rfl,W,v0,v1,h0,h1,ha,Lh,fun l1 xs H1 s1 hl1 _ hm1=>?_⟩
   refine⟨_,rfl,?_⟩
   unfold tC
   refine zII (SqT.of hl1) fun u hu1=>?_
   have L1:=L.same s1
   refine⟨_,rfl,_,rfl,_,rfl,_,rfl,rl,_,_,.ref rv,rfl,rfl,SqT.of L1.tab,zBI v0 gv,wa,rv,n,ts,h,v,_,rfl,W.keep s1,h0,h1,v0,v1,s1 _ _ hv,Lv,fun l2 ys H2 s2 hl2 _ hm2=>?_⟩
   refine⟨_,rfl,?_⟩
   dsimp only
   refine zII (SqT.of hl2) fun d hd1=>?_
   have s12:=s1.trans s2
   have L2':=L.same s12
   obtain⟨dd,hdd⟩:=hh.1
   have lv:=Len.uniq (Lv.len h h0 h1) (show Len ts v h (some dd) from WM.IsD.symm hdd)
   refine⟨_,rfl,_,rfl,_,rfl,rl,_,_,.ref rv,rfl,rfl,SqT.of L2'.tab,zBI v0 gv,_,rfl,rv,_,_,.int dd,rfl,rfl,SqT.of (s12 _ _ hv),zBI h0 (by rw[zCH Lv h0 h1,lv];rfl),_,rfl,_,rfl,by show 4<=sizeLine;decide,fun a ha'=>?_⟩
   exact k a ⟨h,dd,u,d⟩ _ (s12.trans (zG ha')) zJ rfl ⟨⟨h0,h1⟩,hh,WM.IsD.symm hdd,hu1.congr hm1,hd1.congr hm2⟩
end
theorem zHv (R:Rows ts n M){d:Int}(x0:0<=x)(x1:x<n)(y0:0<=y)(y1:y<n)(h:WM.IsD ts x y d):0<=d/\d<=2376:=by
 have L:=R.2 x x0 x1
 have l:=L.len y y0 y1
 cases e:fnl (M.getD x.toNat []) y with
 | none=>rw[e] at l;exact absurd h.1 (l d)
 | some d'=>
  rw[e] at l
  have ed:d'=d:=WM.IsD.uniq l h
  subst ed
  refine L.bd (some d') ?_ d' rfl
  unfold fnl at e
  rw[if_pos y0,zD] at e
  cases e2:(M.getD x.toNat [])[y.toNat]? with
  | none=>rw[e2] at e;cases e
  | some o=>
   rw[e2] at e
   have eo:o=some d':=e
   rw[<-eo]
   exact zS e2
noncomputable def zKQ (n:Int)(os:List Int)(rk:Int->Int):Prop:=∀p,0<=p->p<n->0<=rk p/\os[(rk p).toNat]? = some p
noncomputable def zFu (ts:List T3)(n:Int)(rk:Int->Int)(ess:List (List En)):Prop:=ess.length=n.toNat/\∀(i:Nat)(es:List En),ess[i]? = some es->zJ0 ts n rk i es
noncomputable def spByo (PT:Addr):Sp:=fun vs H Q _=>∃(wa p:Addr)(n:Int)(ts:List T3)(os:List Int),vs=[.ref wa,.ref p]/\zBh H wa n ts/\H p=some (.tup (os.map V.int))/\zJz n os/\Tb H PT /\
 ∀(l:Addr)(ess:List (List En))(rk:Int->Int)(H':Hp),SmT H H'->Tb H' PT->zBF H' l ess->zKQ n os rk->zFu ts n rk ess->(∀es∈ess,∀e∈es,0<=e.l/\e.l<=2376)->Q (.ref l) H'
variable {os:List Int}
theorem zJz.mem (O:zJz n os){p:Int}(h0:0<=p)(h1:p<n):p∈os:=by
 apply zAo
 intro hn
 have:=nd_len (n:=n.toNat) (l:=p::os) (zA3.mpr ⟨hn,O.nd⟩) fun x hx=>by
  rcases zm.mp hx with rfl | hx
  . omega
  . have:=O.rng x hx;omega
 rw[zAG,O.ln] at this
 omega
variable {fE fO:Addr}{fdE fdO:FuncData}
section
variable {P:Program}{w:World}{K:PySem.W.Frag}{mg:Str->Option Value}{base:Heap}{PT:Addr}
theorem scLbr:zAR ["web", "rows", "ranks", "place", "hubs"] ["web", "rows", "ranks", "place"] (defScope sLbr):=⟨rfl,rfl,rfl,by decide +kernel,rfl,by decide +kernel,by decide +kernel⟩
theorem ok_lbr {fI:Addr}{fdI:FuncData}(F:Fun K "label_by_ranks" "label_by_ranks" sLbr f fd') (FI:Fun K "is_hub" "is_hub" sIsh fI fdI) (bI:zAP K fdI ["rows", "ranks", "hub", "place"] []) (mI:mg "is_hub" = some (.ref fI)) (GI:zAq P w K mg base CX0 4 fI fdI ["rows", "ranks", "hub", "place"] zKf)
 (FE:Fun K "entry_by_rows" "entry_by_rows" sEbr fE fdE) (bE:zAP K fdE ["web", "rows", "place", "hub"] []) (mE:mg "entry_by_rows" = some (.ref fE)) (GE:zAq P w K mg base CX0 4 fE fdE ["web", "rows", "place", "hub"] zKg) (mRange:mg "range" = none) (mTuple:mg "tuple" = none) :
 zAq P w K mg base CX0 5 f fd' ["web", "rows", "ranks", "place"] zKd:=by
 refine F.ok scLbr (fun vs H Q E h=>?_) (fun cdv A outer s H vs Q E hr h=>?_)
 . obtain⟨wa,rl,ra,rs,M,rks,n,ts,v,rfl,_⟩:=h
   rfl
 . obtain⟨wa,rl,ra,rs,M,rks,n,ts,v,rfl,W,L,v0,v1,k⟩:=h
   obtain⟨ta,tys,hwa,_,_,G⟩:=id W
   have hn1:=G.n1
   have hn24:=G.n24
   refine⟨_,zW (zCZ (i:=4) (own:=["hub"]) (cn:=["rows", "ranks", "place"]) (ci:=[1,2,3]) scLbr.nd rfl (Or.inl rfl) rfl (csc rfl rfl) ⟨rfl,rfl,rfl,rfl,rfl,rfl,rfl,rfl,rfl,trivial⟩ rfl
    (zAm rfl mRange (zF (zAH zAr (pv 0) zAA (fun _ _=>rfl)) zT)) (fun _ _ _ _=>zr (i:=0) (zBJ rfl) rfl (Or.inl rfl))
    (fun _ _ _ _=>zB0 (zDh (zx GI hr rfl mI FI.kp bI .nil zAl (zF (pv 1) (zF (pv 2) (zF (pv 0) (zF (pv 3) zT))))))) (fun _ _ _ _=>pv 0))
    (zn (zAb (zAf zAJ (by rfl) mTuple (by decide +kernel) (zF (zBA (own:=["hub"]) (cn:=["web", "rows", "place"]) (ci:=[0,1,3]) rfl (csc rfl rfl) ⟨rfl,rfl,rfl,rfl,rfl,rfl,rfl,rfl,rfl,trivial⟩ rfl
     (zCE (pv 4)) (fun _ _ _ _=>zr (i:=0) (zBJ rfl) rfl (Or.inl rfl)) (fun _ _ _ _=>zBK)
     (fun _ _ _ _=>zx GE hr rfl mE FE.kp bE .nil zAl (zF (pv 1) (zF (pv 2) (zF (pv 3) (zF (pv 0) zT)))))) zT)))),?_⟩
   refine⟨_,rfl,wa,_,_,_,rfl,rfl,SqT.of hwa,rfl,n,rfl,by omega,by omega,[.ref rl,.ref ra,.int v],rfl,fun D hD=>?_⟩
   refine zBe (lo:=0) (n:=n.toNat) (fun q ys H3=>q<=n.toNat/\(∃hs:List Int,ys=hs.map V.int/\hs.Pairwise (· < ·)/\∀p,p∈hs↔(0<=p/\p<(q:Int))/\zDP ts (rkf rks) p v)/\zA1 H H3/\H3 D=some (.lst ys)) ⟨zc _,⟨[],rfl,zBX,fun p=>⟨fun z=>by simp at z,fun z=>absurd z.1 (by omega)⟩⟩,zG hD,zJ⟩ (fun q ys H3 z=>?_) (fun q ys H3 hq z=>?_) (fun ys H3 z=>?_)
   . obtain⟨hq,⟨hs,rfl,hp,hm⟩,_⟩:=z
     rw[zB]
     have:=nd_len (n:=q) (l:=hs) (hp.imp fun z=>by omega) fun x hx=>by have:=((hm x).mp hx).1;omega
     exact zAL (by omega)
   . obtain⟨_,⟨hs,rfl,hp,hm⟩,s3,hD3⟩:=z
     rw[zAi]
     refine⟨⟨rfl,rfl⟩,?_⟩
     refine⟨_,rfl,_,rfl,_,rfl,_,rfl,rl,ra,rs,M,rks,n,ts,q,v,rfl,L.same s3,by omega,by omega,v0,v1,fun b H4 s4 hb=>?_⟩
     refine⟨_,rfl,?_⟩
     refine zDO (fun c=>?_) (fun c=>?_)
     . refine⟨_,rfl,s4 _ _ hD3,hq,⟨hs++[(q:Int)],by rw[zQ];rfl,List.pairwise_append.mpr ⟨hp,List.pairwise_singleton _ _,fun a ha b hb'=>?_⟩,fun p=>?_⟩,zAF (s3.trans s4) hD,zJ⟩
       . have:b=(q:Int):=by simpa using hb'
         have:=((hm a).mp ha).1
         omega
       . rw[zu,hm]
         constructor
         . rintro (⟨a,b⟩ | a)
           . exact⟨by omega,b⟩
           . have:p=(q:Int):=by simpa using a
             subst this
             exact⟨by omega,hb.mp c⟩
         . rintro ⟨a,b⟩
           by_cases e:p=(q:Int)
           . exact .inr (by simpa using e)
           . exact .inl ⟨by omega,b⟩
     . refine⟨hq,⟨hs,rfl,hp,fun p=>?_⟩,s3.trans s4,s4 _ _ hD3⟩
       rw[hm]
       constructor
       . rintro ⟨a,b⟩;exact⟨by omega,b⟩
       . rintro ⟨a,b⟩
         refine⟨?_,b⟩
         have:p≠(q:Int):=fun z=>by subst z;exact c (hb.mpr b)
         omega
   . obtain⟨_,⟨hs,rfl,hp,hm⟩,s3,hD3⟩:=z
     have hsl:hs.length<=24:=by
      have:=nd_len (n:=n.toNat) (l:=hs) (hp.imp fun z=>by omega) fun x hx=>by have:=((hm x).mp hx).1;omega
      omega
     refine⟨_,rfl,D,rfl,⟨_,SqL.of hD3⟩,[.ref wa,.ref rl,.int v],rfl,fun D2 hD2=>?_⟩
     refine zBz (a:=D) (xs:=hs.map V.int) (fun i ys H5=>i<=hs.length/\(∃(as:List Addr)(es:List En),ys=as.map V.ref/\zCI H5 as es/\es.map (·.h)=hs.take i/\∀e∈es,zHK ts n (rkf rks) v e)/\zA1 H3 H5/\H5 D2=some (.lst ys)) ⟨zc _,⟨[],[],rfl,⟨rfl,fun i a z=>by simp at z⟩,rfl,by simp⟩,zG hD2,zJ⟩ (fun i ys H5 z=>?_) (fun i ys H5 z=>?_) (fun i x ys H5 hx z=>?_) (fun ys H5 z=>?_)
     . exact SqL.of (z.2.2.1 _ _ hD3)
     . obtain⟨_,⟨as,es,rfl,EA,em,_⟩,_⟩:=z
       have:=congrArg List.length em
       rw[zB,zw] at this
       rw[zB,EA.1]
       exact zAL (by omega)
     . obtain⟨_,⟨as,es,rfl,EA,em,he⟩,s5,hD5⟩:=z
       obtain⟨p,hpi,rfl⟩:∃p,hs[i]? = some p/\V.int p=x:=by
        rw[zO] at hx
        cases e:hs[i]? with
        | none=>rw[e] at hx;cases hx
        | some p=>rw[e] at hx;exact⟨p,rfl,zR hx⟩
       have hpm:=(hm p).mp (zS hpi)
       have s35:=s3.trans s5
       refine⟨⟨rfl,rfl⟩,?_⟩
       refine zD8 ?_
       refine⟨_,rfl,_,rfl,_,rfl,_,rfl,wa,rl,ra,rs,M,rks,n,ts,v,p,rfl,W.keep s35,L.same s35,by omega,by omega,v0,v1,hpm.2,fun a e H6 s6 ha ep he'=>?_⟩
       refine⟨s6 _ _ hD5,(zE.mp hpi).1,⟨as++[a],es++[e],by rw[zQ];rfl,(EA.keep fun b zs z=>?_).snoc ?_,?_,fun x hx'=>?_⟩,zAF (s5.trans s6) hD2,zJ⟩
       . rw[zZ (zA5 z hD5 (by intro y;cases y))];exact s6 _ _ z
       . rw[zZ (zA5 ha (s6 _ _ hD5) (by intro y;cases y))];exact ha
       . rw[zQ,em,zAI,hpi,<-ep];rfl
       . rcases zu.mp hx' with z | z
         . exact he x z
         . have:x=e:=by simpa using z
           subst this;exact he'
     . obtain⟨_,⟨as,es,rfl,EA,em,he⟩,s5,hD5⟩:=z
       rw[zB,zf (zL _)] at em
       have hel:es.length<=24:=by have:=congrArg List.length em;rw[zB] at this;omega
       refine⟨D2,_,rfl,.inl ⟨SqL.of hD5,fun l hl=>?_⟩⟩
       refine k l es _ ((s3.trans s5).trans (zG hl)) ⟨as,zJ,EA.keep fun b zs z=>zG hl _ _ z,by omega⟩ ⟨?_,he,fun h h0 h1 z=>?_,hel⟩
       . have:=hp
         rw[<-em,zAW] at this
         exact this
       . have:h∈es.map (·.h):=by rw[em];exact (hm h).mpr ⟨by omega,z⟩
         obtain⟨e,e1,e2⟩:=zi.mp this
         exact⟨e,e1,e2⟩
theorem zKq:zAR ["web", "order", "rows", "ranks"] ["web", "order"] (defScope sByo):=⟨rfl,rfl,rfl,by decide +kernel,rfl,by decide +kernel,by decide +kernel⟩
theorem ok_byo {fB:Addr}{fdB:FuncData}(F:Fun K "by_order" "by_order" sByo f fd') (FO:Fun K "is_order" "is_order" sOrd fO fdO) (bO:zAP K fdO ["web", "thing"] []) (mO:mg "is_order" = some (.ref fO)) (GO:zAq P w K mg base CX0 5 fO fdO ["web", "thing"] zKc)
 (FL:Fun K "lengths" "lengths" zHq fL fdL) (bL:zAP K fdL ["web"] []) (mL:mg "lengths" = some (.ref fL)) (GL:zAq P w K mg base CX0 5 fL fdL ["web"] (zHc PT))
 (FB:Fun K "label_by_ranks" "label_by_ranks" sLbr fB fdB) (bB:zAP K fdB ["web", "rows", "ranks", "place"] []) (mB:mg "label_by_ranks" = some (.ref fB)) (GB:zAq P w K mg base CX0 5 fB fdB ["web", "rows", "ranks", "place"] zKd) (mRange:mg "range" = none) (mTuple:mg "tuple" = none) :
 zAq P w K mg base CX0 6 f fd' ["web", "order"] (spByo PT):=by
 refine F.ok zKq (fun vs H Q E h=>?_) (fun cdv A outer s H vs Q E hr h=>?_)
 . obtain⟨wa,p,n,ts,os,rfl,_⟩:=h
   rfl
 . obtain⟨wa,p,n,ts,os,rfl,W,hp,O,T,k⟩:=h
   obtain⟨ta,tys,hwa,_,_,G⟩:=id W
   have hn1:=G.n1
   have hn24:=G.n24
   refine⟨_,zW (zCK (zGW (zDh (zx GO hr rfl mO FO.kp bO .nil zAl (zF (pv 0) (zF (pv 1) zT))))) (zn ps_no) zA7)
    (zW (zAN (i:=2) zKq.nd rfl (Or.inr rfl) (zx GL hr rfl mL FL.kp bL .nil zAl (zF (pv 0) zT)))
    (zW (zAN (i:=3) zKq.nd rfl (Or.inr rfl) (zBA (own:=["place"]) (cn:=["order"]) (ci:=[1]) rfl (csc rfl rfl) ⟨rfl,rfl,rfl,trivial⟩ rfl
     (zAm rfl mRange (zF (zAH zAr (pv 0) zAA (fun _ _=>rfl)) zT)) (fun _ _ _ _=>zr (i:=0) (zBJ rfl) rfl (Or.inl rfl)) (fun _ _ _ _=>zBK)
     (fun _ _ _ _=>zKC PySem.F.slot_tuple_index PySem.F.type_tuple_index zIG (pv 1) (zF (pv 0) zT))))
    (zn (zAb (zAf zAJ (by rfl) mTuple (by decide +kernel) (zF (zBA (own:=["place"]) (cn:=["web", "rows", "ranks"]) (ci:=[0,2,3]) rfl (csc rfl rfl) ⟨rfl,rfl,rfl,rfl,rfl,rfl,rfl,rfl,rfl,trivial⟩ rfl
     (zAm rfl mRange (zF (zAH zAr (pv 0) zAA (fun _ _=>rfl)) zT)) (fun _ _ _ _=>zr (i:=0) (zBJ rfl) rfl (Or.inl rfl)) (fun _ _ _ _=>zBK)
     (fun _ _ _ _=>zx GB hr rfl mB FB.kp bB .nil zAl (zF (pv 1) (zF (pv 2) (zF (pv 3) (zF (pv 0) zT)))))) zT)))))),?_⟩
   refine⟨_,rfl,_,rfl,wa,p,n,ts,os,rfl,W,hp,O,fun H0 s0=>?_⟩
   refine⟨_,rfl,zDU ?_⟩
   refine⟨_,rfl,wa,n,ts,rfl,W.keep s0,T.same s0,fun rl rs M H1 sm1 T1 hrl RA RR=>?_⟩
   have sm01:SmT H H1:=(SmT.of s0).trans sm1
   have hwa1:H1 wa=some (.tup [.int n,.ref ta]):=sm01.get hwa (by intro ps z;cases z)
   have hp1:H1 p=some (.tup (os.map V.int)):=sm01.get hp (by intro ps z;cases z)
   have W1:zBh H1 wa n ts:=W.smT sm01
   refine⟨_,rfl,wa,_,_,_,rfl,rfl,SqT.of hwa1,rfl,n,rfl,by omega,by omega,[.ref p],rfl,fun D hD=>?_⟩
   refine zBe (lo:=0) (n:=n.toNat) (fun q ys H3=>q<=n.toNat/\(∃rk:List Int,ys=rk.map V.int/\rk.length=q/\∀(j:Nat)(x:Int),rk[j]? = some x->0<=x/\os[x.toNat]? = some (j:Int))/\H3=upd H1 D (.lst ys)) ⟨zc _,⟨[],rfl,rfl,fun j x z=>by simp at z⟩,rfl⟩ (fun q ys H3 z=>?_) (fun q ys H3 hq z=>?_) (fun ys H3 z=>?_)
   . obtain⟨_,⟨rk,rfl,hl,_⟩,_⟩:=z
     rw[zB]
     exact zAL (by omega)
   . obtain⟨_,⟨rk,rfl,hl,hrk⟩,rfl⟩:=z
     rw[zAi]
     obtain⟨i,hi,ei⟩:=zd (O.mem (p:=(q:Int)) (by omega) (by omega))
     have hoi:os[i]? = some (q:Int):=by rw[zA hi,ei]
     have hp3:=zG (o:=.lst (rk.map V.int)) hD _ _ hp1
     refine⟨⟨rfl,rfl⟩,?_⟩
     refine zD8 ?_
     refine⟨_,rfl,⟨p,_,rfl,hp3⟩,_,rfl,p,os,i,q,rfl,rfl,SqT.of hp3,hoi,fun j hj e=>?_,zJ,hq,⟨rk++[(i:Int)],by rw[zQ];rfl,by rw[zI,hl];rfl,fun j x hx=>?_⟩,zCW⟩
     . obtain⟨hj',ej⟩:=zE.mp e
       exact zAC.mp (List.nodup_iff_pairwise_ne.mp O.nd) j i hj' hi hj (by rw[ej,ei])
     . by_cases c:j<rk.length
       . rw[zN c] at hx
         exact hrk j x hx
       . have hj:j=q:=by
          have:=(zE.mp hx).1
          rw[zI] at this
          simp at this;omega
         subst hj
         rw[zM (by omega),hl,zAp] at hx
         have:(i:Int)=x:=by simpa using hx
         subst this
         exact⟨by omega,hoi⟩
   . obtain⟨_,⟨rk,rfl,hl,hrk⟩,rfl⟩:=z
     have sD:zA1 H1 (upd H1 D (.lst (rk.map V.int))):=zG hD
     have hDr:(upd H1 D (.lst (rk.map V.int))) D=some (.lst (rk.map V.int)):=zJ
     generalize upd H1 D (.lst (rk.map V.int))=H4 at sD hDr ⊢
     have L:zI0 H4 rl D rs M rk n ts:=⟨sD _ _ hrl,RA.same sD,RR,hDr,hl,G⟩
     have W4:=W1.keep sD
     refine⟨_,rfl,wa,_,_,_,rfl,rfl,SqT.of (sD _ _ hwa1),rfl,n,rfl,by omega,by omega,[.ref wa,.ref rl,.ref D],rfl,fun D2 hD2=>?_⟩
     refine zBe (lo:=0) (n:=n.toNat) (fun q ys H5=>q<=n.toNat/\(∃(as:List Addr)(ess:List (List En)),ys=as.map V.ref/\as.length=q/\ess.length=q/\(∀(i:Nat)(a:Addr),as[i]? = some a->∃es,ess[i]? = some es/\zB6 H5 a es)/\∀(i:Nat)(es:List En),ess[i]? = some es->zJ0 ts n (rkf rk) i es)/\zA1 H4 H5/\H5 D2=some (.lst ys)) ⟨zc _,⟨[],[],rfl,rfl,rfl,fun i a z=>by simp at z,fun i a z=>by simp at z⟩,zG hD2,zJ⟩ (fun q ys H5 z=>?_) (fun q ys H5 hq z=>?_) (fun ys H5 z=>?_)
     . obtain⟨_,⟨as,ess,rfl,h1,_⟩,_⟩:=z
       rw[zB]
       exact zAL (by omega)
     . obtain⟨_,⟨as,ess,rfl,h1,h2,h3,h4⟩,s5,hD5⟩:=z
       rw[zAi]
       refine⟨⟨rfl,rfl⟩,?_⟩
       refine zD8 ?_
       refine⟨_,rfl,_,rfl,_,rfl,_,rfl,wa,rl,D,rs,M,rk,n,ts,q,rfl,W4.keep s5,L.same s5,by omega,by omega,fun a es H6 s6 la lo=>?_⟩
       refine⟨s6 _ _ hD5,hq,⟨as++[a],ess++[es],by rw[zQ];rfl,by rw[zI,h1];rfl,by rw[zI,h2];rfl,fun i b hb=>?_,fun i es' he=>?_⟩,zAF (s5.trans s6) hD2,zJ⟩
       . have keep:∀c zs,H6 c=some (.tup zs)->(upd H6 D2 (.lst (as.map V.ref++[.ref a]))) c=some (.tup zs):=fun c zs z=>by rw[zZ (zA5 z (s6 _ _ hD5) (by intro y;cases y))];exact z
         by_cases c:i<as.length
         . rw[zN c] at hb
           obtain⟨es',e1,e2⟩:=h3 i b hb
           exact⟨es',by rw[zN (by omega)];exact e1,(e2.same s6).keep keep⟩
         . have hi:i=q:=by
            have:=(zE.mp hb).1
            rw[zI] at this
            simp at this;omega
           subst hi
           rw[zM (by omega),h1,zAp] at hb
           have:a=b:=by simpa using hb
           subst this
           exact⟨es,by rw[zM (by omega),h2,zAp];rfl,la.keep keep⟩
       . by_cases c:i<ess.length
         . rw[zN c] at he
           exact h4 i es' he
         . have hi:i=q:=by
            have:=(zE.mp he).1
            rw[zI] at this
            simp at this;omega
           subst hi
           rw[zM (by omega),h2,zAp] at he
           have:es=es':=by simpa using he
           subst this
           exact lo
     . obtain⟨_,⟨as,ess,rfl,h1,h2,h3,h4⟩,s5,hD5⟩:=z
       refine⟨D2,_,rfl,.inl ⟨SqL.of hD5,fun l hl'=>?_⟩⟩
       have s6:zA1 H1 (upd H5 l (.tup (as.map V.ref))):=(sD.trans s5).trans (zG hl')
       refine k l ess (rkf rk) _ (sm01.trans (SmT.of s6)) (T1.same s6) ⟨as,zJ,by omega,fun i a ha=>?_⟩ (fun p h0 h1'=>?_) ⟨h2,h4⟩ ?bound
       case bound=>
        intro es hes e he
        obtain⟨i,hi,ei⟩:=zd hes
        have EO:=(h4 i es (by rw[zA hi,ei])).ent e he
        exact zHv RR (by omega) (by omega) EO.rng.1 EO.rng.2 EO.len
       . obtain⟨es,e1,e2⟩:=h3 i a ha
         exact⟨es,e1,e2.same (zG hl')⟩
       . have hlt:p.toNat<rk.length:=by omega
         have e:rk[p.toNat]? = some (rkf rk p):=by
          unfold rkf
          rw[zD,zA hlt];rfl
         obtain⟨a,b⟩:=hrk _ _ e
         exact⟨a,by rw[b,Int.toNat_of_nonneg h0]⟩
end
theorem zFg:∀(l:List Int)(k:Nat),(l.map V.int).eraseIdx k=(l.eraseIdx k).map V.int
 | [],_=>rfl
 | _::_,0=>rfl
 | x::r,k+1=>by
  show V.int x::(r.map V.int).eraseIdx k=V.int x::(r.eraseIdx k).map V.int
  rw[zFg r k]
theorem zEV:∀{l:List Int}{k:Nat}(h:k<l.length),(l[k]::l.eraseIdx k).Perm l
 | [],_,h=>absurd h (zBw _)
 | _::_,0,_=>List.Perm.refl _
 | x::r,k+1,h=>by
  have hk:k<r.length:=by simpa using h
  show (r[k]::x::r.eraseIdx k).Perm (x::r)
  exact (List.Perm.swap x r[k] _).trans ((zEV hk).cons x)
noncomputable def zEg:Sp:=fun vs H Q _=>∃(t:Addr)(N:Nat)(n:Int),vs=[.ref t,.int n]/\zAU H t N/\N<900000/\1<=n/\n<=24 /\
 ∀(l:Addr)(os:List Int)(H':Hp),H' l=some (.tup (os.map V.int))->zJz n os->zAU H' t (N+24)->Sm t H H'->Q (.ref l) H'
section
variable {P:Program}{w:World}{K:PySem.W.Frag}{mg:Str->Option Value}{base:Heap}
theorem zEj:zAR ["_law_tape_here", "_law_n", "_law_left", "_law_found", "_law_k"] ["_law_tape_here", "_law_n"] (defScope zFJ):=⟨rfl,rfl,rfl,by decide +kernel,rfl,by decide +kernel,by decide +kernel⟩
theorem zJd (F:Fun K "_law_order" "_law_order" zFJ f fd') (FD:Fun K "_law_draw" "_law_draw" zEB fD fdD) (bD:zAP K fdD ["_law_tape_here", "_law_many"] []) (mD:mg "_law_draw" = some (.ref fD))
 (mLen:mg "len" = none) (mRange:mg "range" = none) (mTuple:mg "tuple" = none) (mList:mg "list" = none):zAq P w K mg base CX0 2 f fd' ["_law_tape_here", "_law_n"] zEg:=by
 have GD:zAq P w K mg base CX0 1 fD fdD ["_law_tape_here", "_law_many"] zDa:=zEt FD mLen
 refine F.ok zEj (fun vs H Q E h=>?_) (fun cdv A outer s H vs Q E hr h=>?_)
 . obtain⟨t,N,n,rfl,_⟩:=h
   rfl
 . obtain⟨t,N,n,rfl,TT,hN,hn1,hn24,k⟩:=h
   obtain⟨tp,TP⟩:=TT
   refine⟨_,zW (zAN (i:=2) zEj.nd rfl (Or.inl rfl) (zH3 rfl rfl mList rfl mRange (zF (pv 1) zT)))
    (zW (zAN (i:=3) zEj.nd rfl (Or.inl rfl) (zB1 zT))
    (zW (zBk PassesOwn.never rfl (zAm rfl mRange (zF (pv 1) zT)) (zr (i:=4) zEj.nd rfl (Or.inl rfl))
     (zn (zCL (zDA PySem.F.plainAttrs_list PySem.F.slot_list_append PySem.F.type_list_append zBP (pv 3)
      (zF (zDA PySem.F.plainAttrs_list PySem.F.slot_list_pop PySem.F.type_list_pop zJi (pv 2)
       (zF (zx GD hr rfl mD FD.kp bD .nil zAl (zF (pv 0) (zF (zAV zBE (by rfl) mLen PySem.boot_len (zF (pv 2) zT)) zT))) zT)) zT)))))
    (zn (zAb (zAf zAJ (by rfl) mTuple (by decide +kernel) (zF (pv 3) zT)))))),?_⟩
   refine⟨_,rfl,n,rfl,by omega,by omega,fun lf hlf=>?_⟩
   obtain⟨ns0,sp0,re0,ht0,hp0,_⟩:=id TP
   have nlt:lf≠t:=(zh ht0 hlf).symm
   have nlp:lf≠tp:=(zh hp0 hlf).symm
   refine⟨zc _,fun D hD=>?_⟩
   have nDl:D≠lf:=fun z=>by rw[z,zJ] at hD;cases hD
   have hD0:H D=none:=by rw[zZ nDl] at hD;exact hD
   have nDt:D≠t:=(zh ht0 hD0).symm
   have nDp:D≠tp:=(zh hp0 hD0).symm
   refine⟨_,rfl,n,rfl,by omega,by omega,zBQ (lo:=0) (n:=n.toNat) (fun q σ H2=>∃(v4:Option V)(row left:List Int),σ=[some (.ref t),some (.int n),some (.ref lf),some (.ref D),v4]/\row.length=q/\(row++left).Perm (lowTo n.toNat)/\H2 lf=some (.lst (left.map V.int))/\H2 D=some (.lst (row.map V.int))/\zBd H2 t tp (N+q)/\Sm t H H2)
    ⟨none,[],lowTo n.toNat,rfl,rfl,List.Perm.refl _,by rw[zZ nDl.symm,zJ],zJ,TP.keepF (fun o e=>by rw[zZ nDt.symm,zZ nlt.symm];exact e) (fun o e=>by rw[zZ nDp.symm,zZ nlp.symm];exact e) (by omega),(Sm.laid hlf).chg hD0⟩ ?turn ?after⟩
   case after=>
    rintro σ H2 ⟨v4,row,left,rfl,hl,hp,hlf2,hD2,TP2,s2⟩
    have hleft:left=[]:=by
     have:=hp.length_eq
     rw[zI,zDV,hl] at this
     exact List.length_eq_zero_iff.mp (by omega)
    subst hleft
    rw[zAB] at hp
    have nd:row.Nodup:=hp.nodup_iff.mpr ((zDt _).imp fun h=>by omega)
    refine⟨_,rfl,D,_,rfl,.inl ⟨SqL.of hD2,fun l hl'=>?_⟩⟩
    refine k l row _ zJ ⟨hl,nd,fun p hp'=>?_⟩ (zAU.mono (zAU.laid ⟨tp,TP2⟩ hl') (by omega)) (s2.trans (Sm.laid hl'))
    have:=mem_ints.mp (hp.mem_iff.mp hp')
    omega
   case turn=>
    rintro q σ H2 hq ⟨v4,row,left,rfl,hl,hp,hlf2,hD2,TP2,s2⟩
    have hll:row.length+left.length=n.toNat:=by
     have:=hp.length_eq
     rw[zI,zDV] at this
     exact this
    refine⟨_,rfl,.inl ⟨rfl,_,SqL.of hD2⟩,_,rfl,.inl ⟨rfl,_,SqL.of hlf2⟩,?_⟩
    refine⟨_,rfl,_,rfl,lf,_,rfl,.inl (SqL.of hlf2),t,tp,N+q,_,rfl,TP2,by omega,by rw[zB];omega,by rw[zB];omega,fun rr H3 h0 h1 TP3 e3=>?_⟩
    rw[zB] at h1
    have hlt:rr.toNat<left.length:=by omega
    refine⟨lf,left.map V.int,rr,rr.toNat,.int left[rr.toNat],rfl,rfl,by rw[e3 lf nlt];exact hlf2,by omega,by omega,PySem.StrLaws.seqIndex_nonneg h0 (by rw[zB];omega),by rw[zO,zA hlt];rfl,?_⟩
    rw[zFg left rr.toNat]
    have s3:Sm t H H3:=fun b o nb e=>by rw[e3 b nb];exact s2 b o nb e
    have hlf0:H lf=none:=hlf
    refine⟨D,_,_,rfl,rfl,by rw[zZ nDl,e3 D nDt];exact hD2,by rw[zB];exact zAL (by omega),?_⟩
    refine⟨_,row++[left[rr.toNat]],left.eraseIdx rr.toNat,rfl,by rw[zI,hl];rfl,?_,by rw[zZ nDl.symm,zJ],by rw[zQ];exact zJ,TP3.keepF (fun o e=>by rw[zZ nDt.symm,zZ nlt.symm];exact e) (fun o e=>by rw[zZ nDp.symm,zZ nlp.symm];exact e) (by omega),(s3.chg hlf0).chg hD0⟩
    refine List.Perm.trans ?_ hp
    rw[List.append_assoc]
    exact (zEV hlt).append_left row
end
noncomputable def zGL:Sp:=fun vs H Q _=>∃(wa fl:Addr)(n:Int)(ts:List T3)(M:List (List (Option Int)))(v h:Int),vs=[.ref wa,.ref fl,.int v,.int h]/\zBh H wa n ts/\zCQ H fl n ts M/\0<=v/\v<n/\0<=h/\h<n/\(∃d,WM.IsD ts h v d) /\
 ∀(a:Addr)(e:En)(H':Hp),zA1 H H'->H' a=some (.tup (eV e))->e.h=h->WM.IsD ts v h e.l->zHN (Nxt ts v h) e.u->zHN (Nxt ts h v) e.d->Q (.ref a) H'
theorem at0 {l:List Int}:atI ((x::l).map V.int) 0=some (.int x):=zCw (j:=0) rfl
theorem zFe {P:Int->Prop}{xs:List Int}(r:xs.Pairwise (· < ·))(m:∀p,p∈xs↔P p)(ne:∃p,P p):∃x r,xs=x::r/\zHN P (some x):=by
 obtain⟨p,hp⟩:=ne
 cases xs with
 | nil=>exact absurd ((m p).mpr hp) (by simp)
 | cons x l=>
  refine⟨x,l,rfl,(m x).mp zl,fun q hq=>?_⟩
  rcases zm.mp ((m q).mpr hq) with e | e
  . omega
  . have:=(List.pairwise_cons.mp r).1 q e
    omega
section
variable {P:Program}{w:World}{K:PySem.W.Frag}{mg:Str->Option Value}{base:Heap}
theorem scEnt8:zAR ["_law_web_here", "_law_far_here", "_law_place", "_law_hub"] ["_law_web_here", "_law_far_here", "_law_place", "_law_hub"] (defScope zG0):=⟨rfl,rfl,rfl,by decide +kernel,rfl,by decide +kernel,by decide +kernel⟩
theorem zLJ (F:Fun K "_law_entry" "_law_entry" zG0 f fd') (FN:Fun K "_law_nexts" "_law_nexts" sNxs fN fdN) (bN:zAP K fdN ["_law_web_here", "_law_far_here", "_law_one", "_law_other"] []) (mN:mg "_law_nexts" = some (.ref fN)) (GN:zAq P w K mg base CX0 2 fN fdN ["_law_web_here", "_law_far_here", "_law_one", "_law_other"] zJF) :
 zAq P w K mg base CX0 3 f fd' ["_law_web_here", "_law_far_here", "_law_place", "_law_hub"] zGL:=by
 refine F.ok scEnt8 (fun vs H Q E h=>?_) (fun cdv A outer s H vs Q E hr h=>?_)
 . obtain⟨wa,fl,n,ts,M,v,h,rfl,_⟩:=h
   rfl
 . obtain⟨wa,fl,n,ts,M,v,h,rfl,W,FR,v0,v1,h0,h1,⟨d,hd⟩,k⟩:=h
   obtain⟨_,_,_,_,_,G⟩:=id W
   refine⟨_,zW (zCK (zAQ zCv (pv 2) (pv 3) (zAc _)) (zn (zAb (zBC (zF (pv 3) (zF zAA (zF zBl (zF zBl zT))))))) zA7)
    (zn (zAb (zBC (zF (pv 3) (zF (zAH zAO (zAH zAO (pv 1) (pv 2) (fun _ _=>rfl)) (pv 3) (fun _ _=>rfl))
     (zF (zAH zAO (zx GN hr rfl mN FN.kp bN .nil zAl (zF (pv 0) (zF (pv 1) (zF (pv 2) (zF (pv 3) zT))))) zAA (fun _ _=>rfl))
     (zF (zAH zAO (zx GN hr rfl mN FN.kp bN .nil zAl (zF (pv 0) (zF (pv 1) (zF (pv 3) (zF (pv 2) zT))))) zAA (fun _ _=>rfl)) zT))))))),?_⟩
   refine⟨_,rfl,_,rfl,rfl,_,rfl,?_⟩
   by_cases c:v=h
   . subst c
     refine ifT (zV rfl) ?_
     refine⟨_,rfl,(by show 4<=sizeLine;decide),fun p hp=>?_⟩
     have hz:zHN (Nxt ts v v) none:=fun p hp=>Nxt.ne G hp rfl
     exact k p ⟨v,0,none,none⟩ _ (zG hp) zJ rfl (zCS G v) hz hz
   . refine ifF (ze fun z=>c (V.int.inj z)) ?_
     obtain⟨rs,r,row,f1,f2,f3,f4,f5⟩:=FR.get v0 v1 h0 h1
     have hv:WM.IsD ts v h d:=hd.symm
     obtain⟨d',em⟩:∃d',mat M v h=some d':=by
      cases e:mat M v h with
      | some d'=>exact⟨d',rfl⟩
      | none=>rw[e] at f5;exact absurd hv.1 (f5 d)
     rw[em] at f4 f5
     refine⟨_,rfl,_,rfl,_,rfl,fl,_,_,.ref r,rfl,rfl,SqL.of f1,f2,_,rfl,r,_,_,_,rfl,rfl,SqL.of f3,f4,?_⟩
     refine⟨_,rfl,_,rfl,_,rfl,_,rfl,wa,fl,n,ts,M,v,h,rfl,W,FR,v0,v1,h0,h1,fun l xs H1 s1 hl rise mem=>?_⟩
     obtain⟨u,ur,rfl,mu⟩:=zFe rise mem (Nxt.exists G hv c)
     refine⟨l,_,0,.int u,rfl,rfl,SqL.of hl,at0,?_⟩
     refine⟨_,rfl,_,rfl,_,rfl,_,rfl,wa,fl,n,ts,M,h,v,rfl,W.keep s1,FR.keep fun b ys e=>s1 _ _ e,h0,h1,v0,v1,fun l2 xs2 H2 s2 hl2 rise2 mem2=>?_⟩
     obtain⟨dn,dr,rfl,md⟩:=zFe rise2 mem2 (Nxt.exists G hd fun z=>c z.symm)
     refine⟨l2,_,0,.int dn,rfl,rfl,SqL.of hl2,at0,?_⟩
     refine⟨(by show 4<=sizeLine;decide),fun p hp=>?_⟩
     exact k p ⟨h,d',some u,some dn⟩ _ ((s1.trans s2).trans (zG hp)) zJ rfl f5 mu md
end
noncomputable def zFx:Sp:=fun vs H Q _=>∃(wa p:Addr)(n:Int)(ts:List T3)(os:List Int),vs=[.ref wa,.ref p]/\zBh H wa n ts/\H p=some (.tup (os.map V.int))/\zJz n os /\
 ∀(l:Addr)(ess:List (List En))(rk:Int->Int)(H':Hp),zA1 H H'->zBF H' l ess->zKQ n os rk->zFu ts n rk ess->(∀es∈ess,∀e∈es,0<=e.l/\e.l<=2376)->Q (.ref l) H'
theorem zKQ.ex (O:zJz n os):∃rk,zKQ n os rk:=by
 classical
 refine⟨fun p=>if h:∃i:Nat,os[i]? = some p then ((Classical.choose h:Nat):Int) else 0,fun p h0 h1=>?_⟩
 obtain⟨i,hi,ei⟩:=zd (O.mem (p:=p) h0 h1)
 have hex:∃i:Nat,os[i]? = some p:=⟨i,by rw[zA hi,ei]⟩
 simp only[hex,dif_pos]
 exact⟨by omega,by rw[zBH];exact Classical.choose_spec hex⟩
variable {rk:Int->Int}{h:Int}
theorem zHT (O:zJz n os)(R:zKQ n os rk)(h0:0<=h)(h1:h<n)(x0:0<=x)(x1:x<n):x∈os.take (rk h).toNat↔rk x<rk h:=by
 obtain⟨a0,a1⟩:=R h h0 h1
 obtain⟨b0,b1⟩:=R x x0 x1
 obtain⟨i1,e1⟩:=zE.mp a1
 obtain⟨i2,e2⟩:=zE.mp b1
 constructor
 . intro m
   obtain⟨j,hj,ej⟩:=zd m
   rw[zw] at hj
   rw[List.getElem_take] at ej
   have:=(List.getElem_inj O.nd).mp (ej.trans e2.symm)
   omega
 . intro l
   rw[<-e2]
   exact List.mem_take_iff_getElem.mpr ⟨(rk x).toNat,by omega,rfl⟩
variable {v:Int}
theorem zLT (G:GW n ts)(FR:zCQ H fl n ts M)(O:zJz n os)(R:zKQ n os rk)(h0:0<=h)(h1:h<n)(v0:0<=v)(v1:v<n) :
 zDP ts rk h v↔(mat M h v).isSome=true/\((os.take (rk h).toNat).filter fun x=>onB M x h v)=[]:=by
 obtain⟨_,_,_,_,_,_,_,l1⟩:=FR.get h0 h1 v0 v1
 constructor
 . rintro ⟨⟨d,hd⟩,z⟩
   refine⟨?_,List.filter_eq_nil_iff.mpr fun x hx c=>?_⟩
   . cases e:mat M h v with
     | none=>rw[e] at l1;exact absurd hd.1 (l1 d)
     | some _=>rfl
   . have xr:=O.rng x (List.mem_of_mem_take hx)
     have:=z x ((zH9 FR xr.1 xr.2 h0 h1 v0 v1).mp c)
     have:=(zHT O R h0 h1 xr.1 xr.2).mp hx
     omega
 . rintro ⟨z1,z2⟩
   refine⟨?_,fun x hx=>?_⟩
   . cases e:mat M h v with
     | none=>rw[e] at z1;cases z1
     | some d=>rw[e] at l1;exact⟨d,l1⟩
   . obtain⟨a,b,ia,_⟩:=id hx
     have xr:=ia.1.in_ G h0 h1
     by_cases c:rk x<rk h
     . exact absurd ((zH9 FR xr.1 xr.2 h0 h1 v0 v1).mpr hx) (List.filter_eq_nil_iff.mp z2 x ((zHT O R h0 h1 xr.1 xr.2).mpr c))
     . omega
variable {i:Nat}
theorem int_at {l:List Int}{x:V}(h:(l.map V.int)[i]? = some x):∃y,l[i]? = some y/\V.int y=x:=by
 rw[zO] at h
 cases e:l[i]? with
 | none=>rw[e] at h;cases h
 | some y=>rw[e] at h;exact⟨y,rfl,zR h⟩
section
variable {P:Program}{w:World}{K:PySem.W.Frag}{mg:Str->Option Value}{base:Heap}
theorem zCu:zAR ["_law_web_here", "_law_order_here", "_law_far_here", "_law_labels_here", "_law_place", "_law_entries", "_law_hub", "_law_sooner"] ["_law_web_here", "_law_order_here"] (defScope zFL):=⟨rfl,rfl,rfl,by decide +kernel,rfl,by decide +kernel,by decide +kernel⟩
theorem zJf (F:Fun K "_law_labels" "_law_labels" zFL f fd') (FF:Fun K "_law_far" "_law_far" sFar fF fdF) (bF:zAP K fdF ["_law_web_here"] []) (mF:mg "_law_far" = some (.ref fF)) (GF:zAq P w K mg base CX0 3 fF fdF ["_law_web_here"] zJH)
 (FO:Fun K "_law_on" "_law_on" sOn fO fdO) (bO:zAP K fdO ["_law_far_here", "_law_place", "_law_one", "_law_other"] []) (mO:mg "_law_on" = some (.ref fO)) (GO:zAq P w K mg base CX0 3 fO fdO ["_law_far_here", "_law_place", "_law_one", "_law_other"] spOn)
 (FE:Fun K "_law_entry" "_law_entry" zG0 fE fdE) (bE:zAP K fdE ["_law_web_here", "_law_far_here", "_law_place", "_law_hub"] []) (mE:mg "_law_entry" = some (.ref fE)) (GE:zAq P w K mg base CX0 3 fE fdE ["_law_web_here", "_law_far_here", "_law_place", "_law_hub"] zGL)
 (mRange:mg "range" = none) (mTuple:mg "tuple" = none):zAq P w K mg base CX0 4 f fd' ["_law_web_here", "_law_order_here"] zFx:=by
 refine F.ok zCu (fun vs H Q E h=>?_) (fun cdv A outer s H vs Q E hr h=>?_)
 . obtain⟨wa,p,n,ts,os,rfl,_⟩:=h
   rfl
 . obtain⟨wa,p,n,ts,os,rfl,W,hp,O,k⟩:=h
   obtain⟨ta,tys,hwa,_,_,G⟩:=id W
   have hn1:=G.n1
   have hn24:=G.n24
   have hu0:=hr.units0
   refine⟨_,zW (zAN (i:=2) zCu.nd rfl (Or.inr rfl) (zx GF hr rfl mF FF.kp bF .nil zAl (zF (pv 0) zT)))
    (zW (zAN (i:=3) zCu.nd rfl (Or.inl rfl) (zB1 zT))
    (zW (zBk PassesOwn.never rfl (zAm rfl mRange (zF (zAH zAr (pv 0) zAA (fun _ _=>rfl)) zT)) (zr (i:=4) zCu.nd rfl (Or.inr rfl))
     (zW (zAN (i:=5) zCu.nd rfl (Or.inl rfl) (zB1 zT))
     (zW (zBk PassesOwn.never rfl (zAm rfl mRange (zF (zAH zAr (pv 0) zAA (fun _ _=>rfl)) zT)) (zr (i:=6) zCu.nd rfl (Or.inr rfl))
      (zW (zCZ (i:=7) (own:=["_law_one"]) (cn:=["_law_far_here", "_law_hub", "_law_place"]) (ci:=[2,6,4]) zCu.nd rfl (Or.inl rfl) rfl (csc rfl rfl) ⟨rfl,rfl,rfl,rfl,rfl,rfl,rfl,rfl,rfl,trivial⟩ rfl
       (zBu (zDT zHi (pv 1) zEn (zEm (zKC PySem.F.slot_tuple_index PySem.F.type_tuple_index zGe (pv 1) (zF (pv 6) zT))))) (fun _ _ _ _=>zr (i:=0) (zBJ rfl) rfl (Or.inl rfl))
       (fun _ _ _ _=>zB0 (zDh (zx GO hr rfl mO FO.kp bO .nil zAl (zF (pv 1) (zF (pv 0) (zF (pv 2) (zF (pv 3) zT))))))) (fun _ _ _ _=>pv 0))
      (zn (zCK (PW.pt (zEK (zAQ zEr (zAH zAO (zAH zAO (pv 2) (pv 6) (fun _ _=>rfl)) (pv 4) (fun _ _=>rfl)) zBl (zAc _)) (zDf (zAQ (zKF hu0) (pv 7) (zB1 zT) (zAc _)))))
       (zn (zCL (zDA PySem.F.plainAttrs_list PySem.F.slot_list_append PySem.F.type_list_append zBP (pv 5) (zF (zx GE hr rfl mE FE.kp bE .nil zAl (zF (pv 0) (zF (pv 2) (zF (pv 4) (zF (pv 6) zT))))) zT)))) zA7))))
     (zn (zCL (zDA PySem.F.plainAttrs_list PySem.F.slot_list_append PySem.F.type_list_append zBP (pv 3) (zF (zAf zAJ (by rfl) mTuple (by decide +kernel) (zF (pv 5) zT)) zT)))))))
    (zn (zAb (zAf zAJ (by rfl) mTuple (by decide +kernel) (zF (pv 3) zT)))))),?_⟩
   refine⟨_,rfl,wa,n,ts,rfl,W,fun fl frs FM H0 s0 hfl FLR FRR=>?_⟩
   have FR0:zCQ H0 fl n ts FM:=⟨frs,hfl,FLR,FRR⟩
   have W0:=W.keep s0
   have hwa0:=s0 _ _ hwa
   have hp0:=s0 _ _ hp
   obtain⟨rk,R⟩:=zKQ.ex O
   refine⟨zc _,fun D hD=>?_⟩
   refine⟨_,rfl,wa,_,_,_,rfl,rfl,SqT.of (zG hD _ _ hwa0),rfl,n,rfl,by omega,by omega,zBQ (lo:=0) (n:=n.toNat) (fun q σ H1=>∃(v4 v5 v6 v7:Option V)(bs:List Addr)(ess:List (List En)),σ=[some (.ref wa),some (.ref p),some (.ref fl),some (.ref D),v4,v5,v6,v7]/\bs.length=q/\ess.length=q/\H1 D=some (.lst (bs.map V.ref))/\(∀(i:Nat)(b:Addr),bs[i]? = some b->∃es,ess[i]? = some es/\zB6 H1 b es)/\(∀(i:Nat)(es:List En),ess[i]? = some es->zJ0 ts n rk i es)/\zA1 H0 H1)
    ⟨none,none,none,none,[],[],rfl,rfl,rfl,zJ,(fun i b z=>by simp at z),(fun i b z=>by simp at z),zG hD⟩ ?turn ?after⟩
   case after=>
    rintro σ H1 ⟨v4,v5,v6,v7,bs,ess,rfl,hbl,hel,hD1,hlab,hall,s1⟩
    refine⟨_,rfl,D,_,rfl,.inl ⟨SqL.of hD1,fun l hl=>?_⟩⟩
    refine k l ess rk _ (s0.trans (s1.trans (zG hl))) ⟨bs,zJ,by omega,fun i b hb=>?_⟩ R ⟨hel,hall⟩ ?bound
    case bound=>
     intro es hes e he
     obtain⟨i,hi,ei⟩:=zd hes
     have EO:=(hall i es (by rw[zA hi,ei])).ent e he
     exact zHv FRR (by omega) (by omega) EO.rng.1 EO.rng.2 EO.len
    obtain⟨es,e1,e2⟩:=hlab i b hb
    exact⟨es,e1,e2.same (zG hl)⟩
   case turn=>
    rintro q σ H1 hq ⟨v4,v5,v6,v7,bs,ess,rfl,hbl,hel,hD1,hlab,hall,s1⟩
    rw[zAi]
    have q0:(0:Int)<=q:=by omega
    have qn:(q:Int)<n:=by omega
    refine⟨zc _,fun E' hE=>?_⟩
    have nED:D≠E':=zh hD1 hE
    refine⟨_,rfl,wa,_,_,_,rfl,rfl,SqT.of (zG hE _ _ (s1 _ _ hwa0)),rfl,n,rfl,by omega,by omega,zBQ (lo:=0) (n:=n.toNat) (fun j σ H2=>∃(v6 v7:Option V)(as:List Addr)(es:List En),σ=[some (.ref wa),some (.ref p),some (.ref fl),some (.ref D),some (.int q),some (.ref E'),v6,v7]/\H2 E'=some (.lst (as.map V.ref))/\zCI H2 as es/\Hub es/\(∀e∈es,zHK ts n rk q e/\e.h<j)/\(∀h:Int,0<=h->h<j->zDP ts rk h q->∃e∈es,e.h=h)/\es.length<=j/\zA1 H1 H2)
     ⟨v6,v7,[],[],rfl,zJ,⟨rfl,fun i a z=>by simp at z⟩,zBX,(fun e z=>by simp at z),(fun h a b=>by omega),zL _,zG hE⟩ ?turn2 ?after2⟩
    case after2=>
     rintro σ H2 ⟨v6,v7,as,es,rfl,hE2,EA,hub,ent,alh,hln,s2⟩
     refine⟨_,rfl,.inl ⟨rfl,_,SqL.of (s2 _ _ hD1)⟩,?_⟩
     refine⟨_,rfl,E',_,rfl,.inl ⟨SqL.of hE2,fun l hl=>?_⟩⟩
     have sl:=zG (o:=.tup (as.map V.ref)) hl
     refine⟨D,_,.ref l,rfl,rfl,sl _ _ (s2 _ _ hD1),?_,?_⟩
     . rw[zB]
       exact zAL (by omega)
     . have kT:∀b ys,H1 b=some (.tup ys)->(upd (upd H2 l (.tup (as.map V.ref))) D (.lst (bs.map V.ref++[.ref l]))) b=some (.tup ys):=fun b ys e=>by
        have hb:b≠D:=fun z=>by rw[z,hD1] at e;cases e
        rw[zZ hb]
        exact sl _ _ (s2 _ _ e)
       have nlD:l≠D:=fun z=>by rw[z,s2 _ _ hD1] at hl;cases hl
       have hl':(upd (upd H2 l (.tup (as.map V.ref))) D (.lst (bs.map V.ref++[.ref l]))) l=some (.tup (as.map V.ref)):=by rw[zZ nlD];exact zJ
       refine⟨_,_,_,_,bs++[l],ess++[es],rfl,by rw[zI,hbl];rfl,by rw[zI,hel];rfl,by rw[zJ,zQ];rfl,fun i b hb=>?_,fun i es' he=>?_,zAF ((s1.trans s2).trans sl) hD⟩
       . by_cases c:i<bs.length
         . rw[zN c] at hb
           obtain⟨es',e1,e2⟩:=hlab i b hb
           exact⟨es',by rw[zN (by omega)];exact e1,e2.keep kT⟩
         . have hi:i=bs.length:=by
            have:=(zE.mp hb).1
            rw[zI] at this
            simp at this;omega
           subst hi
           rw[zM (zL _),zAp] at hb
           have eb:l=b:=by simpa using hb
           subst eb
           refine⟨es,by rw[zM (by omega),hbl,hel,zAp];rfl,as,hl',EA.keep fun b ys e=>?_,by omega⟩
           have hb:b≠D:=fun z=>by rw[z,s2 _ _ hD1] at e;cases e
           rw[zZ hb]
           exact sl _ _ e
       . by_cases c:i<ess.length
         . rw[zN c] at he
           exact hall i es' he
         . have hi:i=ess.length:=by
            have:=(zE.mp he).1
            rw[zI] at this
            simp at this;omega
           subst hi
           rw[zM (zL _),zAp] at he
           have ee:es=es':=by simpa using he
           subst ee
           rw[hel]
           exact⟨hub,fun e he=>(ent e he).1,fun h h0 h1 z=>alh h h0 (by omega) z,by omega⟩
    case turn2=>
     rintro j σ H2 hj ⟨v6,v7,as,es,rfl,hE2,EA,hub,ent,alh,hln,s2⟩
     rw[zAi]
     have j0:(0:Int)<=j:=by omega
     have jn:(j:Int)<n:=by omega
     obtain⟨rj0,hoi⟩:=R (j:Int) j0 jn
     obtain⟨hil,hie⟩:=zE.mp hoi
     have hp2:=s2 _ _ (s1 _ _ hp0)
     have hno:∀m,m<(rk j).toNat->os[m]?≠some (j:Int):=fun m hm e=>by
      obtain⟨hm',em⟩:=zE.mp e
      have:=(List.getElem_inj O.nd).mp (em.trans hie.symm)
      omega
     have ec:zE5 (os.map V.int) none (some (((rk j).toNat:Nat):Int))=(os.take (rk j).toNat).map V.int:=by
      unfold zE5
      rw[HT.sIx_none,HT.sIx_nat,List.drop_zero,Nat.sub_zero,zB,Nat.min_eq_left (by omega),List.map_take]
     refine⟨_,rfl,_,rfl,⟨p,_,rfl,hp2⟩,_,rfl,p,os,(rk j).toNat,j,rfl,rfl,SqT.of hp2,hoi,hno,(((rk j).toNat:Nat):Int),rfl,p,_,rfl,SqT.of hp2,fun z=>?whole,fun _ t ht=>?_⟩
     case whole=>
      have z2:=z.2
      rw[HT.sIx_nat,zB] at z2
      omega
     rw[ec]
     have st:=zG (o:=.tup ((os.take (rk j).toNat).map V.int)) ht
     have ht3:(upd H2 t (.tup ((os.take (rk j).toNat).map V.int))) t=some (.tup ((os.take (rk j).toNat).map V.int)):=zJ
     generalize upd H2 t (.tup ((os.take (rk j).toNat).map V.int))=H3 at st ht3 ⊢
     have FR3:zCQ H3 fl n ts FM:=FR0.keep fun b ys e=>st _ _ (s2 _ _ (s1 _ _ e))
     refine⟨t,rfl,⟨_,SqT.of ht3⟩,[.ref fl,.int j,.int q],rfl,fun D3 hD3=>?_⟩
     refine zBN (a:=t) (xs:=(os.take (rk j).toNat).map V.int) (fun m ys H4=>ys=(((os.take (rk j).toNat).take m).filter fun x=>onB FM x j q).map V.int/\H4=upd H3 D3 (.lst ys)) ⟨rfl,rfl⟩ (fun m ys H4 z=>?_) (fun m ys H4 z=>?_) (fun m x ys H4 hx z=>?_) (fun ys H4 z=>?_)
     . obtain⟨_,rfl⟩:=z
       exact SqT.of (by rw[zZ (zh ht3 hD3)];exact ht3)
     . obtain⟨rfl,_⟩:=z
       rw[zB]
       refine zAD (zq _ _) ?_
       rw[zw,zw]
       exact zAL (by have:=O.ln;omega)
     . obtain⟨rfl,rfl⟩:=z
       obtain⟨y,hy,rfl⟩:=int_at hx
       have yr:=O.rng y (List.mem_of_mem_take (zS hy))
       have sty:((os.take (rk j).toNat).take (m+1)).filter (fun x=>onB FM x j q)=((os.take (rk j).toNat).take m).filter (fun x=>onB FM x j q)++[y].filter (fun x=>onB FM x j q):=by rw[zAI,hy,zAh];rfl
       refine⟨⟨rfl,rfl⟩,?_⟩
       refine⟨_,rfl,_,rfl,_,rfl,_,rfl,fl,n,ts,FM,y,j,q,rfl,FR3.keep fun b ys e=>zG hD3 _ _ e,yr.1,yr.2,j0,jn,q0,qn,?_⟩
       refine⟨_,rfl,?_⟩
       by_cases c:onB FM y j q=true
       . refine ifT c ?_
         refine⟨_,rfl,zJ,?_,zCW⟩
         rw[sty,zBT (p:=fun x=>onB FM x j q) c,zBx,zQ];rfl
       . refine ifF (Bool.not_eq_true _ ▸ c) ⟨?_,rfl⟩
         rw[sty,zBU (p:=fun x=>onB FM x j q) c,zBx,zAB]
     . obtain⟨rfl,rfl⟩:=z
       rw[zB,zf (zL _)]
       have sD3:=zG (o:=.lst (((os.take (rk j).toNat).filter fun x=>onB FM x j q).map V.int)) hD3
       have hDl:(upd H3 D3 (.lst (((os.take (rk j).toNat).filter fun x=>onB FM x j q).map V.int))) D3=some (.lst (((os.take (rk j).toNat).filter fun x=>onB FM x j q).map V.int)):=zJ
       generalize upd H3 D3 (.lst (((os.take (rk j).toNat).filter fun x=>onB FM x j q).map V.int))=H4 at sD3 hDl ⊢
       have FR4:zCQ H4 fl n ts FM:=FR3.keep fun b ys e=>sD3 _ _ e
       have s24:zA1 H2 H4:=st.trans sD3
       have key:=zLT G FR4 O R j0 jn q0 qn
       obtain⟨rs1,r1,row1,f1,g1,i1,j1,l1⟩:=FR4.get (x:=(j:Int)) (y:=(q:Int)) j0 jn q0 qn
       refine⟨_,rfl,_,rfl,fl,_,_,.ref r1,rfl,rfl,SqL.of f1,g1,_,rfl,r1,_,_,_,rfl,rfl,SqL.of i1,j1,rfl,_,rfl,?_⟩
       have stay:∀{Hx:Hp},zA1 H2 Hx->¬ zDP ts rk j q->∃(v6 v7:Option V)(as:List Addr)(es:List En),[some (V.ref wa),some (.ref p),some (.ref fl),some (.ref D),some (.int q),some (.ref E'),some (.int j),some (.ref D3)]=[some (.ref wa),some (.ref p),some (.ref fl),some (.ref D),some (.int q),some (.ref E'),v6,v7]/\Hx E'=some (.lst (as.map V.ref))/\zCI Hx as es/\Hub es/\(∀e∈es,zHK ts n rk q e/\e.h<((j+1:Nat):Int))/\(∀h:Int,0<=h->h<((j+1:Nat):Int)->zDP ts rk h q->∃e∈es,e.h=h)/\es.length<=j+1/\zA1 H1 Hx:=fun {Hx} sx nh=>
        ⟨_,_,as,es,rfl,sx _ _ hE2,EA.keep fun b ys e=>sx _ _ e,hub,fun e he=>⟨(ent e he).1,by have:=(ent e he).2;omega⟩,fun h h0 h1 z=>by
         by_cases c:h=j
         . subst c;exact absurd z nh
         . exact alh h h0 (by omega) z,by omega,s2.trans sx⟩
       cases e:mat FM j q with
       | none=>
        have nh:¬ zDP ts rk j q:=fun z=>by have:=(key.mp z).1;rw[e] at this;cases this
        refine ifF (by rw[zDB];rfl) ?_
        exact zDU (stay s24 nh)
       | some d=>
        refine ifT (by rw[zB2];rfl) ?_
        refine⟨_,rfl,zc _,fun b hb=>?_⟩
        have sb:=zG (o:=.lst []) hb
        refine⟨D3,b,_,rfl,rfl,SqL.of (sb _ _ hDl),SqL.of zJ,_,rfl,?_⟩
        by_cases c:((os.take (rk j).toNat).filter fun x=>onB FM x j q)=[]
        . have yh:zDP ts rk j q:=key.mpr ⟨by rw[e];rfl,c⟩
          refine ifT (by rw[c];rfl) ?_
          have s25:=s24.trans sb
          generalize upd H4 b (.lst [])=H5 at s25 sb ⊢
          refine⟨_,rfl,.inl ⟨rfl,_,SqL.of (s25 _ _ hE2)⟩,?_⟩
          refine⟨_,rfl,_,rfl,_,rfl,_,rfl,wa,fl,n,ts,FM,q,j,rfl,W0.keep (s1.trans (s2.trans s25)),FR4.keep fun b ys e=>sb _ _ e,q0,qn,j0,jn,yh.1,fun a en H6 s6 ha eh el eu ed=>?_⟩
          have hE6:=s6 _ _ (s25 _ _ hE2)
          refine⟨E',_,.ref a,rfl,rfl,hE6,?_,?_⟩
          . rw[zB,EA.1]
            exact zAL (by omega)
          . have kT:∀b ys,H2 b=some (.tup ys)->(upd H6 E' (.lst (as.map V.ref++[.ref a]))) b=some (.tup ys):=fun b ys e=>by
             have hb:b≠E':=fun z=>by rw[z,hE2] at e;cases e
             rw[zZ hb]
             exact s6 _ _ (s25 _ _ e)
            have naE:a≠E':=fun z=>by rw[z,hE6] at ha;cases ha
            have EO:zHK ts n rk q en:=by
             refine⟨by rw[eh];exact⟨j0,jn⟩,by rw[eh];exact yh,by rw[eh];exact el,by rw[eh];exact eu,by rw[eh];exact ed⟩
            refine⟨_,_,as++[a],es++[en],rfl,by rw[zJ,zQ];rfl,(EA.keep kT).snoc (by rw[zZ naE];exact ha),?_,fun e he=>?_,fun h h0 h1 z=>?_,by rw[zI];show es.length+1<=j+1;omega,zAF ((s2.trans s25).trans s6) hE⟩
            . refine List.pairwise_append.mpr ⟨hub,List.pairwise_singleton _ _,fun x hx y hy=>?_⟩
              have ey:y=en:=by simpa using hy
              rw[ey,eh]
              exact (ent x hx).2
            . rcases zu.mp he with m | m
              . exact⟨(ent e m).1,by have:=(ent e m).2;omega⟩
              . have ee:e=en:=by simpa using m
                rw[ee]
                exact⟨EO,by rw[eh];omega⟩
            . by_cases ch:h=j
              . exact⟨en,by simp,by rw[eh,ch]⟩
              . obtain⟨e',m,he'⟩:=alh h h0 (by omega) z
                exact⟨e',zAE _ m,he'⟩
        . have nh:¬ zDP ts rk j q:=fun z=>c (key.mp z).2
          refine ifF ?_ (stay (s24.trans sb) nh)
          cases z:((os.take (rk j).toNat).filter fun x=>onB FM x j q) with
          | nil=>exact absurd z c
          | cons _ _=>rfl
end
noncomputable def spSum:Sp:=fun vs H Q _=>∃(p q:Addr)(es fs:List En),vs=[.ref p,.ref q]/\zB6 H p es/\zB6 H q fs/\Hub fs /\
 ∀(r:Addr)(lm:Option (Int×Int))(H':Hp),zA1 H H'->LMin (Cd es fs) lm->H' r=some (.tup [oV (lm.map (·.1)),oV (lm.map (·.2))])->Q (.ref r) H'
noncomputable def zHZ:Sp:=fun vs H Q _=>∃(p q:Addr)(es fs:List En),vs=[.ref p,.ref q]/\zB6 H p es/\zB6 H q fs/\Hub fs /\
 ∀(lm:Option (Int×Int))(H':Hp),zA1 H H'->LMin (Cd es fs) lm->Q (oV (lm.map (·.1))) H'
section
variable {P:Program}{w:World}{K:PySem.W.Frag}{mg:Str->Option Value}{base:Heap}
theorem zKn:zAR ["one", "other", "longs", "sums"] ["one", "other"] (defScope sSum):=⟨rfl,rfl,rfl,by decide +kernel,rfl,by decide +kernel,by decide +kernel⟩
theorem ok_sum (F:Fun K "least_sum" "least_sum" sSum f fd') (mDict:mg "dict" = none) (mMin:mg "min" = none):zAq P w K mg base CX0 1 f fd' ["one", "other"] spSum:=by
 refine F.ok zKn (fun vs H Q E h=>?_) (fun cdv A outer s H vs Q E hr h=>?_)
 . obtain⟨p,q,es,fs,rfl,_⟩:=h
   rfl
 . obtain⟨p,q,es,fs,rfl,L1,L2',hF,k⟩:=h
   obtain⟨as,hp,EA,hl⟩:=id L1
   obtain⟨bs,hq,EB,hl2⟩:=id L2'
   have hu:=zDv hr
   refine⟨_,zW (zAN (i:=2) zKn.nd rfl (Or.inr rfl) (zAf (zCq rfl) (by rfl) mDict (by decide +kernel) (zF
    (zBA (own:=["hub", "long", "up", "down"]) (cn:=[]) (ci:=[]) rfl (csc rfl rfl) trivial rfl (zBu (pv 1))
     (fun _ _ _ _=>zEp (n:=4) rfl (zAK (zr (i:=0) (zBJ rfl) rfl (Or.inl rfl)) (zAK (zr (i:=1) (zBJ rfl) rfl (Or.inl rfl)) (zAK (zr (i:=2) (zBJ rfl) rfl (Or.inl rfl)) (zAK (zr (i:=3) (zBJ rfl) rfl (Or.inl rfl)) zCB)))))
     (fun _ _ _ _=>zBK) (fun _ _ _ _=>zBC (zF (pv 0) (zF (pv 1) zT)))) zT)))
    (zW (zCZ (i:=3) (own:=["hub", "long", "up", "down"]) (cn:=["longs"]) (ci:=[2]) zKn.nd rfl (Or.inl rfl) rfl (csc rfl rfl) ⟨rfl,rfl,rfl,trivial⟩ rfl (zBu (pv 0))
     (fun _ _ _ _=>zEp (n:=4) rfl (zAK (zr (i:=0) (zBJ rfl) rfl (Or.inl rfl)) (zAK (zr (i:=1) (zBJ rfl) rfl (Or.inl rfl)) (zAK (zr (i:=2) (zBJ rfl) rfl (Or.inl rfl)) (zAK (zr (i:=3) (zBJ rfl) rfl (Or.inl rfl)) zCB)))))
     (fun _ _ _ _=>zB0 (zFR (zGa hu (pv 0) (pv 4)))) (fun _ _ _ _=>zBC (zF (zBc zCO (pv 1) (zCa hu (pv 4) (pv 0) (fun _ _=>rfl))) (zF (pv 0) zT))))
    (zn (zAb (zF0 rfl hu (by rfl) mMin (zF (pv 3) zT) (zBC (zF zBl (zF zBl zT))))))),?_⟩
   refine⟨_,rfl,q,rfl,⟨_,SqT.of hq⟩,[],rfl,fun D hD=>?_⟩
   refine zBN (a:=q) (xs:=bs.map V.ref) (fun i ys H4=>i<=fs.length/\ys.length=i/\(∀(j:Nat)(y:V),ys[j]? = some y->∃c e,y = .ref c/\fs[j]? = some e/\H4 c=some (.tup [.int e.h,.int e.l]))/\zA1 H H4/\H4 D=some (.lst ys)) ⟨zc _,rfl,fun j y z=>by simp at z,zG hD,zJ⟩ (fun i ys H4 h=>?_) (fun i ys H4 h=>?_) (fun i v ys H4 hv h=>?_) (fun ys H4 h=>?_)
   . exact SqT.of (h.2.2.2.1 _ _ hq)
   . exact zAd (by have:=h.1;have:=h.2.1;omega)
   . obtain⟨hi,hyl,hys,s4,hD4⟩:=h
     obtain⟨a,x,rfl,hx,ha⟩:=EB.at hv
     refine⟨a,_,rfl,SqT.of (s4 _ _ ha),rfl,_,_,rfl,_,_,rfl,_,_,rfl,_,_,rfl,rfl,⟨rfl,rfl⟩,?_⟩
     refine zD8 ?_
     refine⟨_,rfl,_,rfl,by show 2<=sizeLine;decide,fun c hc=>?_⟩
     have nDc:D≠c:=zh hD4 hc
     refine⟨zG hc _ _ hD4,(zE.mp hx).1,by rw[zI,hyl];rfl,fun j y hy=>?_,zAF (s4.trans (zG hc)) hD,zJ⟩
     by_cases cj:j<i
     . rw[zN (by omega)] at hy
       obtain⟨c',e,h1,h2,h3⟩:=hys j y hy
       refine⟨c',e,h1,h2,?_⟩
       rw[zZ (zA5 h3 hD4 (by intro z;cases z))]
       exact zG hc _ _ h3
     . have ej:j=i:=by
        have:=(zE.mp hy).1
        rw[zI,hyl] at this
        simp at this;omega
       subst ej
       rw[zM (by omega),hyl,zAp] at hy
       have ey:V.ref c=y:=by simpa using hy
       subst ey
       exact⟨c,x,rfl,hx,by rw[zZ (Ne.symm nDc)];exact zJ⟩
   . obtain⟨_,hyl,hys,s4,hD4⟩:=h
     rw[zB,EB.1] at hyl
     refine⟨D,ys,fs.map fun e=>(Sum.inl e.h,V.int e.l),rfl,SqL.of hD4,⟨by rw[zB,hyl],fun j y hy=>?_⟩,fun dd hdd=>?_⟩
     . obtain⟨c,e,h1,h2,h3⟩:=hys j y hy
       exact⟨c,Sum.inl e.h,.int e.l,h1,h3,by rw[zO,h2];rfl⟩
     have hnd:((fs.map fun e=>((Sum.inl e.h:Key),V.int e.l)).map (·.1)).Nodup:=by
      rw[zAZ,List.Nodup,zAW]
      exact hF.imp fun h z=>by injection z with z;omega
     rw[zDg hnd]
     have hval:∀x:Int,zBv (fs.map fun e=>((Sum.inl e.h:Key),V.int e.l)) (Sum.inl x)=(zIf fs x).map fun e=>V.int e.l:=fun x=>by
      unfold zBv zIf
      rw[List.find?_map,Option.map_map]
      have:((fun kv:Key×V=>decide (kv.1=Sum.inl x))∘fun e:En=>((Sum.inl e.h:Key),V.int e.l))=fun e:En=>decide (e.h=x):=by
       funext e
       show decide ((Sum.inl e.h:Key)=Sum.inl x)=_
       by_cases c:e.h=x
       . rw[zV c,zV (by rw[c])]
       . rw[ze c,ze (by intro z;injection z with z;exact c z)]
      rw[this]
      rfl
     have s5:zA1 H (upd H4 dd (.dK (fs.map fun e=>(Sum.inl e.h,V.int e.l)))):=s4.trans (zG hdd)
     have hd5:(upd H4 dd (.dK (fs.map fun e=>((Sum.inl e.h:Key),V.int e.l)))) dd=some (.dK (fs.map fun e=>(Sum.inl e.h,V.int e.l))):=zJ
     generalize upd H4 dd (.dK (fs.map fun e=>((Sum.inl e.h:Key),V.int e.l)))=H5 at s5 hd5 ⊢
     generalize (fs.map fun e=>((Sum.inl e.h:Key),V.int e.l))=kvs at hval hd5
     refine⟨_,rfl,p,rfl,⟨_,SqT.of (s5 _ _ hp)⟩,[.ref dd],rfl,fun D2 hD2=>?_⟩
     refine zBN (a:=p) (xs:=as.map V.ref) (fun i ys H6=>zAT H6 ys (((es.take i).filterMap (cOf fs)).map fun c=>[c.1,c.2])/\zA1 H5 H6/\H6 D2=some (.lst ys)) ⟨trivial,zG hD2,zJ⟩ (fun i ys H6 h=>?_) (fun i ys H6 h=>?_) (fun i v ys H6 hv h=>?_) (fun ys H6 h=>?_)
     . exact SqT.of (h.2.1 _ _ (s5 _ _ hp))
     . have:=h.1.length
       rw[this,zB]
       exact zAD (List.length_filterMap_le _ _) (zAd (by rw[zw];omega))
     . obtain⟨T6,s6,hD6⟩:=h
       obtain⟨a,x,rfl,hx,ha⟩:=EA.at hv
       refine⟨a,_,rfl,SqT.of (s6 _ _ (s5 _ _ ha)),rfl,_,_,rfl,_,_,rfl,_,_,rfl,_,_,rfl,rfl,⟨rfl,rfl⟩,?_⟩
       refine⟨_,rfl,_,rfl,dd,_,rfl,zCz.k (k:=Sum.inl x.h) (s6 _ _ hd5),_,rfl,?_⟩
       have st:=zId (cOf fs) hx
       have hv2:=hval x.h
       cases e:zIf fs x.h with
       | none=>
        rw[e] at hv2
        rw[hv2]
        refine zDU ?_
        have ec:cOf fs x=none:=by unfold cOf;rw[e];rfl
        refine⟨?_,s6,hD6⟩
        rw[st,ec]
        simpa using T6
       | some g=>
        rw[e] at hv2
        have hv3:zBv kvs (Sum.inl x.h)=some (.int g.l):=hv2
        rw[hv3]
        refine zFa ?_
        have ec:cOf fs x=some (x.l+g.l,x.h):=by unfold cOf;rw[e];rfl
        refine⟨_,rfl,_,rfl,_,rfl,dd,.int g.l,rfl,hv3 ▸ zCz.k (k:=Sum.inl x.h) (s6 _ _ hd5),_,_,rfl,rfl,_,rfl,by show 2<=sizeLine;decide,fun c hc=>?_⟩
        refine⟨zG hc _ _ hD6,?_,zAF (s6.trans (zG hc)) hD2,zJ⟩
        rw[st,ec,zQ]
        refine zAT.snoc (T6.keep fun b zs e=>?_) ⟨c,rfl,?_,by intro z;cases z⟩
        . rw[zZ (zA5 e hD6 (by intro z;cases z))]
          exact zG hc _ _ e
        . rw[zZ (Ne.symm (zh hD6 hc))]
          exact zJ
     . obtain⟨T6,s6,hD6⟩:=h
       rw[zB,EA.1,zf (zL _)] at T6
       have hmem:=fun c=>zDG (es:=es) hF c
       generalize es.filterMap (cOf fs)=cs at T6 hmem
       refine⟨_,rfl,_,rfl,by show 2<=sizeLine;decide,fun n hn=>?_⟩
       have s7:zA1 H (upd H6 n (.tup [.non,.non])):=(s5.trans s6).trans (zG hn)
       refine⟨D2,ys,rfl,.inl (SqL.of (zG hn _ _ hD6)),fun e0=>?_,.inl ⟨_,T6.keep fun b zs e=>zG hn _ _ e,fun i y kk hy hk hmin=>?_⟩⟩
       . refine k n none _ s7 (fun c z=>?_) zJ
         have:cs=[]:=by
          have:=T6.length
          rw[e0,zB] at this
          exact List.length_eq_zero_iff.mp this.symm
         rw[<-hmem,this] at z
         simp at z
       . obtain⟨a,k',e1,e2,e3,_⟩:=T6.get hy
         rw[hk] at e2
         cases e2
         rw[zO] at hk
         cases ec:cs[i]? with
         | none=>rw[ec] at hk;cases hk
         | some c=>
          rw[ec] at hk
          have ek:[c.1,c.2]=kk:=zR hk
          subst ek e1
          refine k a (some c) _ s7 ⟨(hmem c).mp (zS ec),fun c' hc'=>?_⟩ (zG hn _ _ e3)
          have:=hmin [c'.1,c'.2] (zi.mpr ⟨c',(hmem c').mpr hc',rfl⟩)
          rw[HT.lexLt_cons] at this
          by_cases q:c'.1=c.1
          . rw[if_pos q,HT.lexLt_cons] at this
            by_cases q2:c'.2=c.2
            . exact .inr ⟨q.symm,by omega⟩
            . rw[if_neg q2] at this
              have:=of_decide_eq_false this
              exact .inr ⟨q.symm,by omega⟩
          . rw[if_neg q] at this
            have:=of_decide_eq_false this
            exact .inl (by omega)
theorem scTold:zAR ["one", "other"] ["one", "other"] (defScope zHo):=⟨rfl,rfl,rfl,by decide +kernel,rfl,by decide +kernel,by decide +kernel⟩
theorem zLA {fS:Addr}{fdS:FuncData}(F:Fun K "told" "told" zHo f fd') (FS:Fun K "least_sum" "least_sum" sSum fS fdS) (bS:zAP K fdS ["one", "other"] []) (mS:mg "least_sum" = some (.ref fS)) (mDict:mg "dict" = none) (mMin:mg "min" = none):zAq P w K mg base CX0 2 f fd' ["one", "other"] zHZ:=by
 have GS:zAq P w K mg base CX0 1 fS fdS ["one", "other"] spSum:=ok_sum FS mDict mMin
 refine F.ok scTold (fun vs H Q E h=>?_) (fun cdv A outer s H vs Q E hr h=>?_)
 . obtain⟨p,q,es,fs,rfl,_⟩:=h
   rfl
 . obtain⟨p,q,es,fs,rfl,L1,L2',hF,k⟩:=h
   refine⟨_,zn (zAb (zAH zAr (zx GS hr rfl mS FS.kp bS .nil zAl (zF (pv 0) (zF (pv 1) zT))) zAA (fun _ _=>rfl))),?_⟩
   refine⟨_,rfl,_,rfl,p,q,es,fs,rfl,L1,L2',hF,fun r lm H' s1 hm hr'=>?_⟩
   exact⟨r,_,_,_,rfl,rfl,SqT.of hr',rfl,k lm H' s1 hm⟩
end
theorem zDl (s:zA1 H H')(h:H' p=none):H p=none:=by
 cases e:H p with
 | none=>rfl
 | some o=>rw[s p o e] at h;cases h
noncomputable def zHJ (S:List Int):Option Int->Prop
 | none=>S=[]
 | some m=>m∈S/\∀a∈S,m<=a
theorem zHJ.uniq {S:List Int}{o':Option Int}(h:zHJ S o)(h':zHJ S o'):o=o':=by
 cases o with
 | none=>
  cases o' with
  | none=>rfl
  | some m=>rw[show S=[] from h] at h';simp[zHJ] at h'
 | some m=>
  cases o' with
  | none=>rw[show S=[] from h'] at h;simp[zHJ] at h
  | some m'=>rw[Int.le_antisymm (h.2 _ h'.1) (h'.2 _ h.1)]
noncomputable def minL:List Int->Option Int
 | []=>none
 | a::r=>some (match minL r with
  | none=>a
  | some b=>min a b)
theorem zDC:∀S,zHJ S (minL S)
 | []=>rfl
 | a::r=>by
  have ih:=zDC r
  show zHJ (a::r) (some _)
  cases e:minL r with
  | none=>
   rw[e] at ih
   have hr:r=[]:=ih
   subst hr
   exact⟨zl,fun x hx=>by rw[zk.mp hx];exact zB5 _⟩
  | some b=>
   rw[e] at ih
   refine⟨?_,fun x hx=>?_⟩
   . show min a b∈a::r
     by_cases c:a<=b
     . rw[Int.min_eq_left c];exact zl
     . rw[Int.min_eq_right (by omega)];exact zv _ ih.1
   . show min a b<=x
     rcases zm.mp hx with rfl | hx
     . exact Int.min_le_left _ _
     . exact Int.le_trans (Int.min_le_right _ _) (ih.2 x hx)
noncomputable def sE (es fs:List En):List Int:=(es.filterMap (cOf fs)).map (·.1)
noncomputable def tv (es fs:List En):Option Int:=minL (sE es fs)
theorem zEQ {fs:List En}(hf:Hub fs):x∈sE es fs↔∃e∈es,∃f∈fs,f.h=e.h/\x=e.l+f.l:=by
 unfold sE
 rw[zi]
 constructor
 . rintro ⟨c,hc,rfl⟩
   obtain⟨e,he,f,hfm,hh,rfl⟩:=(zDG hf c).mp hc
   exact⟨e,he,f,hfm,hh,rfl⟩
 . rintro ⟨e,he,f,hfm,hh,rfl⟩
   exact⟨(e.l+f.l,e.h),(zDG hf _).mpr ⟨e,he,f,hfm,hh,rfl⟩,rfl⟩
theorem zHJ.congr {S T:List Int}(h:∀x,x∈S↔x∈T)(m:zHJ S o):zHJ T o:=by
 cases o with
 | none=>
  have hS:S=[]:=m
  cases T with
  | nil=>rfl
  | cons t r=>exact absurd ((h t).mpr zl) (by rw[hS];simp)
 | some v=>exact⟨(h v).mp m.1,fun a ha=>m.2 a ((h a).mpr ha)⟩
theorem zJB {fs:List En}(h:zHJ (sE es fs) o):o=tv es fs:=h.uniq (zDC _)
theorem tv_lm {fs:List En}(hf:Hub fs){lm:Option (Int×Int)}(h:LMin (Cd es fs) lm):lm.map (·.1)=tv es fs:=by
 refine zJB ?_
 cases lm with
 | none=>
  show sE es fs=[]
  unfold sE
  cases e:es.filterMap (cOf fs) with
  | nil=>rfl
  | cons c r=>exact absurd ((zDG hf c).mp (by rw[e];exact zl)) (h c)
 | some c=>
  refine⟨zi.mpr ⟨c,(zDG hf c).mpr h.1,rfl⟩,fun x hx=>?_⟩
  obtain⟨c',hc',rfl⟩:=zi.mp hx
  have:=h.2 c' ((zDG hf c').mp hc')
  show c.1<=c'.1
  omega
theorem zHP {fs:List En}(he:Hub es)(hf:Hub fs):tv es fs=tv fs es:=by
 refine zHJ.uniq (S:=sE fs es) (zHJ.congr (fun x=>?_) (zDC (sE es fs))) (zDC _)
 rw[zEQ hf,zEQ he]
 constructor
 . rintro ⟨e,a,f,b,c,rfl⟩;exact⟨f,b,e,a,c.symm,by omega⟩
 . rintro ⟨e,a,f,b,c,rfl⟩;exact⟨f,b,e,a,c.symm,by omega⟩
noncomputable def zC8 (es:List En)(h:Int):List En:=es.filter fun e=>!decide (e.h=h)
theorem zGK (H:Hub es):Hub (zC8 es h):=H.sublist zB4
theorem zEv:e∈zC8 es h↔e∈es/\e.h≠h:=by
 unfold zC8
 rw[zAu]
 constructor
 . rintro ⟨a,b⟩;exact⟨a,fun z=>by rw[zV z] at b;cases b⟩
 . rintro ⟨a,b⟩;exact⟨a,by rw[ze b];rfl⟩
structure LF (es:List En):Prop where
 hub:Hub es
 nn:∀e∈es,0<=e.l/\e.l<=100000
 own:∃e∈es,e.l=0
noncomputable def eO (e:En):List (Option Int):=[some e.h,some e.l,e.u,e.d]
theorem eV_eO (e:En):eV e=(eO e).map oV:=rfl
noncomputable def spB (ess:List (List En))(i:Nat)(e:En):Bool:=decide (e.l≠0) && ess.all fun o=>decide (tv (zC8 (ess.getD i []) e.h) o=tv (ess.getD i []) o)
noncomputable def zFb (ess:List (List En))(i:Nat):List (List Int):=((ess.getD i []).filter (spB ess i)).map fun e=>[(i:Int),e.h]
noncomputable def goN (ess:List (List En)):Nat->List (List Int)
 | 0=>[]
 | i+1=>goN ess i++zFb ess i
noncomputable def goL (ess:List (List En)):List (List Int):=goN ess ess.length
noncomputable def zHM (ess:List (List En)):Nat->List (Nat×En)
 | 0=>[]
 | i+1=>zHM ess i++((ess.getD i []).filter fun e=>decide (e.l≠0)).map fun e=>(i,e)
theorem zIY (ess:List (List En)):∀i,((zHM ess i).filter fun p=>ess.all fun o=>decide (tv (zC8 (ess.getD p.1 []) p.2.h) o=tv (ess.getD p.1 []) o)).map (fun p=>[(p.1:Int),p.2.h])=goN ess i
 | 0=>rfl
 | i+1=>by
  show ((zHM ess i++_).filter _).map _=goN ess i++zFb ess i
  rw[zAh,zQ,zIY ess i]
  congr 1
  unfold zFb
  rw[List.filter_map,zAZ,List.filter_filter]
  congr 1
  refine List.filter_congr fun e _=>?_
  show (_ && decide (e.l≠0))=spB ess i e
  unfold spB
  rw[Bool.and_comm]
  rfl
noncomputable def zCm (H:Hp)(ys:List V)(fe:List (Nat×En)):Prop:=ys.length=fe.length/\∀(j:Nat)(y:V),ys[j]? = some y->∃(c a:Addr)(i:Nat)(e:En),y = .ref c/\fe[j]? = some (i,e)/\H c=some (.tup [.int i,.ref a])/\H a=some (.tup (eV e))
variable {ys:List V}
theorem zCm.keep {fe:List (Nat×En)}(h:zCm H ys fe)(k:∀b zs,H b=some (.tup zs)->H' b=some (.tup zs)):zCm H' ys fe:=
 ⟨h.1,fun j y e=>let ⟨c,a,i,x,h1,h2,h3,h4⟩:=h.2 j y e;⟨c,a,i,x,h1,h2,k _ _ h3,k _ _ h4⟩⟩
theorem zCm.app {zs:List V}{fe ge:List (Nat×En)}(h:zCm H ys fe)(g:zCm H zs ge):zCm H (ys++zs) (fe++ge):=by
 refine⟨by rw[zI,zI,h.1,g.1],fun j y e=>?_⟩
 by_cases c:j<ys.length
 . rw[zN c] at e
   obtain⟨a,b,i,x,h1,h2,h3⟩:=h.2 j y e
   exact⟨a,b,i,x,h1,by rw[zN (by rw[<-h.1];exact c)];exact h2,h3⟩
 . rw[zM (by omega)] at e
   obtain⟨a,b,i,x,h1,h2,h3⟩:=g.2 _ y e
   exact⟨a,b,i,x,h1,by rw[zM (by rw[<-h.1];omega),<-h.1];exact h2,h3⟩
noncomputable def zHf:Sp:=fun vs H Q _=>∃(l:Addr)(ess:List (List En)),vs=[.ref l]/\zBF H l ess/\ess.length<=24/\(∀es∈ess,es.length<=24) /\
 ∀(a:Addr)(ys:List V)(H':Hp),zA1 H H'->H a=none->H' a=some (.lst ys)->zCm H' ys (zHM ess ess.length)->Q (.ref a) H'
noncomputable def zKe:Sp:=fun vs H Q _=>∃(l a:Addr)(i:Nat)(e:En)(ess:List (List En)),vs=[.ref l,.int i,.ref a]/\zBF H l ess/\ess.length<=24/\(∀es∈ess,LF es)/\H a=some (.tup (eV e))/\i<ess.length/\e∈ess.getD i [] /\
 ∀H',zA1 H H'->Q (.bl (ess.all fun o=>decide (tv (zC8 (ess.getD i []) e.h) o=tv (ess.getD i []) o))) H'
noncomputable def spCan:Sp:=fun vs H Q _=>∃(l:Addr)(ess:List (List En)),vs=[.ref l]/\zBF H l ess/\ess.length<=24/\(∀es∈ess,LF es)/\(∀es∈ess,es.length<=24) /\
 ∀(a:Addr)(ys:List V)(H':Hp),zA1 H H'->H a=none->H' a=some (.lst ys)->zAT H' ys (goL ess)->Q (.ref a) H'
theorem zGk {ess:List (List En)}:∀{n i:Nat}{e:En},(i,e)∈zHM ess n->i<n/\e∈ess.getD i []
 | 0,_,_,h=>by simp[zHM] at h
 | n+1,i,e,h=>by
  rcases zu.mp (show (i,e)∈zHM ess n++_ from h) with z | z
  . have:=zGk z
    exact⟨by omega,this.2⟩
  . obtain⟨x,hx,ex⟩:=zi.mp z
    simp only[Prod.mk.injEq] at ex
    obtain⟨rfl,rfl⟩:=ex
    exact⟨by omega,(zAu.mp hx).1⟩
theorem zE0 {ess:List (List En)}(h:∀es∈ess,es.length<=24):∀n,(zHM ess n).length<=24*n
 | 0=>zL _
 | n+1=>by
  show (zHM ess n++_).length<=_
  rw[zI,zB]
  have h1:=zE0 h n
  have h2:=zq (fun e:En=>decide (e.l≠0)) (ess.getD n [])
  have h3:(ess.getD n []).length<=24:=by
   rw[zD]
   cases e:ess[n]? with
   | none=>exact zc _
   | some x=>exact h x (zS e)
  omega
variable {ess:List (List En)}
theorem zBF.at_ (h:zBF H l ess)(hi:i<ess.length):∃(as:List Addr)(a:Addr),H l=some (.tup (as.map V.ref))/\as.length=ess.length/\as[i]? = some a/\zB6 H a (ess.getD i []):=by
 obtain⟨as,h1,h2,h3⟩:=h
 have hl:i<as.length:=by omega
 obtain⟨es,e1,e2⟩:=h3 i as[i] (zA hl)
 refine⟨as,as[i],h1,h2,zA hl,?_⟩
 rw[zD,e1]
 exact e2
section
variable {P:Program}{w:World}{K:PySem.W.Frag}{mg:Str->Option Value}{base:Heap}
theorem zGO:zAR ["labels", "found", "place", "label"] ["labels"] (defScope zHt):=⟨rfl,rfl,rfl,by decide +kernel,rfl,by decide +kernel,by decide +kernel⟩
theorem zLI (F:Fun K "far_entries" "far_entries" zHt f fd') (mEnum:mg "enumerate" = none):zAq P w K mg base CX0 1 f fd' ["labels"] zHf:=by
 refine F.ok zGO (fun vs H Q E h=>?_) (fun cdv A outer s H vs Q E hr h=>?_)
 . obtain⟨l,ess,rfl,_⟩:=h
   rfl
 . obtain⟨l,ess,rfl,LL,hn,hes,k⟩:=h
   obtain⟨as,hl,hal,hA⟩:=id LL
   refine⟨_,zW (zAN (i:=1) zGO.nd rfl (Or.inl rfl) (zB1 zT))
    (zW (zBk PassesOwn.never rfl (zJX (by rfl) mEnum (zF (pv 0) zT)) (zCf rfl (zAK (zr (i:=2) zGO.nd rfl (Or.inr rfl)) (zAK (zr (i:=3) zGO.nd rfl (Or.inl rfl)) zCB)))
     (zn (zCL (zDA PySem.F.plainAttrs_list PySem.F.slot_list_extend PySem.F.type_list_extend zIH (pv 1) (zF
      (zBA (own:=["entry"]) (cn:=["place"]) (ci:=[2]) rfl (csc rfl rfl) ⟨rfl,rfl,rfl,trivial⟩ rfl (zBu (pv 3)) (fun _ _ _ _=>zr (i:=0) (zBJ rfl) rfl (Or.inl rfl))
       (fun _ _ _ _=>zB0 (zAQ zH8 (zAH zBf (pv 0) zAA (fun _ _=>rfl)) zAA (zAc _)))
       (fun _ _ _ _=>zBC (zF (pv 1) (zF (pv 0) zT)))) zT)))))
    (zn (zAb (pv 1)))),?_⟩
   refine⟨by show 0<=sizeLine;decide,fun D hD=>?_⟩
   have s0:=zG (o:=.lst []) hD
   refine⟨_,rfl,l,rfl,⟨_,SqT.of (s0 _ _ hl)⟩,zIa (K:=K) (a:=l) (xs:=as.map V.ref) (fun i σ H2=>∃(v2 v3:Option V)(ys:List V),σ=[some (.ref l),some (.ref D),v2,v3]/\zA1 H H2/\H2 D=some (.lst ys)/\zCm H2 ys (zHM ess i))
    ⟨_,_,[],rfl,s0,zJ,rfl,fun j y e=>by simp at e⟩ (fun i σ H2 _ ⟨_,_,_,_,s2,_⟩=>SqT.of (s2 _ _ hl)) ?turn ?after⟩
   case after=>
    rintro σ H2 ⟨v2,v3,ys,rfl,s2,hD2,FA⟩
    rw[zB,hal] at FA
    exact⟨_,rfl,k D ys H2 s2 hD hD2 FA⟩
   case turn=>
    rintro i x σ H2 Tp hx ⟨v2,v3,ys,rfl,s2,hD2,FA⟩ hTp
    rw[zO] at hx
    cases ha:as[i]? with
    | none=>rw[ha] at hx;cases hx
    | some a=>
    rw[ha] at hx
    cases hx
    have hia:=(zE.mp ha).1
    obtain⟨es,hes1,bs,hb,EA,hl3⟩:=hA i a ha
    have eget:ess.getD i []=es:=by rw[zD,hes1];rfl
    have hel:=hes es (zS hes1)
    have sT:=zG (o:=.tup [.int (i:Int),.ref a]) hTp
    have s3:=s2.trans sT
    refine⟨Tp,_,rfl,SqT.of zJ,rfl,_,_,rfl,_,_,rfl,rfl,?_⟩
    refine⟨_,rfl,.inl ⟨rfl,_,SqL.of (sT _ _ hD2)⟩,_,rfl,a,rfl,⟨_,SqT.of (s3 _ _ hb)⟩,[.int i],rfl,fun D2 hD2'=>?_⟩
    have EA3:zCI (upd H2 Tp (.tup [.int (i:Int),.ref a])) bs es:=EA.keep fun b zs e=>s3 _ _ e
    have hbl:=EA.1
    refine zBN (a:=a) (xs:=bs.map V.ref) (fun j zs H4=>zCm H4 zs (((es.take j).filter fun e=>decide (e.l≠0)).map fun e=>(i,e))/\zA1 (upd H2 Tp (.tup [.int (i:Int),.ref a])) H4/\H4 D2=some (.lst zs)) ⟨⟨rfl,fun j y e=>by simp at e⟩,zG hD2',zJ⟩ (fun j zs H4 h=>?_) (fun j zs H4 h=>?_) (fun j v zs H4 hv h=>?_) (fun zs H4 h=>?_)
    . exact SqT.of (h.2.1 _ _ (s3 _ _ hb))
    . rw[h.1.1,zB]
      exact zAD (zq _ _) (zAd (by rw[zw];omega))
    . obtain⟨F4,s4,hD4⟩:=h
      obtain⟨c,e,rfl,he,hc⟩:=EA3.at hv
      have hc4:=s4 _ _ hc
      refine⟨⟨rfl,rfl⟩,?_⟩
      refine⟨_,rfl,c,_,_,.int e.l,rfl,rfl,SqT.of hc4,rfl,rfl,_,rfl,?_⟩
      rw[zLb]
      have st:=zCi (fun e:En=>decide (e.l≠0)) he
      by_cases cc:e.l=0
      . rw[zV cc]
        refine zDU ⟨?_,s4,hD4⟩
        rw[st,if_neg (by simp[cc]),zAB]
        exact F4
      . rw[ze cc]
        refine zFa ?_
        refine⟨_,rfl,_,rfl,by show 2<=sizeLine;decide,fun q hq=>?_⟩
        have nDq:=zh hD4 hq
        refine⟨zG hq _ _ hD4,?_,zAF (s4.trans (zG hq)) hD2',zJ⟩
        rw[st,if_pos (by simp[cc]),zQ]
        have kp:∀b us,H4 b=some (.tup us)->(upd (upd H4 q (.tup [.int (i:Int),.ref c])) D2 (.lst (zs++[.ref q]))) b=some (.tup us):=fun b us e=>by
         rw[zZ (zA5 e hD4 (by intro z;cases z))]
         exact zG hq _ _ e
        refine (F4.keep kp).app ⟨rfl,fun j' y' e'=>?_⟩
        cases j' with
        | zero=>
         have:V.ref q=y':=by simpa using e'
         subst this
         exact⟨q,c,i,e,rfl,rfl,by rw[zZ nDq.symm];exact zJ,kp _ _ hc4⟩
        | succ z=>simp at e'
    . obtain⟨F4,s4,hD4⟩:=h
      rw[zB,EA.1,zf (zL _)] at F4
      have hDD:=s4 _ _ (sT _ _ hD2)
      have f1:=zE0 hes i
      have f2:=FA.1
      have f3:=F4.1
      have f4:=zq (fun e:En=>decide (e.l≠0)) es
      rw[zB] at f3
      refine⟨D,D2,_,_,rfl,rfl,hDD,hD4,zBq (zAd (by omega)),?_⟩
      have s5:=zAF (o:=.lst (ys++zs)) (s3.trans s4) hD
      have kp:∀b us,H4 b=some (.tup us)->(upd H4 D (.lst (ys++zs))) b=some (.tup us):=fun b us e=>by rw[zZ (zA5 e hDD (by intro z;cases z))];exact e
      refine⟨_,_,ys++zs,rfl,s5,zJ,?_⟩
      show zCm _ _ (zHM ess i++_)
      rw[eget]
      exact ((FA.keep fun b us e=>s4 _ _ (sT _ _ e)).keep kp).app (F4.keep kp)
end
theorem zIV (H:Hub es){a b:En}(ha:a∈es)(hb:b∈es)(h:a.h=b.h):a=b:=by
 have h1:=(zDX H (h:=a.h)).mpr ⟨ha,rfl⟩
 have h2:=(zDX H (h:=a.h)).mpr ⟨hb,h.symm⟩
 exact zR (h1.symm.trans h2)
theorem eO_inj {a b:En}(h:eO a=eO b):a.h=b.h:=by
 unfold eO at h
 simp only[List.cons.injEq,Option.some.injEq] at h
 exact h.1
theorem zKa (H:Hub es)(he:e∈es):(es.filter fun o=>!decide (eO o=eO e))=zC8 es e.h:=by
 unfold zC8
 refine List.filter_congr fun o ho=>?_
 by_cases c:o.h=e.h
 . rw[zIV H ho he c,zV rfl,zV rfl]
 . rw[ze c,ze fun z=>c (eO_inj z)]
section
variable {P:Program}{w:World}{K:PySem.W.Frag}{mg:Str->Option Value}{base:Heap}
theorem zKo:zAR ["labels", "place", "entry", "label", "rest"] ["labels", "place", "entry"] (defScope sIsp):=⟨rfl,rfl,rfl,by decide +kernel,rfl,by decide +kernel,by decide +kernel⟩
theorem ok_isp {fT:Addr}(F:Fun K "is_spare" "is_spare" sIsp f fd') (FT:Fun K "told" "told" zHo fT fdT) (bT:zAP K fdT ["one", "other"] []) (mT:mg "told" = some (.ref fT)) (GT:zAq P w K mg base CX0 2 fT fdT ["one", "other"] zHZ)
 (mTuple:mg "tuple" = none) (mAll:mg "all" = none):zAq P w K mg base CX0 3 f fd' ["labels", "place", "entry"] zKe:=by
 refine F.ok zKo (fun vs H Q E h=>?_) (fun cdv A outer s H vs Q E hr h=>?_)
 . obtain⟨l,a,i,e,ess,rfl,_⟩:=h
   rfl
 . obtain⟨l,a,i,e,ess,rfl,LL,hn,hLF,ha,hi,he,k⟩:=h
   have hu0:=hr.units0
   refine⟨_,zW (zAN (i:=3) zKo.nd rfl (Or.inr rfl) (zAH zAr (pv 0) (pv 1) (fun _ _=>rfl)))
    (zW (zAN (i:=4) zKo.nd rfl (Or.inr rfl) (zAf zAJ (by rfl) mTuple (by decide +kernel) (zF
     (zBA (own:=["other"]) (cn:=["entry"]) (ci:=[2]) rfl (csc rfl rfl) ⟨rfl,rfl,rfl,trivial⟩ rfl (zBu (pv 3)) (fun _ _ _ _=>zr (i:=0) (zBJ rfl) rfl (Or.inl rfl))
      (fun _ _ _ _=>zB0 (zAQ (zJb hu0) (pv 0) (pv 1) (zAc _))) (fun _ _ _ _=>pv 0)) zT)))
    (zn (zAb (zAV (zE3 rfl) (by rfl) mAll (by decide +kernel) (zF
     (zBA (own:=["other"]) (cn:=["rest", "label"]) (ci:=[4,3]) rfl (csc rfl rfl) ⟨rfl,rfl,rfl,rfl,rfl,rfl,trivial⟩ rfl (zBu (pv 0)) (fun _ _ _ _=>zr (i:=0) (zBJ rfl) rfl (Or.inl rfl)) (fun _ _ _ _=>zBK)
      (fun _ _ _ _=>zCg zCv (zx GT hr rfl mT FT.kp bT .nil zAl (zF (pv 1) (zF (pv 0) zT))) (zx GT hr rfl mT FT.kp bT .nil zAl (zF (pv 2) (zF (pv 0) zT))) (zAc _))) zT))))),?_⟩
   obtain⟨as,b,hl,hal,hb,LB⟩:=LL.at_ hi
   have hLb:LF (ess.getD i []):=by
    rw[zD,zA hi]
    exact hLF _ (zAX hi)
   obtain⟨bs,hbt,EA,hbl⟩:=id LB
   refine⟨_,rfl,_,rfl,l,_,_,.ref b,rfl,rfl,SqT.of hl,zCw (by rw[zO,hb];rfl),?_⟩
   generalize hes:ess.getD i []=es at *
   refine⟨_,rfl,b,rfl,⟨_,SqT.of hbt⟩,[.ref a],rfl,fun D hD=>?_⟩
   refine zBN (a:=b) (xs:=bs.map V.ref) (fun j ys H4=>∃cs:List Addr,ys=cs.map V.ref/\zCI H4 cs ((es.take j).filter fun o=>!decide (eO o=eO e))/\zA1 H H4/\H4 D=some (.lst ys)) ⟨[],rfl,⟨rfl,fun j c z=>by simp at z⟩,zG hD,zJ⟩ (fun j ys H4 h=>?_) (fun j ys H4 h=>?_) (fun j v ys H4 hv h=>?_) (fun ys H4 h=>?_)
   . obtain⟨_,_,_,s4,_⟩:=h
     exact SqT.of (s4 _ _ hbt)
   . obtain⟨cs,rfl,E4,_⟩:=h
     rw[zB,E4.1]
     exact zAD (zq _ _) (zAd (by rw[zw];omega))
   . obtain⟨cs,rfl,E4,s4,hD4⟩:=h
     obtain⟨c,o,rfl,ho,hc⟩:=EA.at hv
     have hc4:=s4 _ _ hc
     refine⟨⟨rfl,rfl⟩,?_⟩
     refine⟨_,rfl,_,rfl,c,a,eO o,eO e,rfl,rfl,SqT.of (by rw[<-eV_eO];exact hc4),SqT.of (by rw[<-eV_eO];exact s4 _ _ ha),_,rfl,?_⟩
     have st:=zCi (fun o:En=>!decide (eO o=eO e)) ho
     refine zDO (fun cc=>?_) (fun cc=>?_)
     . refine⟨_,rfl,hD4,cs++[c],by rw[zQ];rfl,?_,zAF s4 hD,zJ⟩
       rw[st,if_pos cc]
       refine (E4.keep fun b' zs z=>?_).snoc ?_
       . rw[zZ (zA5 z hD4 (by intro q;cases q))];exact z
       . rw[zZ (zA5 hc4 hD4 (by intro q;cases q))];exact hc4
     . refine⟨cs,rfl,?_,s4,hD4⟩
       rw[st,if_neg cc,zAB]
       exact E4
   obtain⟨cs,rfl,E4,s4,hD4⟩:=h
   rw[zB,EA.1,zf (zL _),zKa hLb.hub he] at E4
   refine⟨D,_,rfl,.inl ⟨SqL.of hD4,fun rp hrp=>?_⟩⟩
   have s5:=s4.trans (zG (o:=.tup (cs.map V.ref)) hrp)
   have hsl:(zC8 es e.h).length<=1000:=zy (zq _ _) hbl
   have LR:zB6 (upd H4 rp (.tup (cs.map V.ref))) rp (zC8 es e.h):=⟨cs,zJ,E4.keep fun b' zs z=>zG hrp _ _ z,hsl⟩
   have LB5:=LB.same s5
   have LL5:zBF (upd H4 rp (.tup (cs.map V.ref))) l ess:=LL.keep fun b' zs z=>s5 _ _ z
   generalize upd H4 rp (.tup (cs.map V.ref))=H5 at s5 LR LB5 LL5 ⊢
   refine⟨_,rfl,l,rfl,⟨_,SqT.of (s5 _ _ hl)⟩,[.ref rp,.ref b],rfl,fun D2 hD2=>?_⟩
   refine zBN (a:=l) (xs:=as.map V.ref) (fun j ys H6=>j<=ess.length/\ys=((ess.take j).map fun o=>decide (tv (zC8 es e.h) o=tv es o)).map V.bl/\zA1 H5 H6/\H6 D2=some (.lst ys)) ⟨zc _,rfl,zG hD2,zJ⟩ (fun j ys H6 h=>?_) (fun j ys H6 h=>?_) (fun j v ys H6 hv h=>?_) (fun ys H6 h=>?_)
   . exact SqT.of (h.2.2.1 _ _ (s5 _ _ hl))
   . obtain⟨hj,rfl,_⟩:=h
     rw[zB,zB,zw]
     exact zAd (by omega)
   . obtain⟨_,rfl,s6,hD6⟩:=h
     rw[zO] at hv
     cases ho:as[j]? with
     | none=>rw[ho] at hv;cases hv
     | some c=>
     rw[ho] at hv
     cases hv
     have hja:=(zE.mp ho).1
     obtain⟨as',h1,h2,h3⟩:=id LL5
     obtain rfl:as'=as:=by
      rw[s5 _ _ hl] at h1
      injection h1 with z
      injection z with z
      have inj:∀xs ys:List Addr,xs.map V.ref=ys.map V.ref->xs=ys:=by
       intro xs
       induction xs with
       | nil=>intro ys e;cases ys with
        | nil=>rfl
        | cons y ys=>cases e
       | cons x xs ih=>
        intro ys e
        cases ys with
        | nil=>cases e
        | cons y ys=>
         simp only[zAS,List.cons.injEq,V.ref.injEq] at e
         rw[e.1,ih ys e.2]
      exact (inj _ _ z).symm
     obtain⟨os,hos,LO⟩:=h3 j c ho
     have hOF:=hLF os (zS hos)
     refine⟨⟨rfl,rfl⟩,?_⟩
     refine zD8 ?_
     refine⟨_,rfl,_,rfl,rp,c,_,os,rfl,LR.same s6,LO.same s6,hOF.hub,fun lm H7 s7 hm=>?_⟩
     refine⟨_,rfl,_,rfl,b,c,es,os,rfl,(LB5.same s6).same s7,(LO.same s6).same s7,hOF.hub,fun lm' H8 s8 hm'=>?_⟩
     rw[tv_lm hOF.hub hm,tv_lm hOF.hub hm']
     refine⟨zHn _ _,?_⟩
     rw[zKN]
     have hD8:=s8 _ _ (s7 _ _ hD6)
     refine⟨hD8,by omega,?_,zAF ((s6.trans s7).trans s8) hD2,zJ⟩
     rw[zAI,hos,zQ,zQ];rfl
   . obtain⟨_,rfl,s6,hD6⟩:=h
     rw[zB,hal,zf (zL _)] at hD6
     refine⟨D2,_,rfl,SqL.of hD6,?_⟩
     rw[List.all_map]
     exact k _ (s5.trans s6)
theorem scCan:zAR ["labels"] ["labels"] (defScope sCan):=⟨rfl,rfl,rfl,by decide +kernel,rfl,by decide +kernel,by decide +kernel⟩
theorem ok_can {fI:Addr}{fdI:FuncData}(F:Fun K "can_go" "can_go" sCan f fd') (FF:Fun K "far_entries" "far_entries" zHt fF fdF) (bF:zAP K fdF ["labels"] []) (mF:mg "far_entries" = some (.ref fF)) (GF:zAq P w K mg base CX0 3 fF fdF ["labels"] zHf)
 (FI:Fun K "is_spare" "is_spare" sIsp fI fdI) (bI:zAP K fdI ["labels", "place", "entry"] []) (mI:mg "is_spare" = some (.ref fI)) (GI:zAq P w K mg base CX0 3 fI fdI ["labels", "place", "entry"] zKe):zAq P w K mg base CX0 4 f fd' ["labels"] spCan:=by
 refine F.ok scCan (fun vs H Q E h=>?_) (fun cdv A outer s H vs Q E hr h=>?_)
 . obtain⟨l,ess,rfl,_⟩:=h
   rfl
 . obtain⟨l,ess,rfl,LL,hn,hLF,hes,k⟩:=h
   refine⟨_,zn (zAb (zBA (own:=["place", "entry"]) (cn:=["labels"]) (ci:=[0]) rfl (csc rfl rfl) ⟨rfl,rfl,rfl,trivial⟩ rfl
    (zCE (zx GF hr rfl mF FF.kp bF .nil zAl (zF (pv 0) zT)))
    (fun _ _ _ _=>zEp (n:=2) rfl (zAK (zr (i:=0) (zBJ rfl) rfl (Or.inl rfl)) (zAK (zr (i:=1) (zBJ rfl) rfl (Or.inl rfl)) zCB)))
    (fun _ _ _ _=>zB0 (zDh (zx GI hr rfl mI FI.kp bI .nil zAl (zF (pv 2) (zF (pv 0) (zF (pv 1) zT))))))
    (fun _ _ _ _=>zBC (zF (pv 0) (zF (zAH zBf (pv 1) zAA (fun _ _=>rfl)) zT))))),?_⟩
   refine⟨_,rfl,l,ess,rfl,LL,hn,hes,fun fa fys H1 s1 hfa0 hfa FA=>?_⟩
   have LL1:zBF H1 l ess:=LL.keep fun b zs z=>s1 _ _ z
   have hfl:=zE0 hes ess.length
   have hFl:=FA.1
   refine⟨fa,rfl,⟨_,SqL.of hfa⟩,[.ref l],rfl,fun D hD=>?_⟩
   refine zBz (a:=fa) (xs:=fys) (fun j zs H4=>zAT H4 zs (((((zHM ess ess.length).take j).filter fun p=>ess.all fun o=>decide (tv (zC8 (ess.getD p.1 []) p.2.h) o=tv (ess.getD p.1 []) o))).map (fun p=>[(p.1:Int),p.2.h]))/\zA1 H1 H4/\H4 D=some (.lst zs)) ⟨trivial,zG hD,zJ⟩ (fun j zs H4 h=>?_) (fun j zs H4 h=>?_) (fun j v zs H4 hv h=>?_) (fun zs H4 h=>?_)
   . exact SqL.of (h.2.1 _ _ hfa)
   . rw[h.1.length,zB]
     refine zAD (zq _ _) (zAd ?_)
     rw[zw]
     omega
   . obtain⟨T4,s4,hD4⟩:=h
     obtain⟨c,a,i,e,rfl,hf,hc,ha⟩:=FA.2 j v hv
     obtain⟨hi,he⟩:=zGk (zS hf)
     refine⟨c,_,rfl,SqT.of (s4 _ _ hc),rfl,_,_,rfl,_,_,rfl,rfl,⟨rfl,rfl⟩,?_⟩
     refine⟨_,rfl,_,rfl,_,rfl,l,a,i,e,ess,rfl,LL1.keep fun b zs z=>s4 _ _ z,hn,hLF,s4 _ _ ha,hi,he,fun H5 s5=>?_⟩
     refine⟨_,rfl,?_⟩
     have st:=zCi (fun p:Nat×En=>ess.all fun o=>decide (tv (zC8 (ess.getD p.1 []) p.2.h) o=tv (ess.getD p.1 []) o)) hf
     have hD5:=s5 _ _ hD4
     have s45:=s4.trans s5
     refine zDO (fun cc=>?_) (fun cc=>?_)
     . refine⟨_,rfl,_,rfl,a,_,_,.int e.h,rfl,rfl,SqT.of (s45 _ _ ha),rfl,by show 2<=sizeLine;decide,fun q hq=>?_⟩
       refine⟨zG hq _ _ hD5,?_,zAF (s45.trans (zG hq)) hD,zJ⟩
       rw[st,if_pos cc,zQ]
       refine ((T4.keep fun b us z=>s5 _ _ z).keep fun b us z=>?_).snoc ⟨q,rfl,?_,by simp⟩
       . rw[zZ (zA5 z hD5 (by intro q;cases q))]
         exact zG hq _ _ z
       . rw[zZ (Ne.symm (zh hD5 hq))]
         exact zJ
     . refine⟨?_,s45,hD5⟩
       rw[st,if_neg cc,zAB]
       exact T4.keep fun b us z=>s5 _ _ z
   . obtain⟨T4,s4,hD4⟩:=h
     rw[hFl,zf (zL _),zIY] at T4
     exact k D zs H4 (s1.trans s4) (zDl s1 hD) hD4 T4
end
section
variable {X:Cx}{pl:List (Addr×Obj)}{N':List Str}{sc:Scope}{yc:Str}{fp:List Addr}{s3:Shared}{H3:Hp}{tg:Expr}
theorem zJW {l:Expr}{tl:TE}(hl:PE (zBg X pl N' sc yc fp s3 H3) l tl):PI (zBg X pl N' sc yc fp s3 H3) tg l (iTup X.K tl):=zBu hl
end
section
variable {X:Cx}
noncomputable def rCatV:R2:=fun x y H Q=>∃(a b:Addr)(xs ys:List V),x = .ref a/\y = .ref b/\H a=some (.tup xs)/\H b=some (.tup ys)/\xs.length+ys.length<=sizeLine/\∀(p:Addr)(H':Hp),zA1 H H'->H' p=some (.tup (xs++ys))->Q (.ref p) H'
theorem zF2:OpR X (binaryOp .Add) rCatV:=fun pins s σ H x y v u Q I rx ry h=>by
 obtain⟨a,b,xs,ys,rfl,rfl,ha,hb,hz,q⟩:=h
 refine zK7 pins s σ H _ _ v u Q I rx ry ⟨a,b,xs,ys,rfl,rfl,SqT.of ha,SqT.of hb,hz,fun e=>?_,fun _ e=>?_,fun _ _ p hp=>q p _ (zG hp) zJ⟩
 . subst e;exact q b H (zA1.refl _) hb
 . subst e;exact q a H (zA1.refl _) (by rw[zAB];exact ha)
noncomputable def rSlV:V->Option Int->Option Int->Hp->VK->Prop:=fun x lo hi H Q=>∃(a:Addr)(xs:List V),x = .ref a/\H a=some (.tup xs)/\∀(p:Addr)(H':Hp),zA1 H H'->H' p=some (.tup (zE5 xs lo hi))->Q (.ref p) H'
theorem zHh:SlR X rSlV:=fun pins s σ H x v vl vu lo hi sl Q I rx hs pl pu h=>by
 obtain⟨a,xs,rfl,ha,q⟩:=h
 refine zHi pins s σ H _ v vl vu lo hi sl Q I rx hs pl pu ⟨a,xs,rfl,SqT.of ha,fun e=>?_,fun _ p hp=>q p _ (zG hp) zJ⟩
 refine q a H (zA1.refl _) ?_
 have:zE5 xs lo hi=xs:=by
  unfold zE5
  rw[e.1,e.2,List.drop_zero,Nat.sub_zero,zf (zL _)]
 rw[this]
 exact ha
end
theorem zKR {fs:List En}(g:En->V)(x:Int):zBv (fs.map fun e=>((Sum.inl e.h:Key),g e)) (Sum.inl x)=(zIf fs x).map g:=by
 unfold zBv zIf
 rw[List.find?_map,Option.map_map]
 have:((fun kv:Key×V=>decide (kv.1=Sum.inl x))∘fun e:En=>((Sum.inl e.h:Key),g e))=fun e:En=>decide (e.h=x):=by
  funext e
  show decide ((Sum.inl e.h:Key)=Sum.inl x)=_
  by_cases c:e.h=x
  . rw[zV c,zV (by rw[c])]
  . rw[ze c,ze (by intro z;injection z with z;exact c z)]
 rw[this]
 rfl
theorem zLR {fs:List En}(hF:Hub fs)(g:En->V):((fs.map fun e=>((Sum.inl e.h:Key),g e)).map (·.1)).Nodup:=by
 rw[zAZ,List.Nodup,zAW]
 exact hF.imp fun h z=>by injection z with z;omega
noncomputable def tab (ess:List (List En)):List (List (Option Int)):=ess.map fun a=>ess.map fun b=>tv a b
noncomputable def zKb:Sp:=fun vs H Q _=>∃(p q:Addr)(es fs:List En),vs=[.ref p,.ref q]/\zB6 H p es/\zB6 H q fs/\Hub fs/\∀H',zA1 H H'->Q (oV (tv es fs)) H'
noncomputable def zKh (K:PySem.W.Frag):Sp:=fun vs H Q _=>∃(l:Addr)(ess:List (List En)),vs=[.ref l]/\zBF H l ess/\ess.length<=24/\(∀es∈ess,Hub es)/\∀(a:Addr)(H':Hp),zA1 H H'->H a=none->TabO K H' a (tab ess)->Q (.ref a) H'
noncomputable def zHb:Sp:=fun vs H Q _=>∃(l:Addr)(ess:List (List En)),vs=[.ref l]/\zBF H l ess/\ess.length<=24/\(∀es∈ess,LF es)/\(∀es∈ess,es.length<=24) /\
 ∀(a:Addr)(ys:List V)(H':Hp),zA1 H H'->H a=none->H' a=some (.lst ys)->zAT H' ys (goL ess)->Q (.ref a) H'
theorem zJN:∀(xs ys:List Addr),xs.map V.ref=ys.map V.ref->xs=ys:=by
 intro xs
 induction xs with
 | nil=>intro ys e;cases ys with
  | nil=>rfl
  | cons y ys=>cases e
 | cons x xs ih=>
  intro ys e
  cases ys with
  | nil=>cases e
  | cons y ys=>
   simp only[zAS,List.cons.injEq,V.ref.injEq] at e
   rw[e.1,ih ys e.2]
theorem zHQ {fs:List En}(hf:Hub fs)(ne:∀e∈es,0<=e.l)(nf:∀e∈fs,0<=e.l){a b:En}(ha:a∈es)(hb:b∈fs)(h:a.h=b.h)(za:a.l=0)(zb:b.l=0):tv es fs=some 0:=by
 refine (zJB (o:=some 0) ⟨(zEQ hf).mpr ⟨a,ha,b,hb,h.symm,by omega⟩,fun x hx=>?_⟩).symm
 obtain⟨e,he,f,hf',_,rfl⟩:=(zEQ hf).mp hx
 have:=ne e he
 have:=nf f hf'
 omega
theorem zEf {p q:Nat}(hp:p<ess.length)(hq:q<ess.length):((tab ess).getD p []).getD q none=tv (ess.getD p []) (ess.getD q []):=by
 unfold tab
 have e1:ess.getD p []=ess[p]:=by rw[zD,zA hp];rfl
 have e2:ess.getD q []=ess[q]:=by rw[zD,zA hq];rfl
 rw[e1,e2,zD (l:=List.map _ ess),zO,zA hp]
 show (List.map _ ess).getD q none=_
 rw[zD,zO,zA hq]
 rfl
theorem zEe:∀r∈tab ess,r.length=ess.length:=fun r hr=>by
 obtain⟨a,_,rfl⟩:=zi.mp (show r∈ess.map fun a=>ess.map fun b=>tv a b from hr)
 rw[zB]
theorem tab_eq {fss:List (List En)}(hl:ess.length=fss.length):tab ess=tab fss↔∀p q,p<ess.length->q<ess.length->tv (ess.getD p []) (ess.getD q [])=tv (fss.getD p []) (fss.getD q []):=by
 constructor
 . intro h p q hp hq
   rw[<-zEf hp hq,<-zEf (by omega) (by omega),h]
 . intro h
   have l1:(tab ess).length=ess.length:=by unfold tab;rw[zB]
   have l2:(tab fss).length=fss.length:=by unfold tab;rw[zB]
   refine List.ext_getElem (by omega) fun p h1 h2=>?_
   have r1:(tab ess)[p].length=ess.length:=zEe _ (zAX h1)
   have r2:(tab fss)[p].length=fss.length:=zEe _ (zAX h2)
   refine List.ext_getElem (by omega) fun q h3 h4=>?_
   have:=h p q (by omega) (by omega)
   rw[<-zEf (by omega) (by omega),<-zEf (by omega) (by omega)] at this
   have g:∀(M:List (List (Option Int)))(a:p<M.length)(b:q<(M[p]).length),(M.getD p []).getD q none=M[p][q]:=fun M a b=>by
    rw[zD (l:=M),zA a]
    show (M[p]).getD q none=_
    rw[zD,zA b];rfl
   rw[g _ h1 h3,g _ h2 h4] at this
   exact this
theorem zDW {α:Type}{l:List α}{a d:α}(hi:i<l.length):(l.set i a).getD j d=if j=i then a else l.getD j d:=by
 rw[zD,zD]
 by_cases c:j=i
 . subst c
   rw[zA2 hi,if_pos rfl];rfl
 . rw[zBO (fun z=>c z.symm),if_neg c]
theorem zGx (hF:∀es∈ess,LF es)(hi:i<ess.length)(he:e∈ess.getD i [])(hl:e.l≠0) :
 decide (tab (ess.set i (zC8 (ess.getD i []) e.h))=tab ess)=ess.all fun o=>decide (tv (zC8 (ess.getD i []) e.h) o=tv (ess.getD i []) o):=by
 have gF:∀j,j<ess.length->LF (ess.getD j []):=fun j hj=>by
  rw[zD,zA hj]
  exact hF _ (zAX hj)
 have Fi:=gF i hi
 generalize hes:ess.getD i []=es at *
 obtain⟨o,ho,zo⟩:=Fi.own
 have no:o.h≠e.h:=fun z=>hl (by rw[<-zIV Fi.hub ho he z];exact zo)
 have hos:o∈zC8 es e.h:=zEv.mpr ⟨ho,no⟩
 have Hs:=zGK (h:=e.h) Fi.hub
 have ns:∀x∈zC8 es e.h,0<=x.l:=fun x hx=>(Fi.nn x (zEv.mp hx).1).1
 have ne:∀x∈es,0<=x.l:=fun x hx=>(Fi.nn x hx).1
 have t1:tv es es=some 0:=zHQ Fi.hub ne ne ho ho rfl zo zo
 have t2:tv (zC8 es e.h) es=some 0:=zHQ Fi.hub ns ne hos ho rfl zo zo
 have t3:tv (zC8 es e.h) (zC8 es e.h)=some 0:=zHQ Hs ns ns hos hos rfl zo zo
 have key:tab (ess.set i (zC8 es e.h))=tab ess↔∀x∈ess,tv (zC8 es e.h) x=tv es x:=by
  rw[tab_eq (by rw[zAg]),zAg]
  constructor
  . intro h x hx
    obtain⟨j,hj,ej⟩:=zd hx
    have ex:ess.getD j []=x:=by rw[zD,zA hj,ej];rfl
    by_cases c:j=i
    . subst c
      rw[hes] at ex
      rw[<-ex,t1,t2]
    . have:=h i j hi hj
      rw[zDW hi,zDW hi,if_pos rfl,if_neg c,hes,ex] at this
      exact this
  . intro h p q hp hq
    have mem:∀j,j<ess.length->ess.getD j []∈ess:=fun j hj=>by
     rw[zD,zA hj]
     exact zAX hj
    rw[zDW hi,zDW hi]
    by_cases cp:p=i
    . by_cases cq:q=i
      . subst cp cq
        rw[if_pos rfl,hes,t1,t3]
      . rw[if_pos cp,if_neg cq,cp,hes]
        exact h _ (mem q hq)
    . by_cases cq:q=i
      . rw[if_neg cp,if_pos cq,cq,hes,zHP (gF p hp).hub Hs,zHP (gF p hp).hub Fi.hub]
        exact h _ (mem p hp)
      . rw[if_neg cp,if_neg cq]
 by_cases c:tab (ess.set i (zC8 es e.h))=tab ess
 . rw[zV c]
   exact (zAy.mpr fun x hx=>zV (key.mp c x hx)).symm
 . rw[ze c]
   refine (Bool.eq_false_iff.mpr fun z=>c (key.mpr fun x hx=>of_decide_eq_true (zAy.mp z x hx))).symm
section
variable {P:Program}{w:World}{K:PySem.W.Frag}{mg:Str->Option Value}{base:Heap}
theorem zKm:zAR ["_law_one", "_law_other", "_law_longs", "_law_some_here"] ["_law_one", "_law_other"] (defScope sTdl):=⟨rfl,rfl,rfl,by decide +kernel,rfl,by decide +kernel,by decide +kernel⟩
theorem ok_tdl (F:Fun K "_law_told" "_law_told" sTdl f fd') (mDict:mg "dict" = none) (mMin:mg "min" = none):zAq P w K mg base CX0 1 f fd' ["_law_one", "_law_other"] zKb:=by
 refine F.ok zKm (fun vs H Q E h=>?_) (fun cdv A outer s H vs Q E hr h=>?_)
 . obtain⟨p,q,es,fs,rfl,_⟩:=h
   rfl
 . obtain⟨p,q,es,fs,rfl,L1,L2',hF,k⟩:=h
   obtain⟨as,hp,EA,hl⟩:=id L1
   obtain⟨bs,hq,EB,hl2⟩:=id L2'
   have hu:=zDv hr
   have hu0:=hr.units0
   refine⟨_,zW (zAN (i:=2) zKm.nd rfl (Or.inr rfl) (zAf (zCq rfl) (by rfl) mDict (by decide +kernel) (zF
    (zBA (own:=["_law_entry_here"]) (cn:=[]) (ci:=[]) rfl (csc rfl rfl) trivial rfl (zBu (pv 1)) (fun _ _ _ _=>zr (i:=0) (zBJ rfl) rfl (Or.inl rfl))
     (fun _ _ _ _=>zBK) (fun _ _ _ _=>zBC (zF (zAH zBf (pv 0) zAA (fun _ _=>rfl)) (zF (zAH zBf (pv 0) zAA (fun _ _=>rfl)) zT)))) zT)))
    (zW (zCZ (i:=3) (own:=["_law_entry_here"]) (cn:=["_law_longs"]) (ci:=[2]) zKm.nd rfl (Or.inl rfl) rfl (csc rfl rfl) ⟨rfl,rfl,rfl,trivial⟩ rfl (zBu (pv 0)) (fun _ _ _ _=>zr (i:=0) (zBJ rfl) rfl (Or.inl rfl))
     (fun _ _ _ _=>zB0 (zFR (zGa hu (zAH zBf (pv 0) zAA (fun _ _=>rfl)) (pv 1)))) (fun _ _ _ _=>zBc zCO (zAH zBf (pv 0) zAA (fun _ _=>rfl)) (zCa hu (pv 1) (zAH zBf (pv 0) zAA (fun _ _=>rfl)) (fun _ _=>rfl))))
    (zn (zAb (zC0 (zAQ (zKF hu0) (pv 3) (zB1 zT) (zAc _)) zBl (zAV (zIs rfl) (by rfl) mMin (by decide +kernel) (zF (pv 3) zT)))))),?_⟩
   refine⟨_,rfl,q,rfl,⟨_,SqT.of hq⟩,[],rfl,fun D hD=>?_⟩
   refine zBN (a:=q) (xs:=bs.map V.ref) (fun i ys H4=>i<=fs.length/\ys.length=i/\(∀(j:Nat)(y:V),ys[j]? = some y->∃c e,y = .ref c/\fs[j]? = some e/\H4 c=some (.tup [.int e.h,.int e.l]))/\zA1 H H4/\H4 D=some (.lst ys)) ⟨zc _,rfl,fun j y z=>by simp at z,zG hD,zJ⟩ (fun i ys H4 h=>?_) (fun i ys H4 h=>?_) (fun i v ys H4 hv h=>?_) (fun ys H4 h=>?_)
   . exact SqT.of (h.2.2.2.1 _ _ hq)
   . rw[h.2.1]
     exact zAd (by have:=h.1;omega)
   . obtain⟨_,hyl,hys,s4,hD4⟩:=h
     obtain⟨a,x,rfl,hx,ha⟩:=EB.at hv
     refine⟨⟨rfl,rfl⟩,?_⟩
     refine zD8 ?_
     refine⟨_,rfl,a,_,_,.int x.h,rfl,rfl,SqT.of (s4 _ _ ha),rfl,_,rfl,a,_,_,.int x.l,rfl,rfl,SqT.of (s4 _ _ ha),rfl,by show 2<=sizeLine;decide,fun c hc=>?_⟩
     have nDc:D≠c:=zh hD4 hc
     refine⟨zG hc _ _ hD4,(zE.mp hx).1,by rw[zI,hyl];rfl,fun j y hy=>?_,zAF (s4.trans (zG hc)) hD,zJ⟩
     by_cases cj:j<i
     . rw[zN (by omega)] at hy
       obtain⟨c',e,h1,h2,h3⟩:=hys j y hy
       refine⟨c',e,h1,h2,?_⟩
       rw[zZ (zA5 h3 hD4 (by intro z;cases z))]
       exact zG hc _ _ h3
     . have ej:j=i:=by
        have:=(zE.mp hy).1
        rw[zI,hyl] at this
        simp at this;omega
       subst ej
       rw[zM (by omega),hyl,zAp] at hy
       have ey:V.ref c=y:=by simpa using hy
       subst ey
       exact⟨c,x,rfl,hx,by rw[zZ (Ne.symm nDc)];exact zJ⟩
   obtain⟨_,hyl,hys,s4,hD4⟩:=h
   rw[zB,EB.1] at hyl
   refine⟨D,ys,fs.map fun e=>(Sum.inl e.h,V.int e.l),rfl,SqL.of hD4,⟨by rw[zB,hyl],fun j y hy=>?_⟩,fun dd hdd=>?_⟩
   . obtain⟨c,e,h1,h2,h3⟩:=hys j y hy
     exact⟨c,Sum.inl e.h,.int e.l,h1,h3,by rw[zO,h2];rfl⟩
   rw[zDg (zLR hF fun e=>V.int e.l)]
   have hval:∀x:Int,zBv (fs.map fun e=>((Sum.inl e.h:Key),V.int e.l)) (Sum.inl x)=(zIf fs x).map fun e=>V.int e.l:=fun x=>zKR _ x
   have s5:zA1 H (upd H4 dd (.dK (fs.map fun e=>(Sum.inl e.h,V.int e.l)))):=s4.trans (zG hdd)
   have hd5:(upd H4 dd (.dK (fs.map fun e=>((Sum.inl e.h:Key),V.int e.l)))) dd=some (.dK (fs.map fun e=>(Sum.inl e.h,V.int e.l))):=zJ
   generalize upd H4 dd (.dK (fs.map fun e=>((Sum.inl e.h:Key),V.int e.l)))=H5 at s5 hd5 ⊢
   generalize (fs.map fun e=>((Sum.inl e.h:Key),V.int e.l))=kvs at hval hd5
   refine⟨_,rfl,p,rfl,⟨_,SqT.of (s5 _ _ hp)⟩,[.ref dd],rfl,fun D2 hD2=>?_⟩
   refine zBN (a:=p) (xs:=as.map V.ref) (fun i ys H6=>ys=((((es.take i).filterMap (cOf fs)).map (·.1))).map V.int/\zA1 H5 H6/\H6 D2=some (.lst ys)) ⟨rfl,zG hD2,zJ⟩ (fun i ys H6 h=>?_) (fun i ys H6 h=>?_) (fun i v ys H6 hv h=>?_) (fun ys H6 h=>?_)
   . exact SqT.of (h.2.1 _ _ (s5 _ _ hp))
   . obtain⟨rfl,_⟩:=h
     rw[zB,zB]
     exact zAD (List.length_filterMap_le _ _) (zAd (by rw[zw];omega))
   . obtain⟨rfl,s6,hD6⟩:=h
     obtain⟨a,x,rfl,hx,ha⟩:=EA.at hv
     have ha6:=s6 _ _ (s5 _ _ ha)
     refine⟨⟨rfl,rfl⟩,?_⟩
     refine⟨_,rfl,a,_,_,.int x.h,rfl,rfl,SqT.of ha6,rfl,_,rfl,dd,_,rfl,zCz.k (k:=Sum.inl x.h) (s6 _ _ hd5),_,rfl,?_⟩
     have st:=zId (cOf fs) hx
     have hv2:=hval x.h
     cases e:zIf fs x.h with
     | none=>
      rw[e] at hv2
      rw[hv2]
      refine zDU ?_
      have ec:cOf fs x=none:=by unfold cOf;rw[e];rfl
      refine⟨?_,s6,hD6⟩
      rw[st,ec]
      simp
     | some g=>
      rw[e] at hv2
      have hv3:zBv kvs (Sum.inl x.h)=some (.int g.l):=hv2
      rw[hv3]
      refine zFa ?_
      have ec:cOf fs x=some (x.l+g.l,x.h):=by unfold cOf;rw[e];rfl
      refine⟨_,rfl,a,_,_,.int x.l,rfl,rfl,SqT.of ha6,rfl,_,rfl,_,rfl,a,_,_,.int x.h,rfl,rfl,SqT.of ha6,rfl,dd,.int g.l,rfl,hv3 ▸ zCz.k (k:=Sum.inl x.h) (s6 _ _ hd5),_,_,rfl,rfl,hD6,?_,zAF s6 hD2,zJ⟩
      rw[st,ec,zQ,zQ];rfl
   obtain⟨rfl,s6,hD6⟩:=h
   rw[zB,EA.1,zf (zL _)] at hD6
   have hD6':H6 D2=some (.lst ((sE es fs).map V.int)):=hD6
   refine⟨_,rfl,by show 0<=sizeLine;decide,fun e0 he0=>?_⟩
   have s7:=zG (o:=.lst []) he0
   refine⟨D2,e0,_,rfl,rfl,SqL.of (s7 _ _ hD6'),SqL.of zJ,_,rfl,?_⟩
   have s07:=(s5.trans s6).trans s7
   cases hS:sE es fs with
   | nil=>
    refine zFa ?_
    have:tv es fs=none:=(zJB (o:=none) hS).symm
    have z:=k _ s07
    rw[this] at z
    exact z
   | cons x r=>
    rw[hS] at hD6'
    refine zDU ?_
    refine⟨_,rfl,D2,x::r,rfl,SqL.of (s7 _ _ hD6'),by simp,fun m hm hb=>?_⟩
    have:tv es fs=some m:=(zJB (o:=some m) (by rw[hS];exact⟨hm,hb⟩)).symm
    have z:=k _ s07
    rw[this] at z
    exact z
theorem scAll:zAR ["_law_labels_here"] ["_law_labels_here"] (defScope sAll):=⟨rfl,rfl,rfl,by decide +kernel,rfl,by decide +kernel,by decide +kernel⟩
theorem ok_all {fT:Addr}(F:Fun K "_law_all_told" "_law_all_told" sAll f fd') (FT:Fun K "_law_told" "_law_told" sTdl fT fdT) (bT:zAP K fdT ["_law_one", "_law_other"] []) (mT:mg "_law_told" = some (.ref fT)) (GT:zAq P w K mg base CX0 1 fT fdT ["_law_one", "_law_other"] zKb) :
 zAq P w K mg base CX0 2 f fd' ["_law_labels_here"] (zKh K):=by
 refine F.ok scAll (fun vs H Q E h=>?_) (fun cdv A outer s H vs Q E hr h=>?_)
 . obtain⟨l,ess,rfl,_⟩:=h
   rfl
 . obtain⟨l,ess,rfl,LL,hn,hH,k⟩:=h
   obtain⟨as,hl,hal,hA⟩:=id LL
   refine⟨_,zn (zAb (zGZ (yc := "_law_one") (own:=["_law_one"]) (cn:=["_law_labels_here"]) (ci:=[0]) rfl (csc1 rfl (fun _ _=>rfl) rfl rfl) ⟨rfl,rfl,rfl,trivial⟩ rfl
    (zBu (pv 0)) (fun _ _ _ _=>zr (i:=0) (zBJ rfl) rfl (Or.inr rfl)) (fun _ _ _ _=>zBK)
    (fun _ _ _ _=>zBA (own:=["_law_other"]) (cn:=["_law_one"]) (ci:=[0]) rfl (csc rfl rfl) ⟨rfl,rfl,rfl,trivial⟩ rfl
     (zJW (pv 1)) (fun _ _ _ _=>zr (i:=0) (zBJ rfl) rfl (Or.inl rfl)) (fun _ _ _ _=>zBK)
     (fun _ _ _ _=>zx GT hr rfl mT FT.kp bT .nil zAl (zF (pv 1) (zF (pv 0) zT)))))),?_⟩
   refine⟨_,rfl,l,rfl,⟨_,SqT.of hl⟩,[.ref l],rfl,fun D hD=>?_⟩
   refine zBN (a:=l) (xs:=as.map V.ref) (fun i ys H1=>i<=ess.length/\∃rs:List Addr,ys=rs.map V.ref/\rs.length=i/\(∀(j:Nat)(r:Addr),rs[j]? = some r->∃es,ess[j]? = some es/\H1 r=some (.lst ((ess.map fun b=>tv es b).map oV)))/\zA1 H H1/\H1 D=some (.lst ys))
    ⟨zc _,[],rfl,rfl,fun j r z=>by simp at z,zG hD,zJ⟩ (fun i ys H1 h=>?_) (fun i ys H1 h=>?_) (fun i v ys H1 hv h=>?_) (fun ys H1 h=>?_)
   . obtain⟨_,_,_,_,_,s1,_⟩:=h
     exact SqT.of (s1 _ _ hl)
   . obtain⟨hi,rs,rfl,hrl,_⟩:=h
     rw[zB,hrl]
     exact zAd (by omega)
   . obtain⟨_,rs,rfl,hrl,hR,s1,hD1⟩:=h
     rw[zO] at hv
     cases ha:as[i]? with
     | none=>rw[ha] at hv;cases hv
     | some a=>
     rw[ha] at hv
     cases hv
     obtain⟨es,hes,LE⟩:=hA i a ha
     have hia:=(zE.mp ha).1
     refine⟨⟨rfl,rfl⟩,?_⟩
     refine zD8 ?_
     refine⟨_,rfl,l,rfl,⟨_,SqT.of (s1 _ _ hl)⟩,[.ref a],rfl,fun D2 hD2=>?_⟩
     have nDD:D≠D2:=zh hD1 hD2
     refine zBN (a:=l) (xs:=as.map V.ref) (fun j zs H2=>j<=ess.length/\zs=((ess.take j).map fun b=>tv es b).map oV/\zA1 H1 H2/\H2 D2=some (.lst zs)) ⟨zc _,rfl,zG hD2,zJ⟩ (fun j zs H2 h=>?_) (fun j zs H2 h=>?_) (fun j v zs H2 hv h=>?_) (fun zs H2 h=>?_)
     . exact SqT.of (h.2.2.1 _ _ (s1 _ _ hl))
     . obtain⟨hj,rfl,_⟩:=h
       rw[zB,zB,zw]
       exact zAd (by omega)
     . obtain⟨_,rfl,s2,h2⟩:=h
       rw[zO] at hv
       cases hb:as[j]? with
       | none=>rw[hb] at hv;cases hv
       | some b=>
       rw[hb] at hv
       cases hv
       obtain⟨fs,hfs,LF'⟩:=hA j b hb
       have hjb:=(zE.mp hb).1
       refine⟨⟨rfl,rfl⟩,?_⟩
       refine zD8 ?_
       refine⟨_,rfl,_,rfl,a,b,es,fs,rfl,(LE.same s1).same s2,(LF'.same s1).same s2,hH fs (zS hfs),fun H3 s3=>?_⟩
       refine⟨s3 _ _ h2,by omega,?_,zAF (s2.trans s3) hD2,zJ⟩
       rw[zAI,hfs,zQ,zQ];rfl
     . obtain⟨_,rfl,s2,h2⟩:=h
       rw[zB,hal,zf (zL _)] at h2
       have hDD:=s2 _ _ hD1
       have kp:∀(r:Addr)(u:List V),r≠D->H2 r=some (.lst u)->(upd H2 D (.lst (rs.map V.ref++[.ref D2]))) r=some (.lst u):=fun r u n z=>by rw[zZ n];exact z
       refine⟨hDD,by omega,rs++[D2],by rw[zQ];rfl,by rw[zI,hrl];rfl,fun j r hr'=>?_,zAF (s1.trans s2) hD,zJ⟩
       by_cases cj:j<rs.length
       . rw[zN cj] at hr'
         obtain⟨es',e1,e2⟩:=hR j r hr'
         refine⟨es',e1,kp r _ (fun z=>?_) (s2 _ _ e2)⟩
         subst z
         rw[hD1] at e2
         have e3:=(HO.lst.inj (zR e2))
         have hx:ess.length=(rs.map V.ref).length:=by rw[e3,zB,zB]
         rw[zB] at hx
         cases hrs:rs with
         | nil=>rw[hrs] at cj;simp at cj
         | cons r0 rs'=>
          rw[hrs] at e3
          cases hss:ess with
          | nil=>rw[hss] at hes;simp at hes
          | cons s0 ss=>
           rw[hss] at e3
           simp only[zAS,List.cons.injEq] at e3
           have e4:=e3.1
           cases hz:tv es' s0 <;> rw[hz] at e4 <;> cases e4
       . rw[zM (by omega)] at hr'
         cases hz:j-rs.length with
         | zero=>
          rw[hz] at hr'
          have e1:D2=r:=by simpa using hr'
          subst e1
          have ej:j=i:=by omega
          subst ej
          exact⟨es,hes,kp D2 _ nDD.symm h2⟩
         | succ z=>rw[hz] at hr';simp at hr'
   . obtain⟨_,rs,rfl,hrl,hR,s1,hD1⟩:=h
     rw[zB,hal] at hrl
     refine k D H1 s1 hD ⟨rs,SqL.of hD1,by unfold tab;rw[zB,hrl],fun j r row hr' hrow=>?_⟩
     obtain⟨es,e1,e2⟩:=hR j r hr'
     unfold tab at hrow
     rw[zO,e1] at hrow
     rw[<-zR hrow]
     exact e2
end
variable {xs:List V}
theorem zJE {a:Addr}(h:SqL K H a xs)(s:zA1 H H'):SqL K H' a xs:=by
 rcases h with (h | ⟨o,h⟩) | h
 . exact .inl (.inl (s _ _ h))
 . exact .inl (.inr ⟨o,s _ _ h⟩)
 . exact .inr h
theorem zHU {a:Addr}(h:TabO K H a M)(s:zA1 H H'):TabO K H' a M:=by
 obtain⟨rs,a1,a2,a3⟩:=h
 exact⟨rs,zJE a1 s,a2,fun i r row h1 h2=>s _ _ (a3 i r row h1 h2)⟩
theorem zEy {ess:List (List En)}(h:∀es∈ess,es.length<=24):∀n,(goN ess n).length<=24*n
 | 0=>zL _
 | n+1=>by
  show (goN ess n++zFb ess n).length<=_
  rw[zI]
  have h1:=zEy h n
  unfold zFb
  rw[zB]
  have h2:=zq (spB ess n) (ess.getD n [])
  have h3:(ess.getD n []).length<=24:=by
   rw[zD]
   cases e:ess[n]? with
   | none=>exact zc _
   | some x=>exact h x (zS e)
  omega
theorem zJl {rp:Addr}{fs:List En}(LL:zBF H l ess)(hl:H l=some (.tup (as.map V.ref)))(hi:i<ess.length)(hal:as.length=ess.length)(hp:H p=some (.tup ((as.set i rp).map V.ref)))(LR:zB6 H rp fs):zBF H p (ess.set i fs):=by
 obtain⟨as',h1,h2,h3⟩:=LL
 obtain rfl:as'=as:=by
  rw[hl] at h1
  injection h1 with z
  injection z with z
  exact (zJN _ _ z).symm
 refine⟨_,hp,by rw[zAg,zAg];exact h2,fun j a ha=>?_⟩
 by_cases c:j=i
 . subst c
   rw[zA2 (by omega)] at ha
   cases ha
   exact⟨fs,by rw[zA2 hi],LR⟩
 . rw[zBO (fun z=>c z.symm)] at ha
   obtain⟨es,e1,e2⟩:=h3 j a ha
   exact⟨es,by rw[zBO (fun z=>c z.symm)];exact e1,e2⟩
theorem cut_lo (h:i<=xs.length):zE5 xs none (some (i:Int))=xs.take i:=by
 unfold zE5
 rw[HT.sIx_none,HT.sIx_nat,List.drop_zero,Nat.sub_zero,Nat.min_eq_left h]
theorem cut_hi (h:i<xs.length):zE5 xs (some ((i:Int)+1)) none=xs.drop (i+1):=by
 unfold zE5
 rw[HT.sIx_none,show ((i:Int)+1)=((i+1:Nat):Int) by omega,HT.sIx_nat,Nat.min_eq_left (by omega),zf (by rw[List.length_drop];omega)]
section
variable {P:Program}{w:World}{K:PySem.W.Frag}{mg:Str->Option Value}{base:Heap}
theorem zCU:zAR ["_law_labels_here", "_law_due", "_law_found", "_law_place", "_law_hub", "_law_long", "_law_up", "_law_down", "_law_label", "_law_less"] ["_law_labels_here"] (defScope zGP):=⟨rfl,rfl,rfl,by decide +kernel,rfl,by decide +kernel,by decide +kernel⟩
theorem zJc (F:Fun K "_law_spare" "_law_spare" zGP f fd') (FA:Fun K "_law_all_told" "_law_all_told" sAll fA fdA) (bA:zAP K fdA ["_law_labels_here"] []) (mA:mg "_law_all_told" = some (.ref fA)) (GA:zAq P w K mg base CX0 2 fA fdA ["_law_labels_here"] (zKh K))
 (mLen:mg "len" = none) (mRange:mg "range" = none) (mTuple:mg "tuple" = none):zAq P w K mg base CX0 3 f fd' ["_law_labels_here"] zHb:=by
 refine F.ok zCU (fun vs H Q E h=>?_) (fun cdv A outer s H vs Q E hr h=>?_)
 . obtain⟨l,ess,rfl,_⟩:=h
   rfl
 . obtain⟨l,ess,rfl,LL,hn,hLF,hes,k⟩:=h
   obtain⟨as,hl,hal,hA⟩:=id LL
   have hu:=zDv hr
   refine⟨_,zW (zAN (i:=1) zCU.nd rfl (Or.inl rfl) (zx GA hr rfl mA FA.kp bA .nil zAl (zF (pv 0) zT)))
    (zW (zAN (i:=2) zCU.nd rfl (Or.inl rfl) (zB1 zT))
    (zW (zBk PassesOwn.never rfl (zAm rfl mRange (zF (zAV zBE (by rfl) mLen PySem.boot_len (zF (pv 0) zT)) zT)) (zr (i:=3) zCU.nd rfl (Or.inl rfl))
     (zn (zBk PassesOwn.never rfl (zBu (zAH zAr (pv 0) (pv 3) (fun _ _=>rfl)))
      (zCf rfl (zAK (zr (i:=4) zCU.nd rfl (Or.inr rfl)) (zAK (zr (i:=5) zCU.nd rfl (Or.inl rfl)) (zAK (zr (i:=6) zCU.nd rfl (Or.inl rfl)) (zAK (zr (i:=7) zCU.nd rfl (Or.inl rfl)) zCB)))))
      (zW (zAN (i:=8) zCU.nd rfl (Or.inl rfl) (zAf zAJ (by rfl) mTuple (by decide +kernel) (zF
       (zBA (own:=["_law_entry_here"]) (cn:=["_law_hub"]) (ci:=[4]) rfl (csc rfl rfl) ⟨rfl,rfl,rfl,trivial⟩ rfl (zBu (zAH zAr (pv 0) (pv 3) (fun _ _=>rfl))) (fun _ _ _ _=>zr (i:=0) (zBJ rfl) rfl (Or.inl rfl))
        (fun _ _ _ _=>zB0 (zAQ zH8 (zAH zBf (pv 0) zAA (fun _ _=>rfl)) (pv 1) (zAc _))) (fun _ _ _ _=>pv 0)) zT)))
      (zW (zAN (i:=9) zCU.nd rfl (Or.inl rfl) (zBc zF2 (zBc zF2 (zDT zHh (pv 0) zEn (zEm (pv 3))) (zBC (zF (pv 8) zT))) (zDT zHh (pv 0) (zEm (zBc zCO (pv 3) zAA)) zEn)))
      (zn (zCK (PW.pt (zEK (zAQ zH8 (pv 5) zAA (zAc _)) (zDf (zAQ (zK5 hu) (zx GA hr rfl mA FA.kp bA .nil zAl (zF (pv 9) zT)) (pv 1) (zAc _)))))
       (zn (zCL (zDA PySem.F.plainAttrs_list PySem.F.slot_list_append PySem.F.type_list_append zBP (pv 2) (zF (zBC (zF (pv 3) (zF (pv 4) zT))) zT)))) zA7)))))))
    (zn (zAb (pv 2))))),?_⟩
   refine⟨_,rfl,l,ess,rfl,LL,hn,fun es he=>(hLF es he).hub,fun ta H1 s1 hta0 TD=>?_⟩
   refine⟨by show 0<=sizeLine;decide,fun D hD=>?_⟩
   have s2:=s1.trans (zG (o:=.lst []) hD)
   have hD0:H D=none:=zDl s1 hD
   refine⟨_,rfl,l,_,rfl,.inr (SqT.of (s2 _ _ hl)),((as.map V.ref).length:Int),rfl,by omega,by rw[zB];omega,?_⟩
   rw[show (((as.map V.ref).length:Nat):Int).toNat=ess.length by rw[zB];omega]
   refine zBQ (lo:=0) (n:=ess.length) (fun i σ H2=>∃(v3 v4 v5 v6 v7 v8 v9:Option V)(ys:List V),σ=[some (.ref l),some (.ref ta),some (.ref D),v3,v4,v5,v6,v7,v8,v9]/\zA1 H1 H2/\H2 D=some (.lst ys)/\zAT H2 ys (goN ess i))
    ⟨_,_,_,_,_,_,_,[],rfl,zG hD,zJ,trivial⟩ ?turn ?after
   case after=>
    rintro σ H2 ⟨v3,v4,v5,v6,v7,v8,v9,ys,rfl,s3,hD3,T3⟩
    exact⟨_,rfl,k D ys H2 (s1.trans s3) hD0 hD3 T3⟩
   case turn=>
    rintro i σ H2 hi ⟨v3,v4,v5,v6,v7,v8,v9,ys,rfl,s3,hD3,T3⟩
    rw[zAi]
    have s03:=s1.trans s3
    obtain⟨b,hb⟩:∃b,as[i]? = some b:=⟨_,zA (by omega)⟩
    obtain⟨es,hes1,LB⟩:=hA i b hb
    obtain⟨bs,hbt,EA,hbl⟩:=id LB
    have eget:ess.getD i []=es:=by rw[zD,hes1];rfl
    have hatb:atI (as.map V.ref) (i:Int)=some (.ref b):=zCw (by rw[zO,hb];rfl)
    have hLe:=hLF es (zS hes1)
    have hel:=hes es (zS hes1)
    refine⟨_,rfl,_,rfl,l,_,_,.ref b,rfl,rfl,SqT.of (s03 _ _ hl),hatb,b,rfl,⟨_,SqT.of (s03 _ _ hbt)⟩,zDD (K:=K) (a:=b) (xs:=bs.map V.ref)
     (fun j σ H3=>∃(v4 v5 v6 v7 v8 v9:Option V)(ys:List V),σ=[some (.ref l),some (.ref ta),some (.ref D),some (.int i),v4,v5,v6,v7,v8,v9]/\zA1 H1 H3/\H3 D=some (.lst ys)/\zAT H3 ys (goN ess i++((es.take j).filter (spB ess i)).map fun e=>[(i:Int),e.h]))
     ⟨_,_,_,_,_,_,ys,rfl,s3,hD3,by rw[List.take_zero];simpa using T3⟩ (fun j σ H3 _ ⟨_,_,_,_,_,_,_,_,s,_⟩=>SqT.of (s1.trans s _ _ hbt)) ?turn2 ?after2⟩
    case after2=>
     rintro σ H3 ⟨v4,v5,v6,v7,v8,v9,ys,rfl,s4,hD4,T4⟩
     rw[zB,EA.1,zf (zL _)] at T4
     refine⟨_,_,_,_,_,_,_,ys,rfl,s4,hD4,?_⟩
     show zAT _ _ (goN ess i++zFb ess i)
     unfold zFb
     rw[eget]
     exact T4
    case turn2=>
     rintro j y σ H3 hj ⟨v4,v5,v6,v7,v8,v9,ys,rfl,s4,hD4,T4⟩
     have s04:=s1.trans s4
     obtain⟨c,e,rfl,he,hc⟩:=EA.at hj
     have hem:=zS he
     refine⟨c,_,rfl,SqT.of (s04 _ _ hc),rfl,_,_,rfl,_,_,rfl,_,_,rfl,_,_,rfl,rfl,?_⟩
     refine⟨_,rfl,_,rfl,l,_,_,.ref b,rfl,rfl,SqT.of (s04 _ _ hl),hatb,b,rfl,⟨_,SqT.of (s04 _ _ hbt)⟩,[.int e.h],rfl,fun D2 hD2=>?_⟩
     refine zBN (a:=b) (xs:=bs.map V.ref) (fun m zs H4=>∃cs:List Addr,zs=cs.map V.ref/\zCI H4 cs ((es.take m).filter fun o=>!decide (o.h=e.h))/\zA1 H3 H4/\H4 D2=some (.lst zs)) ⟨[],rfl,⟨rfl,fun m c z=>by simp at z⟩,zG hD2,zJ⟩ (fun m zs H4 h=>?_) (fun m zs H4 h=>?_) (fun m v zs H4 hv h=>?_) (fun zs H4 h=>?_)
     . obtain⟨_,_,_,s5,_⟩:=h
       exact SqT.of (s5 _ _ (s04 _ _ hbt))
     . obtain⟨cs,rfl,E4,_⟩:=h
       rw[zB,E4.1]
       exact zAD (zq _ _) (zAd (by rw[zw];omega))
     . obtain⟨cs,rfl,E4,s5,h2⟩:=h
       obtain⟨c',o,rfl,ho,hc'⟩:=EA.at hv
       have hc4:=s5 _ _ (s04 _ _ hc')
       refine⟨⟨rfl,rfl⟩,?_⟩
       refine⟨_,rfl,c',_,_,.int o.h,rfl,rfl,SqT.of hc4,rfl,_,rfl,rfl,_,rfl,?_⟩
       rw[zLb]
       have st:=zCi (fun o:En=>!decide (o.h=e.h)) ho
       refine zDO (fun cc=>?_) (fun cc=>?_)
       . refine⟨_,rfl,h2,cs++[c'],by rw[zQ];rfl,?_,zAF s5 hD2,zJ⟩
         rw[st,if_pos cc]
         refine (E4.keep fun b' us z=>?_).snoc ?_
         . rw[zZ (zA5 z h2 (by intro q;cases q))];exact z
         . rw[zZ (zA5 hc4 h2 (by intro q;cases q))];exact hc4
       . refine⟨cs,rfl,?_,s5,h2⟩
         rw[st,if_neg cc,zAB]
         exact E4
     obtain⟨cs,rfl,E4,s5,h2⟩:=h
     rw[zB,EA.1,zf (zL _)] at E4
     refine⟨D2,_,rfl,.inl ⟨SqL.of h2,fun rp hrp=>?_⟩⟩
     have s6:=s5.trans (zG (o:=.tup (cs.map V.ref)) hrp)
     have LR:zB6 (upd H4 rp (.tup (cs.map V.ref))) rp (zC8 es e.h):=⟨cs,zJ,E4.keep fun b' zs z=>zG hrp _ _ z,zy (zq _ _) hbl⟩
     generalize upd H4 rp (.tup (cs.map V.ref))=H6 at s6 LR ⊢
     have s06:=s04.trans s6
     refine⟨_,rfl,_,rfl,_,rfl,l,_,rfl,s06 _ _ hl,fun p1 H7 s7 hp1=>?_⟩
     rw[cut_lo (by rw[zB];omega)] at hp1
     refine⟨_,rfl,by show 1<=sizeLine;decide,fun q1 hq1=>?_⟩
     have s8:=zG (o:=.tup [V.ref rp]) hq1
     refine⟨p1,q1,_,_,rfl,rfl,s8 _ _ hp1,zJ,zBq (zAd (by simp;omega)),fun p2 H9 s9 hp2=>?_⟩
     have s79:=(s7.trans s8).trans s9
     refine⟨_,rfl,_,rfl,_,_,rfl,rfl,_,rfl,l,_,rfl,s79 _ _ (s06 _ _ hl),fun p3 Ha sa hp3=>?_⟩
     rw[cut_hi (by rw[zB];omega)] at hp3
     refine⟨p2,p3,_,_,rfl,rfl,sa _ _ hp2,hp3,zBq (zAd (by simp;omega)),fun p4 Hb sb hp4=>?_⟩
     have s6b:=(s79.trans sa).trans sb
     have hp4':Hb p4=some (.tup ((as.set i rp).map V.ref)):=by
      rw[hp4,List.set_eq_take_append_cons_drop,if_pos (by omega),zQ,zAS,<-List.map_take,<-List.map_drop]
      simp
     have LLb:zBF Hb p4 (ess.set i (zC8 es e.h)):=zJl (LL.keep fun b' us z=>s6b _ _ (s06 _ _ z)) (s6b _ _ (s06 _ _ hl)) hi hal hp4' (LR.same s6b)
     have s3b:zA1 H3 Hb:=s6.trans s6b
     have hDb:=s3b _ _ hD4
     have T4b:=T4.keep fun b' us z=>s3b _ _ z
     have hspB:spB ess i e=(decide (e.l≠0) && ess.all fun o=>decide (tv (zC8 es e.h) o=tv es o)):=by unfold spB;rw[eget]
     have st:=zCi (spB ess i) he
     refine⟨_,rfl,rfl,_,rfl,?_⟩
     rw[zLb]
     have skip:∀(Hx:Hp),zA1 H3 Hx->spB ess i e=false->zAT Hx ys (goN ess i++((es.take (j+1)).filter (spB ess i)).map fun e=>[(i:Int),e.h]):=fun Hx sx z=>by
      rw[st,z,if_neg (by decide),zAB]
      exact T4.keep fun b' us z=>sx _ _ z
     by_cases cl:e.l=0
     . rw[zV cl]
       refine zDU ?_
       refine zDU ?_
       exact⟨_,_,_,_,_,_,ys,rfl,s4.trans s3b,hDb,skip Hb s3b (by rw[hspB,ze (by simpa using cl)];rfl)⟩
     . rw[ze cl]
       refine zFa ?_
       have hfin:ess.length<=24:=hn
       refine⟨_,rfl,p4,_,rfl,LLb,by rw[zAg];exact hn,fun x hx=>?_,fun tb Hc sc htb0 TC=>?_⟩
       . rcases List.mem_or_eq_of_mem_set hx with z | z
         . exact (hLF x z).hub
         . rw[z];exact zGK hLe.hub
       have s3c:=s3b.trans sc
       refine⟨_,rfl,tb,ta,_,_,ess.length,rfl,rfl,TC,zHU TD (s4.trans s3c),by unfold tab;rw[zB,zB,zAg],fun r hr'=>by rw[zEe r hr',zAg],fun r hr'=>zEe r hr',_,rfl,?_⟩
       have iff:=zGx hLF hi (e:=e) (by rw[eget];exact hem) cl
       rw[eget] at iff
       rw[iff]
       have hb2:spB ess i e=ess.all fun o=>decide (tv (zC8 es e.h) o=tv es o):=by rw[hspB,zV cl];rfl
       rw[<-hb2]
       have hDc:=s3c _ _ hD4
       cases hz:spB ess i e with
       | false=>
        refine zDU ?_
        exact⟨_,_,_,_,_,_,ys,rfl,s4.trans s3c,hDc,skip Hc s3c hz⟩
       | true=>
        refine zFa ?_
        refine⟨_,rfl,.inl ⟨rfl,_,SqL.of hDc⟩,_,rfl,_,rfl,by show 2<=sizeLine;decide,fun q hq=>?_⟩
        have hDq:=zG (o:=.tup [.int (i:Int),.int e.h]) hq _ _ hDc
        have g1:=zEy hes i
        have g2:=T4.length
        rw[zI,zB] at g2
        have g3:=zq (spB ess i) (es.take j)
        rw[zw] at g3
        refine⟨D,ys,_,rfl,rfl,hDq,zAd (by omega),?_⟩
        refine⟨_,_,_,_,_,_,ys++[.ref q],rfl,zAF ((s4.trans s3c).trans (zG hq)) hD,zJ,?_⟩
        rw[st,hz,if_pos rfl,zQ,<-List.append_assoc]
        refine ((T4.keep fun b' us z=>s3c _ _ z).keep fun b' us z=>?_).snoc ⟨q,rfl,?_,by simp⟩
        . rw[zZ (zA5 z hDc (by intro w;cases w))]
          exact zG hq _ _ z
        . rw[zZ (Ne.symm (zh hDc hq))]
          exact zJ
end
noncomputable def UD (e:En):Prop:=(∀x,e.u=some x->0<=x/\x<24)/\∀x,e.d=some x->0<=x/\x<24
theorem zKH (G:GW n ts){p:Int}(h:Nxt ts x y p):0<=p/\p<n:=by
 obtain⟨_,_,ha,_⟩:=h
 have:=G.adj ha
 exact⟨this.2.2.1,this.2.2.2.1⟩
theorem zJ5 (G:GW n ts)(a:zHN (Nxt ts v h) e.u)(b:zHN (Nxt ts h v) e.d):UD e:=by
 have hn:=G.n24
 refine⟨fun x hx=>?_,fun x hx=>?_⟩
 . rw[hx] at a
   have:=zKH G a.1
   omega
 . rw[hx] at b
   have:=zKH G b.1
   omega
structure LM (ts:List T3)(n:Int)(v B:Int)(es:List En):Prop where
 hub:Hub es
 rng:∀e∈es,0<=e.h/\e.h<n
 nn:∀e∈es,0<=e.l/\e.l<=B
 own:∃e∈es,e.h=v
 zero:∀e∈es,e.l=0↔e.h=v
 rch:∀e∈es,∃d,WM.IsD ts v e.h d
 ud:∀e∈es,UD e
noncomputable def LMs (ts:List T3)(n B:Int)(ess:List (List En)):Prop:=∀(i:Nat)(es:List En),ess[i]? = some es->LM ts n i B es
variable {B C:Int}
theorem LM.mono (h:LM ts n v B es)(c:B<=C):LM ts n v C es:=⟨h.hub,h.rng,fun e he=>by have:=h.nn e he;omega,h.own,h.zero,h.rch,h.ud⟩
theorem LMs.mono (h:LMs ts n B ess)(c:B<=C):LMs ts n C ess:=fun i es e=>(h i es e).mono c
theorem LM.lf (h:LM ts n v B es)(c:B<=100000):LF es:=by
 obtain⟨o,ho,eo⟩:=h.own
 exact⟨h.hub,fun e he=>by have:=h.nn e he;omega,o,ho,(h.zero o ho).mpr eo⟩
theorem zGS:∀(es:List En)(a n:Int),Hub es->(∀e∈es,a<=e.h/\e.h<n)->es.length<=(n-a).toNat
 | [],_,_,_,_=>zc _
 | x::r,a,n,h,b=>by
  have hp:=List.pairwise_cons.mp h
  have hx:=b x zl
  have:=zGS r (x.h+1) n hp.2 fun e he=>by
   have h1:=hp.1 e he
   have h2:=b e (zv _ he)
   omega
  rw[zAG]
  omega
theorem LM.len (h:LM ts n v B es)(hn:n<=24):es.length<=24:=by
 have:=zGS es 0 n h.hub h.rng
 omega
theorem LMs.lf {ts:List T3}{n B:Int}{ess:List (List En)}(h:LMs ts n B ess)(c:B<=100000):∀es∈ess,LF es:=fun es he=>by
 obtain⟨i,hi,e⟩:=zd he
 exact (h i es (by rw[zA hi,e])).lf c
theorem LMs.len {ts:List T3}{n B:Int}{ess:List (List En)}(h:LMs ts n B ess)(hn:n<=24):∀es∈ess,es.length<=24:=fun es he=>by
 obtain⟨i,hi,e⟩:=zd he
 exact (h i es (by rw[zA hi,e])).len hn
theorem zGh (G:GW n ts)(h:WM.IsD ts x y 0):x=y:=by
 apply zAo
 intro c
 obtain⟨p,a,b,ha,hb,hab⟩:=Nxt.exists G h c
 have e:=WM.IsD.uniq hab h
 have h0:=hb.1.nn G
 have h1:1<=a:=by
  rcases ha with z | z
  . exact (G.rng _ z).2.2.2.1
  . exact (G.rng _ z).2.2.2.1
 omega
theorem zIS (G:GW n ts){l:Int}(d:WM.IsD ts v h l):l=0↔h=v:=by
 constructor
 . rintro rfl;exact (zGh G d).symm
 . rintro rfl;exact WM.IsD.uniq d (zCS G h)
theorem zFu.lm (G:GW n ts)(L:zFu ts n rk ess)(b:∀es∈ess,∀e∈es,0<=e.l/\e.l<=2376):LMs ts n 2376 ess:=fun i es hes=>by
 have LO:=L.2 i es hes
 have hil:=(zE.mp hes).1
 have hl:=L.1
 refine⟨LO.hub,fun e he=>(LO.ent e he).rng,fun e he=>b es (zS hes) e he,LO.all i (by omega) (by omega) ⟨⟨0,zCS G i⟩,fun p hp=>?_⟩,fun e he=>zIS G (LO.ent e he).len,fun e he=>⟨_,(LO.ent e he).len⟩,fun e he=>zJ5 G (LO.ent e he).up (LO.ent e he).dn⟩
 obtain⟨x,y,hx,hy,hxy⟩:=hp
 have e:=WM.IsD.uniq hxy (zCS G i)
 have h1:=hx.1.nn G
 have h2:=hy.1.nn G
 have hx0:x=0:=by omega
 rw[hx0] at hx
 rw[zGh G hx]
 exact zB5 _
noncomputable def zI7 (H:Hp)(bs:List Addr)(ess:List (List En)):Prop:=bs.length=ess.length/\∀(i:Nat)(b:Addr),bs[i]? = some b->∃es,ess[i]? = some es/\zB6 H b es
theorem zI7.keep {bs:List Addr}(h:zI7 H bs ess)(k:∀b ys,H b=some (.tup ys)->H' b=some (.tup ys)):zI7 H' bs ess:=⟨h.1,fun i b e=>let ⟨es,e1,e2⟩:=h.2 i b e;⟨es,e1,e2.keep k⟩⟩
theorem zI7.snoc {bs:List Addr}(h:zI7 H bs ess)(L:zB6 H b es):zI7 H (bs++[b]) (ess++[es]):=by
 refine⟨by rw[zI,zI,h.1];rfl,fun i c hc=>?_⟩
 by_cases hi:i<bs.length
 . rw[zN hi] at hc
   obtain⟨fs,e1,e2⟩:=h.2 i c hc
   exact⟨fs,by rw[zN (by rw[<-h.1];exact hi)];exact e1,e2⟩
 . rw[zM (by omega)] at hc
   cases hz:i-bs.length with
   | zero=>
    rw[hz] at hc
    have e1:b=c:=by simpa using hc
    subst e1
    exact⟨es,by rw[zM (by rw[<-h.1];omega),<-h.1,hz];rfl,L⟩
   | succ z=>rw[hz] at hc;simp at hc
theorem LMs.snoc (h:LMs ts n B ess){q:Nat}(hq:ess.length=q)(L:LM ts n q B es):LMs ts n B (ess++[es]):=fun i fs hf=>by
 by_cases hi:i<ess.length
 . rw[zN hi] at hf
   exact h i fs hf
 . rw[zM (by omega)] at hf
   cases hz:i-ess.length with
   | zero=>
    rw[hz] at hf
    have e1:es=fs:=by simpa using hf
    subst e1
    rw[show i=q by omega]
    exact L
   | succ z=>rw[hz] at hf;simp at hf
noncomputable def zHd:Sp:=fun vs H Q _=>∃(wa fl:Addr)(n:Int)(ts:List T3)(M:List (List (Option Int))),vs=[.ref wa,.ref fl]/\zBh H wa n ts/\zCQ H fl n ts M /\
 ∀(l:Addr)(ess:List (List En))(H':Hp),zA1 H H'->zBF H' l ess->ess.length=n.toNat->LMs ts n 2376 ess->Q (.ref l) H'
theorem zG9 (m:Nat):(WM.lowTo m).Pairwise (· < ·):=by
 unfold WM.lowTo
 rw[zAW]
 exact List.pairwise_lt_range.imp fun h=>by omega
theorem zIK {p:Int}:p∈WM.lowTo m↔0<=p/\p<m:=WM.mem_ints
theorem zG8 (m:Nat):WM.lowTo (m+1)=WM.lowTo m++[(m:Int)]:=by
 unfold WM.lowTo
 rw[List.range_succ,zQ];rfl
section
variable {P:Program}{w:World}{K:PySem.W.Frag}{mg:Str->Option Value}{base:Heap}
theorem zGN:zAR ["_law_web_here", "_law_far_here", "_law_labels_here", "_law_place", "_law_hubs"] ["_law_web_here", "_law_far_here"] (defScope zHr):=⟨rfl,rfl,rfl,by decide +kernel,rfl,by decide +kernel,by decide +kernel⟩
theorem zLG (F:Fun K "_law_full" "_law_full" zHr f fd') (FE:Fun K "_law_entry" "_law_entry" zG0 fE fdE) (bE:zAP K fdE ["_law_web_here", "_law_far_here", "_law_place", "_law_hub"] []) (mE:mg "_law_entry" = some (.ref fE)) (GE:zAq P w K mg base CX0 3 fE fdE ["_law_web_here", "_law_far_here", "_law_place", "_law_hub"] zGL)
 (mRange:mg "range" = none) (mTuple:mg "tuple" = none):zAq P w K mg base CX0 4 f fd' ["_law_web_here", "_law_far_here"] zHd:=by
 refine F.ok zGN (fun vs H Q E h=>?_) (fun cdv A outer s H vs Q E hr h=>?_)
 . obtain⟨wa,fl,n,ts,M,rfl,_⟩:=h
   rfl
 . obtain⟨wa,fl,n,ts,M,rfl,W,FR,k⟩:=h
   obtain⟨ta,tys,hwa,_,_,G⟩:=id W
   have hn1:=G.n1
   have hn24:=G.n24
   refine⟨_,zW (zAN (i:=2) zGN.nd rfl (Or.inl rfl) (zB1 zT))
    (zW (zBk PassesOwn.never rfl (zAm rfl mRange (zF (zAH zAr (pv 0) zAA (fun _ _=>rfl)) zT)) (zr (i:=3) zGN.nd rfl (Or.inr rfl))
     (zW (zCZ (i:=4) (own:=["_law_hub"]) (cn:=["_law_far_here", "_law_place"]) (ci:=[1,3]) zGN.nd rfl (Or.inl rfl) rfl (csc rfl rfl) ⟨rfl,rfl,rfl,rfl,rfl,rfl,trivial⟩ rfl
      (zAm rfl mRange (zF (zAH zAr (pv 0) zAA (fun _ _=>rfl)) zT)) (fun _ _ _ _=>zr (i:=0) (zBJ rfl) rfl (Or.inl rfl))
      (fun _ _ _ _=>zB0 (zAQ zEr (zAH zCR (zAH zCR (pv 1) (pv 2) (fun _ _=>rfl)) (pv 0) (fun _ _=>rfl)) zBl (zAc _))) (fun _ _ _ _=>pv 0))
     (zn (zCL (zDA PySem.F.plainAttrs_list PySem.F.slot_list_append PySem.F.type_list_append zBP (pv 2) (zF (zAf zAJ (by rfl) mTuple (by decide +kernel) (zF
      (zBA (own:=["_law_hub"]) (cn:=["_law_web_here", "_law_far_here", "_law_place"]) (ci:=[0,1,3]) rfl (csc rfl rfl) ⟨rfl,rfl,rfl,rfl,rfl,rfl,rfl,rfl,rfl,trivial⟩ rfl (zCE (pv 4)) (fun _ _ _ _=>zr (i:=0) (zBJ rfl) rfl (Or.inl rfl)) (fun _ _ _ _=>zBK)
       (fun _ _ _ _=>zx GE hr rfl mE FE.kp bE .nil zAl (zF (pv 1) (zF (pv 2) (zF (pv 3) (zF (pv 0) zT)))))) zT)) zT))))))
    (zn (zAb (zAf zAJ (by rfl) mTuple (by decide +kernel) (zF (pv 2) zT))))),?_⟩
   refine⟨by show 0<=sizeLine;decide,fun D hD=>?_⟩
   have s0:=zG (o:=.lst []) hD
   refine⟨_,rfl,wa,_,_,_,rfl,rfl,SqT.of (s0 _ _ hwa),rfl,n,rfl,by omega,by omega,zBQ (lo:=0) (n:=n.toNat) (fun q σ H1=>∃(v3 v4:Option V)(bs:List Addr)(ess:List (List En)),σ=[some (.ref wa),some (.ref fl),some (.ref D),v3,v4]/\ess.length=q/\H1 D=some (.lst (bs.map V.ref))/\zI7 H1 bs ess/\LMs ts n 2376 ess/\zA1 H H1)
    ⟨_,_,[],[],rfl,rfl,zJ,⟨rfl,fun i b z=>by simp at z⟩,(fun i es z=>by simp at z),s0⟩ ?turn ?after⟩
   case after=>
    rintro σ H1 ⟨v3,v4,bs,ess,rfl,hel,hD1,LL,LMM,s1⟩
    refine⟨_,rfl,D,_,rfl,.inl ⟨SqL.of hD1,fun l hl=>?_⟩⟩
    have sl:=zG (o:=.tup (bs.map V.ref)) hl
    exact k l ess _ (s1.trans sl) ⟨bs,zJ,LL.1,(LL.keep fun b ys e=>sl _ _ e).2⟩ hel LMM
   case turn=>
    rintro q σ H1 hq ⟨v3,v4,bs,ess,rfl,hel,hD1,LL,LMM,s1⟩
    rw[zAi]
    have FR1:=FR.keep fun b ys e=>s1 _ _ e
    have W1:=W.keep s1
    refine⟨_,rfl,wa,_,_,_,rfl,rfl,SqT.of (s1 _ _ hwa),rfl,n,rfl,by omega,by omega,[.ref fl,.int q],rfl,fun D1 hD1'=>?_⟩
    refine zBe (lo:=0) (n:=n.toNat) (fun j ys H2=>j<=n.toNat/\ys=((WM.lowTo j).filter fun h=>(mat M q h).isSome).map V.int/\H2=upd H1 D1 (.lst ys)) ⟨zc _,rfl,rfl⟩ (fun j ys H2 z=>?_) (fun j ys H2 hj z=>?_) (fun ys H2 z=>?_)
    . obtain⟨hj,rfl,_⟩:=z
      rw[zB]
      refine zAD (zq _ _) (zAd ?_)
      unfold WM.lowTo
      rw[zB,zAn]
      omega
    . obtain⟨_,rfl,rfl⟩:=z
      rw[zAi]
      obtain⟨rs,r,row,f1,f2,f3,f4,f5⟩:=FR1.get (x:=q) (y:=j) (by omega) (by omega) (by omega) (by omega)
      have sx:=zG (o:=.lst (((WM.lowTo j).filter fun h=>(mat M q h).isSome).map V.int)) hD1'
      refine⟨⟨rfl,rfl⟩,?_⟩
      refine⟨_,rfl,_,rfl,fl,_,_,.ref r,rfl,rfl,SqL.of (sx _ _ f1),f2,_,rfl,r,_,_,_,rfl,rfl,SqL.of (sx _ _ f3),f4,rfl,_,rfl,?_⟩
      rw[zEN]
      have st:(WM.lowTo (j+1)).filter (fun h=>(mat M q h).isSome)=(WM.lowTo j).filter (fun h=>(mat M q h).isSome)++(if (mat M q j).isSome=true then [(j:Int)] else []):=by
       rw[zG8,zAh]
       congr 1
       rw[zBn]
       rfl
      cases hm:mat M q j with
      | none=>
       refine zDU ⟨by omega,?_,rfl⟩
       rw[st,hm];simp
      | some d=>
       refine zFa ?_
       refine⟨_,rfl,zJ,by omega,?_,zCW⟩
       rw[st,hm,zQ];rfl
    obtain⟨_,rfl,rfl⟩:=z
    generalize hhs:(WM.lowTo n.toNat).filter (fun h=>(mat M q h).isSome)=hs
    have hsr:hs.Pairwise (· < ·):=by rw[<-hhs];exact (zG9 _).sublist zB4
    have hsm:∀x,x∈hs↔(0<=x/\x<n)/\(mat M q x).isSome=true:=fun x=>by
     rw[<-hhs,zAu,zIK]
     constructor
     . rintro ⟨a,b⟩;exact⟨by omega,b⟩
     . rintro ⟨a,b⟩;exact⟨by omega,b⟩
    have hsl:hs.length<=24:=by
     have:hs.length<=(WM.lowTo n.toNat).length:=by rw[<-hhs];exact zq _ _
     unfold WM.lowTo at this
     rw[zB,zAn] at this
     omega
    have s2:=zG (o:=.lst (hs.map V.int)) hD1'
    have hh2:(upd H1 D1 (.lst (hs.map V.int))) D1=some (.lst (hs.map V.int)):=zJ
    have hDx:=s2 _ _ hD1
    generalize upd H1 D1 (.lst (hs.map V.int))=H2 at s2 hh2 hDx ⊢
    have s12:=s1.trans s2
    refine⟨_,rfl,.inl ⟨rfl,_,SqL.of hDx⟩,_,rfl,D1,rfl,⟨_,SqL.of hh2⟩,[.ref wa,.ref fl,.int q],rfl,fun D2 hD2=>?_⟩
    refine zBz (a:=D1) (xs:=hs.map V.int) (fun j ys H3=>∃(cs:List Addr)(es:List En),ys=cs.map V.ref/\es.length=j/\zCI H3 cs es/\(∀(m:Nat)(e:En),es[m]? = some e->hs[m]? = some e.h/\WM.IsD ts q e.h e.l/\UD e)/\zA1 H2 H3/\H3 D2=some (.lst ys)/\j<=hs.length)
     ⟨[],[],rfl,rfl,⟨rfl,fun m c z=>by simp at z⟩,(fun m e z=>by simp at z),zG hD2,zJ,zc _⟩ (fun j ys H3 h=>?_) (fun j ys H3 h=>?_) (fun j v ys H3 hv h=>?_) (fun ys H3 h=>?_)
    . obtain⟨_,_,_,_,_,_,s3,_⟩:=h
      exact SqL.of (s3 _ _ hh2)
    . obtain⟨cs,es,rfl,hl,EA,_,_,_,hj⟩:=h
      rw[zB,EA.1,hl]
      exact zAd (by omega)
    . obtain⟨cs,es,rfl,hl,EA,hE,s3,h3,hj⟩:=h
      rw[zO] at hv
      cases hx:hs[j]? with
      | none=>rw[hx] at hv;cases hv
      | some x=>
      rw[hx] at hv
      cases hv
      obtain⟨xr,xm⟩:=(hsm x).mp (zS hx)
      obtain⟨d,hd⟩:=zA4.mp xm
      obtain⟨_,_,_,_,_,_,_,f5⟩:=FR1.get (x:=q) (y:=x) (by omega) (by omega) xr.1 xr.2
      rw[hd] at f5
      refine⟨⟨rfl,rfl⟩,?_⟩
      refine zD8 ?_
      refine⟨_,rfl,_,rfl,_,rfl,_,rfl,wa,fl,n,ts,M,q,x,rfl,(W.keep s12).keep s3,(FR.keep fun b ys e=>s12 _ _ e).keep fun b ys e=>s3 _ _ e,by omega,by omega,xr.1,xr.2,⟨d,WM.IsD.symm f5⟩,fun a e H4 s4 ha eh el eu ed=>?_⟩
      have h4:=s4 _ _ h3
      refine⟨h4,cs++[a],es++[e],by rw[zQ];rfl,by rw[zI,hl];rfl,?_,fun m e' he'=>?_,zAF (s3.trans s4) hD2,zJ,(zE.mp hx).1⟩
      . have kp:∀b us,H4 b=some (.tup us)->(upd H4 D2 (.lst (cs.map V.ref++[.ref a]))) b=some (.tup us):=fun b us z=>by rw[zZ (zA5 z h4 (by intro w;cases w))];exact z
        exact ((EA.keep fun b us z=>s4 _ _ z).keep kp).snoc (kp _ _ ha)
      . by_cases cm:m<es.length
        . rw[zN cm] at he'
          exact hE m e' he'
        . rw[zM (by omega)] at he'
          cases hz:m-es.length with
          | zero=>
           rw[hz] at he'
           have e1:e=e':=by simpa using he'
           subst e1
           rw[show m=j by omega,hx,eh]
           exact⟨rfl,el,zJ5 G eu ed⟩
          | succ z=>rw[hz] at he';simp at he'
    obtain⟨cs,es,rfl,hl,EA,hE,s3,h3,_⟩:=h
    rw[zB] at hl
    refine⟨D2,_,rfl,.inl ⟨SqL.of h3,fun b hb=>?_⟩⟩
    have s4:=s3.trans (zG (o:=.tup (cs.map V.ref)) hb)
    have LB:zB6 (upd H3 b (.tup (cs.map V.ref))) b es:=⟨cs,zJ,EA.keep fun b' us z=>zG hb _ _ z,by omega⟩
    generalize upd H3 b (.tup (cs.map V.ref))=H4 at s4 LB ⊢
    have hD4:=s4 _ _ hDx
    have hbl:=LL.1
    refine⟨D,_,_,rfl,rfl,hD4,by rw[zB,hbl];exact zAd (by omega),?_⟩
    have kp:∀c us,H4 c=some (.tup us)->(upd H4 D (.lst (bs.map V.ref++[.ref b]))) c=some (.tup us):=fun c us z=>by rw[zZ (zA5 z hD4 (by intro w;cases w))];exact z
    have hin:∀e∈es,e.h∈hs/\WM.IsD ts q e.h e.l/\UD e:=fun e he=>by
     obtain⟨m,hm,em⟩:=zd he
     have:=hE m e (by rw[zA hm,em])
     exact⟨zS this.1,this.2⟩
    refine⟨_,_,bs++[b],ess++[es],rfl,by rw[zI,hel];rfl,by rw[zQ];exact zJ,((LL.keep fun c us z=>s4 _ _ (s2 _ _ z)).keep kp).snoc (LB.keep kp),LMM.snoc hel ⟨?_,fun e he=>((hsm e.h).mp (hin e he).1).1,fun e he=>?_,?_,fun e he=>zIS G (hin e he).2.1,fun e he=>⟨_,(hin e he).2.1⟩,fun e he=>(hin e he).2.2⟩,zAF (s12.trans s4) hD⟩
    . refine zAC.mpr fun a b' ha hb' hab=>?_
      have e1:=(hE a es[a] (zA ha)).1
      have e2:=(hE b' es[b'] (zA hb')).1
      obtain⟨i1,e1'⟩:=zE.mp e1
      obtain⟨i2,e2'⟩:=zE.mp e2
      have:=zAC.mp hsr a b' i1 i2 hab
      omega
    . have r:=(hsm e.h).mp (hin e he).1
      exact zE6 G q e.h (by omega) (by omega) e.l (hin e he).2.1
    . have self:(q:Int)∈hs:=by
       refine (hsm q).mpr ⟨by omega,?_⟩
       obtain⟨_,_,_,_,_,_,_,f5⟩:=FR1.get (x:=q) (y:=q) (by omega) (by omega) (by omega) (by omega)
       cases hm:mat M q q with
       | some d=>rfl
       | none=>rw[hm] at f5;exact absurd (zCS G (q:Int)).1 (f5 0)
      obtain⟨m,hm,em⟩:=zd self
      have hme:m<es.length:=by omega
      have:=(hE m es[m] (zA hme)).1
      rw[zA hm,em] at this
      exact⟨es[m],zAX hme,(zR this).symm⟩
end
theorem zAU.neT {t:Addr}(h:zAU H t N)(hb:H b=some (.tup ys)):b≠t:=by
 obtain⟨p,ns,spot,rest,a,_⟩:=h
 exact zA5 hb a (by intro z;cases z)
theorem zFE {t:Addr}(h:∀b,b≠t->H' b=H b):Sm t H H':=fun b o n e=>by rw[h b n];exact e
theorem zCQ.sm {t:Addr}(h:zCQ H fl n ts M)(T:zAU H t N)(s:Sm t H H'):zCQ H' fl n ts M:=by
 obtain⟨rs,h1,h2,h3⟩:=h
 obtain⟨p,ns,spot,rest,ht,_⟩:=T
 have nf:fl≠t:=fun z=>by
  subst z
  rw[h1] at ht
  injection ht with ht;injection ht with ht
  match rs,ht with
  | [],ht=>simp at ht
  | [_],ht=>simp at ht
  | _::_::_,ht=>simp at ht
 refine⟨rs,s _ _ nf h1,h2.keep fun b ys e hb=>s _ _ (fun z=>?_) e,h3⟩
 subst z
 obtain⟨i,hi,ei⟩:=zd hb
 have hM:i<M.length:=by rw[<-h2.1];exact hi
 have:=h2.2.2 i b M[i] (by rw[zA hi,ei]) (zA hM)
 rw[this] at ht
 injection ht with ht;injection ht with ht
 match M[i],ht with
 | [],ht=>simp at ht
 | none::_,ht=>simp[oV] at ht
 | some _::_,ht=>simp[oV] at ht
theorem zB6.sm {t:Addr}(h:zB6 H p es)(T:zAU H t N)(s:Sm t H H'):zB6 H' p es:=h.keep fun b ys e=>s b _ (zAU.neT T e) e
theorem zBd.at_ {t:Addr}(h:zBd H t p N):zAU H t N:=⟨p,h⟩
theorem zBd.nn {t:Addr}(h:zBd H t p N)(hb:H b=none):b≠t/\b≠p:=by
 obtain⟨ns,spot,rest,a,b',_⟩:=h
 exact⟨(zh a hb).symm,(zh b' hb).symm⟩
theorem zBd.kp {t:Addr}(h:zBd H t p N)(s:zA1 H H'):zBd H' t p N:=h.keepF (fun o e=>s _ _ e) (fun o e=>s _ _ e) (zL _)
theorem zBd.ch {t:Addr}{o:HO}(h:zBd H t p N)(n1:l≠t)(n2:l≠p):zBd (upd H l o) t p N:=h.keepF (fun _ e=>by rw[zZ n1.symm];exact e) (fun _ e=>by rw[zZ n2.symm];exact e) (zL _)
theorem zBd.up {t:Addr}{M:Nat}(h:zBd H t p N)(l:N<=M):zBd H t p M:=h.keepF (fun _ e=>e) (fun _ e=>e) l
theorem zBd.nI {t:Addr}{xs:List Int}(h:zBd H t p N)(hb:H b=some (.lst (xs.map V.int))):b≠t:=fun z=>by
 obtain⟨ns,spot,rest,a,_⟩:=h
 rw[z,a] at hb
 injection hb with hb;injection hb with hb
 match xs,hb with
 | [],hb=>simp at hb
 | _::_,hb=>simp at hb
theorem zDe:∀(xs:List Int)(a n:Int),xs.Pairwise (· < ·)->(∀x∈xs,a<=x/\x<n)->xs.length<=(n-a).toNat
 | [],_,_,_,_=>zc _
 | x::r,a,n,h,b=>by
  have hp:=List.pairwise_cons.mp h
  have hx:=b x zl
  have:=zDe r (x+1) n hp.2 fun e he=>by
   have h1:=hp.1 e he
   have h2:=b e (zv _ he)
   omega
  rw[zAG]
  omega
theorem zBh.smt {t:Addr}(h:zBh H wa n ts)(T:zBd H t p N)(s:Sm t H H'):zBh H' wa n ts:=h.keepT fun b ys e=>s _ _ (zAU.neT T.at_ e) e
theorem LM.like {fs:List En}(h:LM ts n v B es)(hl:fs.length=es.length)(k:∀(m:Nat)(f:En),fs[m]? = some f->∃e,es[m]? = some e/\f.h=e.h/\f.l=e.l/\UD f):LM ts n v B fs:=by
 have mem:∀f∈fs,∃e∈es,f.h=e.h/\f.l=e.l/\UD f:=fun f hf=>by
  obtain⟨m,hm,em⟩:=zd hf
  obtain⟨e,e1,e2⟩:=k m f (by rw[zA hm,em])
  exact⟨e,zS e1,e2⟩
 refine⟨zAC.mpr fun a b ha hb hab=>?_,fun f hf=>?_,fun f hf=>?_,?_,fun f hf=>?_,fun f hf=>?_,fun f hf=>?_⟩
 . obtain⟨e1,h1,h2,_⟩:=k a fs[a] (zA ha)
   obtain⟨e2,h3,h4,_⟩:=k b fs[b] (zA hb)
   have:=Hub.lt h.hub hab h1 h3
   omega
 . obtain⟨e,he,h1,h2,_⟩:=mem f hf
   have:=h.rng e he;omega
 . obtain⟨e,he,h1,h2,_⟩:=mem f hf
   have:=h.nn e he;omega
 . obtain⟨o,ho,eo⟩:=h.own
   obtain⟨m,hm,em⟩:=zd ho
   have hmf:m<fs.length:=by omega
   obtain⟨e,h1,h2,_⟩:=k m fs[m] (zA hmf)
   rw[zA hm,em] at h1
   cases h1
   exact⟨fs[m],zAX hmf,by omega⟩
 . obtain⟨e,he,h1,h2,_⟩:=mem f hf
   rw[h1,h2];exact h.zero e he
 . obtain⟨e,he,h1,h2,_⟩:=mem f hf
   rw[h1];exact h.rch e he
 . obtain⟨e,he,h1,h2,h3⟩:=mem f hf
   exact h3
noncomputable def zFw:Sp:=fun vs H Q _=>∃(t p wa fl l:Addr)(N:Nat)(n B:Int)(ts:List T3)(M:List (List (Option Int)))(ess:List (List En)),vs=[.ref t,.ref wa,.ref fl,.ref l]/\zBd H t p N/\N<500000/\zBh H wa n ts/\zCQ H fl n ts M/\zBF H l ess/\ess.length=n.toNat/\LMs ts n B ess /\
 ∀(l':Addr)(fss:List (List En))(H':Hp),zBF H' l' fss->fss.length=n.toNat->LMs ts n B fss->zBd H' t p (N+1200)->Sm t H H'->Q (.ref l') H'
theorem zHy {X:Cx}{st:Stmt}{u u':TS}(h:PS X st u)(m:∀D σ H,u' D σ H->u D σ H):PS X st u':=fun pins s σ H D I q=>h pins s σ H D I (m D σ H q)
section
variable {P:Program}{w:World}{K:PySem.W.Frag}{mg:Str->Option Value}{base:Heap}
theorem zCJ:zAR ["_law_tape_here", "_law_web_here", "_law_far_here", "_law_labels_here", "_law_found", "_law_place", "_law_label", "_law_hub", "_law_long", "_law_up", "_law_down", "_law_ups", "_law_downs"] ["_law_tape_here", "_law_web_here", "_law_far_here", "_law_labels_here"] (defScope zFK):=⟨rfl,rfl,rfl,by decide +kernel,rfl,by decide +kernel,by decide +kernel⟩
theorem zJe (F:Fun K "_law_loose" "_law_loose" zFK f fd') (FD:Fun K "_law_draw" "_law_draw" zEB fD fdD) (bD:zAP K fdD ["_law_tape_here", "_law_many"] []) (mD:mg "_law_draw" = some (.ref fD)) (GD:zAq P w K mg base CX0 2 fD fdD ["_law_tape_here", "_law_many"] zDa)
 (FN:Fun K "_law_nexts" "_law_nexts" sNxs fN fdN) (bN:zAP K fdN ["_law_web_here", "_law_far_here", "_law_one", "_law_other"] []) (mN:mg "_law_nexts" = some (.ref fN)) (GN:zAq P w K mg base CX0 2 fN fdN ["_law_web_here", "_law_far_here", "_law_one", "_law_other"] zJF)
 (mLen:mg "len" = none) (mRange:mg "range" = none) (mTuple:mg "tuple" = none):zAq P w K mg base CX0 3 f fd' ["_law_tape_here", "_law_web_here", "_law_far_here", "_law_labels_here"] zFw:=by
 refine F.ok zCJ (fun vs H Q E h=>?_) (fun cdv A outer s H vs Q E hr h=>?_)
 . obtain⟨t,p,wa,fl,l,N,n,B,ts,M,ess,rfl,_⟩:=h
   rfl
 . obtain⟨t,p,wa,fl,l,N,n,B,ts,M,ess,rfl,T,hN,W,FR,LL,hel,LMM,k⟩:=h
   obtain⟨ta,tys,hwa,_,_,G⟩:=id W
   have hn1:=G.n1
   have hn24:=G.n24
   obtain⟨as,hl,hal,hA⟩:=id LL
   refine⟨_,zW (zAN (i:=4) zCJ.nd rfl (Or.inl rfl) (zB1 zT))
    (zW (zBk PassesOwn.never rfl (zAm rfl mRange (zF (zAH zAr (pv 1) zAA (fun _ _=>rfl)) zT)) (zr (i:=5) zCJ.nd rfl (Or.inl rfl))
     (zW (zAN (i:=6) zCJ.nd rfl (Or.inl rfl) (zB1 zT))
     (zW (zBk PassesOwn.never rfl (zBu (zAH zAr (pv 3) (pv 5) (fun _ _=>rfl)))
      (zCf rfl (zAK (zr (i:=7) zCJ.nd rfl (Or.inl rfl)) (zAK (zr (i:=8) zCJ.nd rfl (Or.inl rfl)) (zAK (zr (i:=9) zCJ.nd rfl (Or.inl rfl)) (zAK (zr (i:=10) zCJ.nd rfl (Or.inl rfl)) zCB)))))
      (zW (zHy (u':=fun (D':zJ2) σ H3=>∃(D DL:Addr)(q:Nat)(e:En)(N0:Nat)(v11 v12:Option V),σ=[some (.ref t),some (.ref wa),some (.ref fl),some (.ref l),some (.ref D),some (.int q),some (.ref DL),some (.int e.h),some (.int e.l),some (oV e.u),some (oV e.d),v11,v12] /\
       zBd H3 t p N0/\N0<900000/\zBh H3 wa n ts/\zCQ H3 fl n ts M/\(q:Int)<n/\0<=e.h/\e.h<n/\(∃d,WM.IsD ts q e.h d)/\(e.l=0↔e.h=q)/\UD e /\
       ∀(u d:Option Int)(w11 w12:Option V)(H':Hp),UD ⟨e.h,e.l,u,d⟩->Sm t H3 H'->zBd H' t p (N0+2)->D'.nx [some (.ref t),some (.ref wa),some (.ref fl),some (.ref l),some (.ref D),some (.int q),some (.ref DL),some (.int e.h),some (.int e.l),some (oV u),some (oV d),w11,w12] H')
       (zCK (zAQ zF1 (pv 8) zAA (zAc _))
        (zW (zAN (i:=11) zCJ.nd rfl (Or.inl rfl) (zx GN hr rfl mN FN.kp bN .nil zAl (zF (pv 1) (zF (pv 2) (zF (pv 5) (zF (pv 7) zT))))))
        (zW (zAN (i:=12) zCJ.nd rfl (Or.inl rfl) (zx GN hr rfl mN FN.kp bN .nil zAl (zF (pv 1) (zF (pv 2) (zF (pv 7) (zF (pv 5) zT))))))
        (zW (zAN (i:=9) zCJ.nd rfl (Or.inl rfl) (zAH zAO (pv 11) (zx GD hr rfl mD FD.kp bD .nil zAl (zF (pv 0) (zF (zAV zBE (by rfl) mLen PySem.boot_len (zF (pv 11) zT)) zT))) (fun _ _=>rfl)))
        (zn (zAN (i:=10) zCJ.nd rfl (Or.inl rfl) (zAH zAO (pv 12) (zx GD hr rfl mD FD.kp bD .nil zAl (zF (pv 0) (zF (zAV zBE (by rfl) mLen PySem.boot_len (zF (pv 12) zT)) zT))) (fun _ _=>rfl))))))) zA7) (fun D' σ H3 z=>by
        obtain⟨D,DL,q,e,N0,v11,v12,rfl,T3,hN0,W3,FR3,hq,h0,h1,⟨d,hd⟩,hz,ude,z⟩:=z
        refine⟨_,rfl,_,_,rfl,rfl,_,rfl,?_⟩
        refine zDO (fun c=>?_) (fun c=>?_)
        . have hne:e.h≠q:=fun x=>by have:=hz.mpr x;have:=of_decide_eq_true c;omega
          refine⟨_,rfl,_,rfl,_,rfl,_,rfl,wa,fl,n,ts,M,q,e.h,rfl,W3,FR3,by omega,hq,h0,h1,fun l1 xs H4 s4 hl1 r1 m1=>?_⟩
          refine⟨_,rfl,_,rfl,_,rfl,_,rfl,wa,fl,n,ts,M,e.h,q,rfl,W3.keep s4,FR3.keep fun b ys x=>s4 _ _ x,h0,h1,by omega,hq,fun l2 ys H5 s5 hl2 r2 m2=>?_⟩
          have T5:=(T3.kp s4).kp s5
          have hl15:=s5 _ _ hl1
          have rg:∀{x y z:Int},Nxt ts x y z->0<=z/\z<n:=fun h=>by
           obtain⟨_,_,ha,_⟩:=h
           have:=G.adj ha
           exact⟨this.2.2.1,this.2.2.2.1⟩
          have lx:xs.length<=24:=by have:=zDe xs 0 n r1 fun x hx=>rg ((m1 x).mp hx);omega
          have ly:ys.length<=24:=by have:=zDe ys 0 n r2 fun x hx=>rg ((m2 x).mp hx);omega
          have px:0<xs.length:=by
           obtain⟨z,hz'⟩:=Nxt.exists G hd fun x=>hne x.symm
           exact List.length_pos_of_mem ((m1 z).mpr hz')
          have py:0<ys.length:=by
           obtain⟨z,hz'⟩:=Nxt.exists G (WM.IsD.symm hd) hne
           exact List.length_pos_of_mem ((m2 z).mpr hz')
          refine⟨_,rfl,_,rfl,_,rfl,l1,_,rfl,.inl (SqL.of hl15),t,p,N0,_,rfl,T5,by omega,by rw[zB];omega,by rw[zB];omega,fun r H6 a6 b6 T6 he6=>?_⟩
          rw[zB] at b6
          obtain⟨u,hum,hu⟩:=zDn a6 b6
          have n1:=T5.nI hl15
          have n2:=T5.nI hl2
          refine⟨l1,_,_,_,rfl,rfl,SqL.of (by rw[he6 _ n1];exact hl15),hu,?_⟩
          have hl26:H6 l2=some (.lst (ys.map V.int)):=by rw[he6 _ n2];exact hl2
          refine⟨_,rfl,_,rfl,_,rfl,l2,_,rfl,.inl (SqL.of hl26),t,p,N0+1,_,rfl,T6,by omega,by rw[zB];omega,by rw[zB];omega,fun r' H7 a7 b7 T7 he7=>?_⟩
          rw[zB] at b7
          obtain⟨dn,hdm,hdn⟩:=zDn a7 b7
          refine⟨l2,_,_,_,rfl,rfl,SqL.of (by rw[he7 _ n2];exact hl26),hdn,?_⟩
          have ru:=rg ((m1 u).mp hum)
          have rd:=rg ((m2 dn).mp hdm)
          exact z (some u) (some dn) _ _ H7 ⟨fun x hx=>by cases hx;omega,fun x hx=>by cases hx;omega⟩ ((Sm.of (s4.trans s5)).trans ((zFE he6).trans (zFE he7))) T7
        . exact z e.u e.d _ _ H3 ude (Sm.refl _ _) (T3.up (by omega))))
      (zn (zCL (zDA PySem.F.plainAttrs_list PySem.F.slot_list_append PySem.F.type_list_append zBP (pv 6) (zF (zBC (zF (pv 7) (zF (pv 8) (zF (pv 9) (zF (pv 10) zT))))) zT))))))
     (zn (zCL (zDA PySem.F.plainAttrs_list PySem.F.slot_list_append PySem.F.type_list_append zBP (pv 4) (zF (zAf zAJ (by rfl) mTuple (by decide +kernel) (zF (pv 6) zT)) zT)))))))
    (zn (zAb (zAf zAJ (by rfl) mTuple (by decide +kernel) (zF (pv 4) zT))))),?_⟩
   refine⟨by show 0<=sizeLine;decide,fun D hD=>?_⟩
   have s0:=zG (o:=.lst []) hD
   have nD:=T.nn hD
   refine⟨_,rfl,wa,_,_,_,rfl,rfl,SqT.of (s0 _ _ hwa),rfl,n,rfl,by omega,by omega,zBQ (lo:=0) (n:=n.toNat) (fun q σ H1=>∃(v5 v6 v7 v8 v9 v10 v11 v12:Option V)(bs:List Addr)(fss:List (List En)),σ=[some (.ref t),some (.ref wa),some (.ref fl),some (.ref l),some (.ref D),v5,v6,v7,v8,v9,v10,v11,v12]/\fss.length=q/\H1 D=some (.lst (bs.map V.ref))/\zI7 H1 bs fss/\LMs ts n B fss/\zBd H1 t p (N+50*q)/\Sm t H H1)
    ⟨_,_,_,_,_,_,_,_,[],[],rfl,rfl,zJ,⟨rfl,fun i b z=>by simp at z⟩,(fun i es z=>by simp at z),T.kp s0,Sm.of s0⟩ ?turn ?after⟩
   case after=>
    rintro σ H1 ⟨v5,v6,v7,v8,v9,v10,v11,v12,bs,fss,rfl,hfl',hD1,LB,LM',T1,s1⟩
    refine⟨_,rfl,D,_,rfl,.inl ⟨SqL.of hD1,fun l' hl'=>?_⟩⟩
    have sl:=zG (o:=.tup (bs.map V.ref)) hl'
    exact k l' fss _ ⟨bs,zJ,LB.1,(LB.keep fun b ys e=>sl _ _ e).2⟩ hfl' LM' ((T1.kp sl).up (by omega)) (s1.trans (Sm.of sl))
   case turn=>
    rintro q σ H1 hq ⟨v5,v6,v7,v8,v9,v10,v11,v12,bs,fss,rfl,hfl',hD1,LB,LM',T1,s1⟩
    rw[zAi]
    have tup1:∀b ys,H b=some (.tup ys)->H1 b=some (.tup ys):=fun b ys e=>s1 _ _ (zAU.neT T.at_ e) e
    obtain⟨b,hb⟩:∃b,as[q]? = some b:=⟨_,zA (by omega)⟩
    obtain⟨es,hes,LE⟩:=hA q b hb
    obtain⟨cs0,hbt,EA,_⟩:=id LE
    have LMq:=LMM q es hes
    have hesl:=LMq.len hn24
    refine⟨by show 0<=sizeLine;decide,fun DL hDL=>?_⟩
    have nDL:=T1.nn hDL
    have sDL:=zG (o:=.lst []) hDL
    have nDD:D≠DL:=zh hD1 hDL
    have hatb:atI (as.map V.ref) (q:Int)=some (.ref b):=zCw (by rw[zO,hb];rfl)
    refine⟨_,rfl,_,rfl,l,_,_,.ref b,rfl,rfl,SqT.of (sDL _ _ (tup1 _ _ hl)),hatb,b,rfl,⟨_,SqT.of (sDL _ _ (tup1 _ _ hbt))⟩,zDD (K:=K) (a:=b) (xs:=cs0.map V.ref)
     (fun j σ H2=>∃(v7 v8 v9 v10 v11 v12:Option V)(cs:List Addr)(fs:List En),σ=[some (.ref t),some (.ref wa),some (.ref fl),some (.ref l),some (.ref D),some (.int q),some (.ref DL),v7,v8,v9,v10,v11,v12]/\fs.length=j/\H2 DL=some (.lst (cs.map V.ref))/\zCI H2 cs fs/\(∀(m:Nat)(f:En),fs[m]? = some f->∃e,es[m]? = some e/\f.h=e.h/\f.l=e.l/\UD f)/\zBd H2 t p (N+50*q+2*j)/\Sm t H1 H2/\j<=es.length)
     ⟨_,_,_,_,_,_,[],[],rfl,rfl,zJ,⟨rfl,fun m c z=>by simp at z⟩,(fun m f z=>by simp at z),T1.kp sDL,Sm.of sDL,zc _⟩ (fun j σ H2 _ ⟨_,_,_,_,_,_,_,_,_,_,_,_,_,_,s2,_⟩=>SqT.of (s2 _ _ (zAU.neT T1.at_ (tup1 _ _ hbt)) (tup1 _ _ hbt))) ?turn2 ?after2⟩
    case after2=>
     rintro σ H2 ⟨v7,v8,v9,v10,v11,v12,cs,fs,rfl,hfs,hDL2,EF,hF,T2,s2,_⟩
     rw[zB,EA.1] at hfs T2
     have hD2:=s2 _ _ nD.1 hD1
     refine⟨_,rfl,.inl ⟨rfl,_,SqL.of hD2⟩,_,rfl,DL,_,rfl,.inl ⟨SqL.of hDL2,fun c hc=>?_⟩⟩
     have sc:=zG (o:=.tup (cs.map V.ref)) hc
     have hD3:=sc _ _ hD2
     have LC:zB6 (upd H2 c (.tup (cs.map V.ref))) c fs:=⟨cs,zJ,EF.keep fun b' us z=>sc _ _ z,by omega⟩
     generalize upd H2 c (.tup (cs.map V.ref))=H3 at sc hD3 LC ⊢
     refine⟨D,_,_,rfl,rfl,hD3,by rw[zB,LB.1];exact zAd (by omega),?_⟩
     have kp:∀x us,H3 x=some (.tup us)->(upd H3 D (.lst (bs.map V.ref++[.ref c]))) x=some (.tup us):=fun x us z=>by rw[zZ (zA5 z hD3 (by intro w;cases w))];exact z
     have s13:Sm t H1 H3:=s2.trans (Sm.of sc)
     refine⟨_,_,_,_,_,_,_,_,bs++[c],fss++[fs],rfl,by rw[zI,hfl'];rfl,by rw[zQ];exact zJ,((LB.keep fun x us z=>s13 _ _ (zAU.neT T1.at_ z) z).keep kp).snoc (LC.keep kp),LM'.snoc hfl' (LMq.like hfs hF),((T2.kp sc).ch nD.1 nD.2).up (by omega),(s1.trans s13).chg hD⟩
    case turn2=>
     rintro j y σ H2 hj ⟨v7,v8,v9,v10,v11,v12,cs,fs,rfl,hfs,hDL2,EF,hF,T2,s2,hjl⟩
     obtain⟨c,e,rfl,he,hc⟩:=EA.at hj
     have hem:=zS he
     have tup2:∀x us,H x=some (.tup us)->H2 x=some (.tup us):=fun x us z=>s2 _ _ (zAU.neT T1.at_ (tup1 _ _ z)) (tup1 _ _ z)
     have hjl2:=(zE.mp he).1
     refine⟨c,_,rfl,SqT.of (tup2 _ _ hc),rfl,_,_,rfl,_,_,rfl,_,_,rfl,_,_,rfl,rfl,?_⟩
     refine⟨D,DL,q,e,_,_,_,rfl,T2,by omega,W.keepT tup2,FR.sm T.at_ (s1.trans s2),by omega,(LMq.rng e hem).1,(LMq.rng e hem).2,LMq.rch e hem,LMq.zero e hem,LMq.ud e hem,fun u d w11 w12 H3 udf s3 T3=>?_⟩
     have hDL3:=s3 _ _ nDL.1 hDL2
     refine⟨_,rfl,.inl ⟨rfl,_,SqL.of hDL3⟩,_,rfl,_,rfl,_,rfl,_,rfl,by show 4<=sizeLine;decide,fun x hx=>?_⟩
     have sx:=zG (o:=.tup [.int e.h,.int e.l,oV u,oV d]) hx
     have hDL4:=sx _ _ hDL3
     refine⟨DL,_,_,rfl,rfl,hDL4,by rw[zB,EF.1];exact zAd (by omega),?_⟩
     have nx:x≠DL:=fun z=>by rw[z,hDL3] at hx;cases hx
     have kp:∀x' us,H3 x'=some (.tup us)->(upd (upd H3 x (.tup [.int e.h,.int e.l,oV u,oV d])) DL (.lst (cs.map V.ref++[.ref x]))) x'=some (.tup us):=fun x' us z=>by
      rw[zZ (zA5 z hDL3 (by intro w;cases w))]
      exact sx _ _ z
     refine⟨_,_,_,_,_,_,cs++[x],fs++[⟨e.h,e.l,u,d⟩],rfl,by rw[zI,hfs];rfl,by rw[zQ];exact zJ,((EF.keep fun x' us z=>s3 _ _ (zAU.neT T2.at_ z) z).keep kp).snoc ?_,fun m f' hf'=>?_,((T3.kp sx).ch nDL.1 nDL.2).up (by omega),((s2.trans s3).trans (Sm.of sx)).chg hDL,hjl2⟩
     . rw[zZ nx];exact zJ
     . by_cases cm:m<fs.length
       . rw[zN cm] at hf'
         exact hF m f' hf'
       . rw[zM (by omega)] at hf'
         cases hz:m-fs.length with
         | zero=>
          rw[hz] at hf'
          have e1:(⟨e.h,e.l,u,d⟩:En)=f':=by simpa using hf'
          subst e1
          exact⟨e,by rw[show m=j by omega];exact he,rfl,rfl,udf⟩
         | succ z=>rw[hz] at hf';simp at hf'
end
noncomputable def KP (kvs:List (List Key×V)):Prop:=∃ks:List (List Int),kvs.map (·.1)=ks.map (List.map Sum.inl)/\∀k∈ks,∃a b:Int,k=[a,b]
theorem KP.nil:KP []:=⟨[],rfl,fun k h=>by simp at h⟩
theorem KP.put {z:Int}{v:V}(h:KP kvs):KP (zCP kvs [Sum.inl x,Sum.inl z] v):=by
 obtain⟨ks,h1,h2⟩:=h
 unfold zCP
 split
 . refine⟨ks,?_,h2⟩
   rw[<-h1,zAZ]
   refine zBb fun kv _=>?_
   show (if kv.1=_ then (kv.1,v) else kv).1=kv.1
   split <;> rfl
 . refine⟨ks++[[x,z]],by rw[zQ,zQ,h1];rfl,fun k hk=>?_⟩
   rcases zu.mp hk with q | q
   . exact h2 k q
   . exact⟨x,z,by simpa using q⟩
noncomputable def zKA:Sp:=fun vs H Q _=>∃(wa:Addr)(n:Int)(ts:List T3),vs=[.ref wa]/\zBh H wa n ts/\∀(d:Addr)(kvs:List (List Key×V))(H':Hp),zA1 H H'->H' d=some (.dT kvs)->PD ts kvs->kvs.length<=2*ts.length->KP kvs->Q (.ref d) H'
noncomputable def pcV (pcs:List (En×Addr)):List (Key×V):=pcs.map fun x=>(Sum.inl x.1.h,V.ref x.2)
structure DE (H:Hp)(d:Addr)(pcs:List (En×Addr)):Prop where
 dct:H d=some (.dK (pcV pcs))
 ent:∀x∈pcs,H x.2=some (.tup (eV x.1))
variable {pcs:List (En×Addr)}
theorem zJ3 (h:Int):zBv (pcV pcs) (Sum.inl h)=(pcs.find? fun x=>decide (x.1.h=h)).map fun x=>V.ref x.2:=by
 unfold zBv pcV
 rw[List.find?_map,Option.map_map]
 have:((fun kv:Key×V=>decide (kv.1=Sum.inl h))∘fun x:En×Addr=>((Sum.inl x.1.h:Key),V.ref x.2))=fun x=>decide (x.1.h=h):=by
  funext x
  show decide ((Sum.inl x.1.h:Key)=Sum.inl h)=_
  by_cases c:x.1.h=h
  . rw[zV c,zV (by rw[c])]
  . rw[ze c,ze (by intro z;injection z with z;exact c z)]
 rw[this]
 rfl
theorem zE8 (hm:h∈pcs.map (·.1.h)):∃x∈pcs,x.1.h=h/\zBv (pcV pcs) (Sum.inl h)=some (.ref x.2):=by
 obtain⟨x0,hx0,e0⟩:=zi.mp hm
 rw[zJ3]
 cases e:pcs.find? fun x=>decide (x.1.h=h) with
 | none=>exact absurd (zV e0) (by simpa using List.find?_eq_none.mp e x0 hx0)
 | some x=>exact⟨x,List.mem_of_find?_eq_some e,of_decide_eq_true (List.find?_some (p:=fun x:En×Addr=>decide (x.1.h=h)) e),rfl⟩
theorem val_no (hm:h∉pcs.map (·.1.h)):zBv (pcV pcs) (Sum.inl h)=none:=by
 rw[zJ3,List.find?_eq_none.mpr fun x hx z=>hm (zi.mpr ⟨x,hx,of_decide_eq_true z⟩)]
 rfl
theorem zEx (pcs:List (En×Addr)):(pcV pcs).map (·.1)=(pcs.map (·.1.h)).map Sum.inl:=by
 unfold pcV
 rw[zAZ,zAZ]
 rfl
structure LU (ts:List T3)(n:Int)(v B:Int)(es:List En):Prop where
 nd:(es.map (·.h)).Nodup
 rng:∀e∈es,0<=e.h/\e.h<n
 nn:∀e∈es,0<=e.l/\e.l<=B
 own:∃e∈es,e.h=v
 zero:∀e∈es,e.l=0↔e.h=v
 rch:∀e∈es,∃d,WM.IsD ts v e.h d
 ud:∀e∈es,UD e
theorem LM.lu (h:LM ts n v B es):LU ts n v B es:=⟨by rw[List.Nodup,zAW];exact h.hub.imp fun z=>by omega,h.rng,h.nn,h.own,h.zero,h.rch,h.ud⟩
theorem nd_len:∀(m:Nat)(l:List Nat),l.Nodup->(∀x∈l,x<m)->l.length<=m
 | 0,l,_,h=>by
  cases l with
  | nil=>exact zL _
  | cons x r=>exact absurd (h x zl) (zBw _)
 | m+1,l,nd,h=>by
  by_cases c:m∈l
  . have:=nd_len m (l.erase m) (nd.erase m) fun x hx=>by
     have h1:=(nd.mem_erase_iff).mp hx
     have h2:=h x h1.2
     have h3:=h1.1
     omega
    rw[List.length_erase_of_mem c] at this
    omega
  . have:=nd_len m l nd fun x hx=>by
     have h2:=h x hx
     have:x≠m:=fun z=>c (z ▸ hx)
     omega
    omega
theorem LU.len (h:LU ts n v B es)(hn:n<=24):es.length<=24:=by
 have:=nd_len n.toNat ((es.map (·.h)).map Int.toNat) (by
  rw[List.Nodup,zAW]
  refine h.nd.imp_of_mem fun {a b} ha hb z=>?_
  obtain⟨x,hx,rfl⟩:=zi.mp ha
  obtain⟨y,hy,rfl⟩:=zi.mp hb
  have h1:=h.rng x hx
  have h2:=h.rng y hy
  intro e
  exact z (by omega)) (fun x hx=>by
  obtain⟨a,ha,rfl⟩:=zi.mp hx
  obtain⟨y,hy,rfl⟩:=zi.mp ha
  have:=h.rng y hy
  omega)
 rw[zB,zB] at this
 omega
theorem LM.of_sorted {fs:List En}{ms:List Int}(L:LU ts n v B es)(hl:fs.length=ms.length)(pm:ms.Perm (es.map (·.h)))(st:ms.Pairwise (· <= ·))(hE:∀(m:Nat)(e:En),fs[m]? = some e->ms[m]? = some e.h/\e∈es):LM ts n v B fs:=by
 have nd:ms.Nodup:=pm.nodup_iff.mpr L.nd
 have mem:∀f∈fs,f∈es:=fun f hf=>by
  obtain⟨m,hm,em⟩:=zd hf
  exact (hE m f (by rw[zA hm,em])).2
 refine⟨zAC.mpr fun a b ha hb hab=>?_,fun f hf=>L.rng f (mem f hf),fun f hf=>L.nn f (mem f hf),?_,fun f hf=>L.zero f (mem f hf),fun f hf=>L.rch f (mem f hf),fun f hf=>L.ud f (mem f hf)⟩
 . have e1:=(hE a fs[a] (zA ha)).1
   have e2:=(hE b fs[b] (zA hb)).1
   obtain⟨i1,e1'⟩:=zE.mp e1
   obtain⟨i2,e2'⟩:=zE.mp e2
   have h1:=zAC.mp st a b i1 i2 hab
   have h2:ms[a]≠ms[b]:=fun z=>by
    have:=(List.getElem_inj nd).mp z
    omega
   omega
 . obtain⟨o,ho,eo⟩:=L.own
   have hv:v∈ms:=pm.mem_iff.mpr (zi.mpr ⟨o,ho,eo⟩)
   obtain⟨m,hm,em⟩:=zd hv
   have hmf:m<fs.length:=by omega
   have:=(hE m fs[m] (zA hmf)).1
   rw[zA hm,em] at this
   exact⟨fs[m],zAX hmf,(zR this).symm⟩
theorem LU.put (L:LU ts n v B es)(h0:0<=e.h/\e.h<n)(hl:0<e.l/\e.l<=B)(hn:e.h∉es.map (·.h))(hr:∃d,WM.IsD ts v e.h d)(ue:UD e):LU ts n v B (es++[e]):=by
 have hv:e.h≠v:=fun z=>by
  obtain⟨o,ho,eo⟩:=L.own
  exact hn (zi.mpr ⟨o,ho,by omega⟩)
 have cs:∀{P:En->Prop},(∀x∈es,P x)->P e->∀x∈es++[e],P x:=fun h1 h2 x hx=>by
  rcases zu.mp hx with z | z
  . exact h1 x z
  . rw[zk.mp z];exact h2
 obtain⟨o,ho,eo⟩:=L.own
 refine⟨?_,cs L.rng h0,cs L.nn ⟨by omega,hl.2⟩,⟨o,zAE _ ho,eo⟩,cs L.zero ⟨fun z=>by omega,fun z=>absurd z hv⟩,cs L.rch hr,cs L.ud ue⟩
 rw[zQ]
 exact List.nodup_append.mpr ⟨L.nd,by simp,fun a ha b hb z=>by
  rw[zk.mp hb] at z
  exact hn (by rw[show e.h=a from z.symm];exact ha)⟩
theorem LU.mono (h:LU ts n v B es)(c:B<=C):LU ts n v C es:=⟨h.nd,h.rng,fun e he=>by have:=h.nn e he;omega,h.own,h.zero,h.rch,h.ud⟩
section
variable {P:Program}{w:World}{K:PySem.W.Frag}{mg:Str->Option Value}{base:Heap}
theorem zLF (F:Fun K "_law_joined" "_law_joined" zKs f fd'):zAq P w K mg base CX0 1 f fd' ["_law_web_here"] zKA:=by
 refine F.ok zEA (fun vs H Q E h=>?_) (fun cdv A outer s H vs Q E hr h=>?_)
 . obtain⟨wa,n,ts,rfl,_⟩:=h
   rfl
 . obtain⟨wa,n,ts,rfl,W,k⟩:=h
   obtain⟨ta,tys,hwa,hta,TA,G⟩:=id W
   have hlt:tys.length=ts.length:=by rw[TA.length,zB]
   have hu:=zDv hr
   refine⟨_,zW (zAN (i:=1) zEA.nd rfl (Or.inl rfl) zEq)
    (zW (zBk PassesOwn.never rfl (zBu (zAH zAr (pv 0) zAA (fun _ _=>rfl))) (zCf rfl (zAK (zr (i:=2) zEA.nd rfl (Or.inl rfl)) (zAK (zr (i:=3) zEA.nd rfl (Or.inl rfl)) (zAK (zr (i:=4) zEA.nd rfl (Or.inl rfl)) zCB))))
     (zW (zCe hu (pv 1) (zBC (zF (pv 2) (zF (pv 3) zT))) (pv 4) rfl) (zn (zCe hu (pv 1) (zBC (zF (pv 3) (zF (pv 2) zT))) (pv 4) rfl))))
    (zn (zAb (pv 1)))),?_⟩
   intro d hd
   refine⟨_,rfl,wa,_,_,_,rfl,rfl,SqT.of (zG hd _ _ hwa),rfl,ta,rfl,⟨_,SqT.of (zG hd _ _ hta)⟩,zDD (K:=K) (a:=ta) (xs:=tys)
    (fun j σ H5=>∃(v2 v3 v4:Option V)(kvs:List (List Key×V)),σ=[some (.ref wa),some (.ref d),v2,v3,v4]/\zA1 H H5/\H5 d=some (.dT kvs)/\kvs.length<=2*j/\PD (ts.take j) kvs/\KP kvs)
    ⟨_,_,_,[],rfl,zG hd,zJ,zL _,PD.nil,KP.nil⟩ (fun j σ H5 _ ⟨_,_,_,_,_,s5,_⟩=>SqT.of (s5 _ _ hta)) ?turn1 ?after1⟩
   case turn1=>
    rintro j y σ H5 hj ⟨v2,v3,v4,kvs,rfl,s5,hd5,hkl,pd,kp⟩
    obtain⟨ya,ky,rfl,hky,hya,_⟩:=TA.get hj
    rw[zO] at hky
    obtain⟨⟨x,z,c⟩,htj,rfl⟩:∃t:T3,ts[j]? = some t/\tl t=ky:=by
     cases e:ts[j]? with
     | none=>rw[e] at hky;cases hky
     | some t=>rw[e] at hky;exact⟨t,rfl,zR hky⟩
    have hjl:j<ts.length:=(zE.mp htj).1
    have h64:=G.len
    refine⟨ya,_,rfl,SqT.of (s5 _ _ hya),rfl,_,_,rfl,_,_,rfl,_,_,rfl,rfl,?_⟩
    refine⟨_,rfl,_,rfl,_,rfl,_,rfl,by show 2<=sizeLine;decide,fun p hp=>?_⟩
    refine⟨d,_,rfl,zGr.t (k:=[Sum.inl x,Sum.inl z]) (zG hp _ _ hd5) zJ (zAL (by omega)),?_⟩
    refine⟨_,rfl,_,rfl,_,rfl,_,rfl,by show 2<=sizeLine;decide,fun p2 hp2=>?_⟩
    refine⟨d,_,rfl,zGr.t (k:=[Sum.inl z,Sum.inl x]) (zG hp2 _ _ zJ) zJ (zAL (zy (zBG _ _ _) (by omega))),?_⟩
    refine⟨_,_,_,_,rfl,?_,zJ,zy (zBG _ _ _) (zy (Nat.succ_le_succ (zBG _ _ _)) (by omega)),?_,(kp.put).put⟩
    . have a1:zA1 H (upd (upd H5 p (.tup [.int x,.int z])) d (.dT (zCP kvs [Sum.inl x,Sum.inl z] (.int c)))):=zAF (s5.trans (zG hp)) hd
      exact zAF (a1.trans (zG hp2)) hd
    . rw[zAI,htj]
      refine PD.put G (post:=ts.drop (j+1)) ?_ pd
      have e1:ts.drop j=(x,z,c)::ts.drop (j+1):=by
       rw[List.drop_eq_getElem_cons hjl]
       rw[zA hjl] at htj
       rw[zR htj]
      rw[<-e1,List.take_append_drop]
   case after1=>
    rintro σ H5 ⟨v2,v3,v4,kvs,rfl,s5,hd5,hkl,pd,kp⟩
    rw[hlt,zf (zL _)] at pd
    exact⟨_,rfl,k d kvs H5 s5 hd5 pd (by rw[hlt] at hkl;exact hkl) kp⟩
end
structure LD (H:Hp)(ds:List Addr)(pss:List (List (En×Addr))):Prop where
 ln:ds.length=pss.length
 nd:ds.Nodup
 at_:∀(i:Nat)(d:Addr),ds[i]? = some d->∃pcs,pss[i]? = some pcs/\DE H d pcs
theorem DE.keep {d:Addr}(h:DE H d pcs)(k1:H d=some (.dK (pcV pcs))->H' d=some (.dK (pcV pcs)))(k:∀b ys,H b=some (.tup ys)->H' b=some (.tup ys)):DE H' d pcs:=⟨k1 h.dct,fun x hx=>k _ _ (h.ent x hx)⟩
theorem LD.keep {H H':Hp}{ds:List Addr}{pss:List (List (En×Addr))}(h:LD H ds pss)(k1:∀d kvs,d∈ds->H d=some (.dK kvs)->H' d=some (.dK kvs))(k:∀b ys,H b=some (.tup ys)->H' b=some (.tup ys)):LD H' ds pss:=
 ⟨h.ln,h.nd,fun i d e=>let ⟨pcs,e1,e2⟩:=h.at_ i d e;⟨pcs,e1,e2.keep (k1 d _ (zS e)) k⟩⟩
noncomputable def LUs (ts:List T3)(n:Int)(Bf:Nat->Int)(pss:List (List (En×Addr))):Prop:=∀(i:Nat)(pcs:List (En×Addr)),pss[i]? = some pcs->LU ts n i (Bf i) (pcs.map (·.1))
noncomputable def zEh:Sp:=fun vs H Q _=>∃(t p wa fl l:Addr)(N:Nat)(n:Int)(ts:List T3)(M:List (List (Option Int)))(ess:List (List En)),vs=[.ref t,.ref wa,.ref fl,.ref l]/\zBd H t p N/\N<400000/\zBh H wa n ts/\n<=6/\zCQ H fl n ts M/\zBF H l ess/\ess.length=n.toNat/\LMs ts n 2376 ess /\
 ∀(l':Addr)(fss:List (List En))(H':Hp),zBF H' l' fss->fss.length=n.toNat->LMs ts n 20000 fss->zBd H' t p (N+10000)->Sm t H H'->Q (.ref l') H'
noncomputable def prN (t:T3):Nat:=(t.2.1*(t.2.1-1)/2+t.1).toNat
theorem zJC (G:GW n ts)(hn:n<=6):ts.length<=15:=by
 have key:∀a b:Int,0<=a->a<b->b<6->(b=1\/b=2\/b=3\/b=4\/b=5):=fun a b _ _ _=>by omega
 have val:∀t∈ts,(t.2.1=1/\prN t=t.1.toNat)\/(t.2.1=2/\prN t=1+t.1.toNat)\/(t.2.1=3/\prN t=3+t.1.toNat)\/(t.2.1=4/\prN t=6+t.1.toNat)\/(t.2.1=5/\prN t=10+t.1.toNat):=fun t ht=>by
  have r:=G.rng t ht
  unfold prN
  rcases key t.1 t.2.1 r.1 r.2.1 (by omega) with h | h | h | h | h <;> rw[h]
  . exact .inl ⟨rfl,by rw[show (1:Int)*(1-1)/2=0 from rfl];omega⟩
  . exact .inr (.inl ⟨rfl,by rw[show (2:Int)*(2-1)/2=1 from rfl];omega⟩)
  . exact .inr (.inr (.inl ⟨rfl,by rw[show (3:Int)*(3-1)/2=3 from rfl];omega⟩))
  . exact .inr (.inr (.inr (.inl ⟨rfl,by rw[show (4:Int)*(4-1)/2=6 from rfl];omega⟩)))
  . exact .inr (.inr (.inr (.inr ⟨rfl,by rw[show (5:Int)*(5-1)/2=10 from rfl];omega⟩)))
 have:=nd_len 15 (ts.map prN) (by
  rw[List.Nodup,zAW]
  refine G.dis.imp_of_mem fun {a b} ha hb z e=>z ?_
  have r1:=G.rng a ha
  have r2:=G.rng b hb
  rcases val a ha with v | v | v | v | v <;> rcases val b hb with u | u | u | u | u <;> (constructor <;> omega)) (fun x hx=>by
  obtain⟨t,ht,rfl⟩:=zi.mp hx
  have r:=G.rng t ht
  rcases val t ht with v | v | v | v | v <;> omega)
 rwa [zB] at this
theorem zKS {κ:Type} [DecidableEq κ] {kvs:List (κ×V)}{k:κ}(h:k∈kvs.map (·.1)):∃v,zBv kvs k=some v:=by
 obtain⟨x,hx,e⟩:=zi.mp h
 unfold zBv
 cases c:kvs.find? fun kv=>decide (kv.1=k) with
 | none=>exact absurd (zV e) (by simpa using List.find?_eq_none.mp c x hx)
 | some y=>exact⟨y.2,rfl⟩
structure LgI (H:Hp)(t p pd fo:Addr)(kvs:List (List Key×V))(ds:List Addr)(n:Int)(ts:List T3)(N:Nat)(C:Int)(H1:Hp):Prop where
 tp:zBd H1 t p N
 sm:Sm t H H1
 pr:H1 pd=some (.dT kvs)
 fo:H1 fo=some (.lst (ds.map V.ref))
 ld:∃pss,LD H1 ds pss/\pss.length=n.toNat/\LUs ts n (fun _=>C) pss
section
variable {H H1 H2:Hp}{t p pd fo:Addr}{kvs:List (List Key×V)}{ds:List Addr}{n:Int}{ts:List T3}{N M:Nat}{C D:Int}
theorem LgI.same (h:LgI H t p pd fo kvs ds n ts N C H1)(s:zA1 H1 H2):LgI H t p pd fo kvs ds n ts N C H2:=by
 obtain⟨pss,a,b,c⟩:=h.ld
 exact⟨h.tp.kp s,h.sm.trans (Sm.of s),s _ _ h.pr,s _ _ h.fo,pss,a.keep (fun d u _ e=>s _ _ e) (fun b u e=>s _ _ e),b,c⟩
theorem LgI.up (h:LgI H t p pd fo kvs ds n ts N C H1)(l:N<=M)(c:C<=D):LgI H t p pd fo kvs ds n ts M D H1:=by
 obtain⟨pss,a,b,e⟩:=h.ld
 exact⟨h.tp.up l,h.sm,h.pr,h.fo,pss,a,b,fun i pcs z=>(e i pcs z).mono c⟩
theorem zBd.nR (h:zBd H t p N)(hb:H b=some (.lst (rs.map V.ref))):b≠t:=fun z=>by
 obtain⟨ns,spot,rest,a,_⟩:=h
 rw[z,a] at hb
 injection hb with hb;injection hb with hb
 match rs,hb with
 | [],hb=>simp at hb
 | [_],hb=>simp at hb
 | _::_::_,hb=>simp at hb
theorem zBd.nt {o:HO}(h:zBd H t p N)(hb:H b=some o)(ho:∀xs,o ≠ .lst xs):b≠t:=fun z=>by
 obtain⟨ns,spot,rest,a,_⟩:=h
 rw[z,a] at hb
 exact ho _ (zR hb).symm
theorem DE.draw {d:Addr}(h:DE H1 d pcs)(T:zBd H1 t p N)(he:∀b,b≠t->H2 b=H1 b):DE H2 d pcs:=
 h.keep (fun e=>by rw[he _ (T.nt e (by intro xs z;cases z))];exact e) fun b ys e=>by rw[he _ (T.nt e (by intro xs z;cases z))];exact e
theorem LgI.draw (h:LgI H t p pd fo kvs ds n ts N C H1)(T:zBd H2 t p (N+1))(he:∀b,b≠t->H2 b=H1 b):LgI H t p pd fo kvs ds n ts (N+1) C H2:=by
 obtain⟨pss,a,b,c⟩:=h.ld
 refine⟨T,h.sm.trans (zFE he),by rw[he _ (h.tp.nt h.pr (by intro xs z;cases z))];exact h.pr,by rw[he _ (h.tp.nR h.fo)];exact h.fo,pss,⟨a.ln,a.nd,fun i d e=>?_⟩,b,c⟩
 obtain⟨pcs,e1,e2⟩:=a.at_ i d e
 exact⟨pcs,e1,e2.draw h.tp he⟩
theorem LgI.put (h:LgI H t p pd fo kvs ds n ts N C H1){d x:Addr}{a:Nat}{e:En}{pss:List (List (En×Addr))}{pcs:List (En×Addr)}(L:LD H1 ds pss)(hl:pss.length=n.toNat)(U:LUs ts n (fun _=>C) pss)(hd:ds[a]? = some d)(hp:pss[a]? = some pcs)(hd0:H d=none)(n1:d≠t)(n2:d≠p)
 (hx:H1 x=some (.tup (eV e)))(h0:0<=e.h/\e.h<n)(hll:0<e.l/\e.l<=C)(hn:e.h∉pcs.map (·.1.h))(hr:∃q,WM.IsD ts a e.h q)(ue:UD e):LgI H t p pd fo kvs ds n ts N C (upd H1 d (.dK (pcV (pcs++[(e,x)])))):=by
 obtain⟨pcs',e1,DEd⟩:=L.at_ a d hd
 rw[hp] at e1
 cases e1
 have hdd:=DEd.dct
 have kt:∀b ys,H1 b=some (.tup ys)->(upd H1 d (.dK (pcV (pcs++[(e,x)])))) b=some (.tup ys):=fun b ys z=>by rw[zZ (zA5 z hdd (by intro w;cases w))];exact z
 have ha:a<pss.length:=(zE.mp hp).1
 refine⟨h.tp.ch n1 n2,h.sm.chg hd0,by rw[zZ (zA5 h.pr hdd (by intro w;cases w))];exact h.pr,by rw[zZ (zA5 h.fo hdd (by intro w;cases w))];exact h.fo,pss.set a (pcs++[(e,x)]),⟨by rw[zAg];exact L.ln,L.nd,fun i d' hd'=>?_⟩,by rw[zAg];exact hl,fun i qs hq=>?_⟩
 . by_cases c:i=a
   . subst c
     rw[hd] at hd'
     cases hd'
     refine⟨pcs++[(e,x)],by rw[zA2 ha],zJ,fun y hy=>?_⟩
     rcases zu.mp hy with z | z
     . exact kt _ _ (DEd.ent y z)
     . rw[zk.mp z];exact kt _ _ hx
   . obtain⟨qs,q1,q2⟩:=L.at_ i d' hd'
     have nd':d'≠d:=fun z=>by
      subst z
      obtain⟨i1,e1⟩:=zE.mp hd
      obtain⟨i2,e2⟩:=zE.mp hd'
      exact c ((List.getElem_inj L.nd).mp (e2.trans e1.symm))
     exact⟨qs,by rw[zBO (Ne.symm c)];exact q1,q2.keep (fun z=>by rw[zZ nd'];exact z) kt⟩
 . by_cases c:i=a
   . subst c
     rw[zA2 ha] at hq
     cases hq
     have:=U i pcs hp
     rw[zQ]
     exact this.put h0 hll (by rw[zAZ];exact hn) hr ue
   . rw[zBO (Ne.symm c)] at hq
     exact U i qs hq
end
section
variable {X:Cx}{pl:List (Addr×Obj)}{N':List Str}{sc:Scope}{yc:Str}{fp:List Addr}{s3:Shared}{H3:Hp}{tg:Expr}
theorem zK1 {l:Expr}{tl:TE}(hl:PE (zBM X pl N' sc fp s3 H3) l tl):PI (zBM X pl N' sc fp s3 H3) tg l (iTup X.K tl):=zBu hl
theorem zJm {pl':List (Addr×Obj)}{N2:List Str}{sc':Scope}{fp':List Addr}{s3':Shared}{H3':Hp}:IxR (zBM (zBM X pl N' sc fp s3 H3) pl' N2 sc' fp' s3' H3') (rIxT X.K):=zAr
theorem zGE (hc:X.calm=true):zCn (zBM X pl N' sc fp s3 H3) (.type "dict") (fun xs H Q=>∃l ys ps,xs=[.ref l]/\SqL X.K H l ys/\zGq H ys ps/\∀d,H d=none->Q (.ref d) (upd H d (.dK (zDI ps)))):=zCq (X:=zBM X pl N' sc fp s3 H3) hc
theorem zD3:zCn (zBg X pl N' sc yc fp s3 H3) (.type "tuple") (fun xs H Q=>∃p ys,xs=[.ref p]/\((SqL X.K H p ys/\∀l,H l=none->Q (.ref l) (upd H l (.tup ys)))\/(SqT X.K H p ys/\Q (.ref p) H))):=zAJ
theorem zH1 {l:Expr}{tl:TE}(hl:PE (zBg X pl N' sc yc fp s3 H3) l tl):PI (zBg X pl N' sc yc fp s3 H3) tg l (iList X.K tl):=zCE hl
end
noncomputable def SmD (t:Addr)(H H':Hp):Prop:=∀b o,b≠t->(∀kvs,o ≠ .dK kvs)->H b=some o->H' b=some o
theorem SmD.tr {t:Addr}(a:SmD t H H1)(b:SmD t H1 H2):SmD t H H2:=fun c o n d e=>b c o n d (a c o n d e)
theorem Sm.d {t:Addr}(a:Sm t H H1):SmD t H H1:=fun c o n _ e=>a c o n e
theorem SmD.tu {t:Addr}(a:SmD t H H1)(n:b≠t)(e:H b=some (.tup xs)):H1 b=some (.tup xs):=a b _ n (by intro k z;cases z) e
theorem SmD.ls {t:Addr}(a:SmD t H H1)(n:b≠t)(e:H b=some (.lst xs)):H1 b=some (.lst xs):=a b _ n (by intro k z;cases z) e
theorem nd_pc (h:(pcs.map (·.1.h)).Nodup):((pcV pcs).map (·.1)).Nodup:=by
 rw[zEx,List.Nodup,zAW]
 exact h.imp fun z w=>z (by injection w)
section
variable {P:Program}{w:World}{K:PySem.W.Frag}{mg:Str->Option Value}{base:Heap}
theorem zCY:zAR ["_law_tape_here", "_law_web_here", "_law_far_here", "_law_labels_here", "_law_pairs", "_law_found", "_law_pair", "_law_hub", "_law_long", "_law_downs"] ["_law_tape_here", "_law_web_here", "_law_far_here", "_law_labels_here"] (defScope zDd):=⟨rfl,rfl,rfl,by decide +kernel,rfl,by decide +kernel,by decide +kernel⟩
theorem zIB (F:Fun K "_law_longer" "_law_longer" zDd f fd') (FD:Fun K "_law_draw" "_law_draw" zEB fD fdD) (bD:zAP K fdD ["_law_tape_here", "_law_many"] []) (mD:mg "_law_draw" = some (.ref fD)) (GD:zAq P w K mg base CX0 2 fD fdD ["_law_tape_here", "_law_many"] zDa)
 (FJ:Fun K "_law_joined" "_law_joined" zKs fJ fdJ) (bJ:zAP K fdJ ["_law_web_here"] []) (mJ:mg "_law_joined" = some (.ref fJ))
 (mLen:mg "len" = none) (mRange:mg "range" = none) (mTuple:mg "tuple" = none) (mDict:mg "dict" = none) (mSorted:mg "sorted" = none):zAq P w K mg base CX0 3 f fd' ["_law_tape_here", "_law_web_here", "_law_far_here", "_law_labels_here"] zEh:=by
 have GJ:zAq P w K mg base CX0 2 fJ fdJ ["_law_web_here"] zKA:=(zLF FJ).mono (by decide)
 refine F.ok zCY (fun vs H Q E h=>?_) (fun cdv A outer s H vs Q E hr h=>?_)
 . obtain⟨t,p,wa,fl,l,N,n,ts,M,ess,rfl,_⟩:=h
   rfl
 . obtain⟨t,p,wa,fl,l,N,n,ts,M,ess,rfl,T,hN,W,hn6,FR,LL,hel,LMM,k⟩:=h
   obtain⟨ta,tys,hwa,hta,TA,G⟩:=id W
   have hn1:=G.n1
   have hn24:=G.n24
   have hu:=zDv hr
   have hu0:=hr.units0
   obtain⟨as,hl,hal,hA⟩:=id LL
   have h15:=zJC G hn6
   refine⟨_,zW (zAN (i:=4) zCY.nd rfl (Or.inr rfl) (zx GJ hr rfl mJ FJ.kp bJ .nil zAl (zF (pv 1) zT)))
    (zW (zCZ (i:=5) (own:=["_law_label"]) (cn:=[]) (ci:=[]) zCY.nd rfl (Or.inl rfl) rfl (csc rfl rfl) trivial rfl (zBu (pv 3)) (fun _ _ _ _=>zr (i:=0) (zBJ rfl) rfl (Or.inl rfl)) (fun _ _ _ _=>zBK)
     (fun _ _ _ _=>zAf (zGE rfl) (by rfl) mDict (by decide +kernel) (zF
      (zBA (own:=["_law_entry_here"]) (cn:=[]) (ci:=[]) rfl (csc rfl rfl) trivial rfl (zK1 (pv 0)) (fun _ _ _ _=>zr (i:=0) (zBJ rfl) rfl (Or.inl rfl))
       (fun _ _ _ _=>zBK) (fun _ _ _ _=>zBC (zF (zAH zJm (pv 0) zAA (fun _ _=>rfl)) (zF (pv 0) zT)))) zT)))
    (zW (zBk PassesOwn.never rfl (zCE (zAV (zDM rfl) (by rfl) mSorted (by decide +kernel) (zF (pv 4) zT))) (zr (i:=6) zCY.nd rfl (Or.inr rfl))
     (zn (zBk PassesOwn.never rfl (zCE (zAV (zCT rfl) (by rfl) mSorted (by decide +kernel) (zF (zAH zAO (pv 5) (zAH zAr (pv 6) zAA (fun _ _=>rfl)) (fun _ _=>rfl)) zT))) (zr (i:=7) zCY.nd rfl (Or.inr rfl))
      (zW (zAN (i:=8) zCY.nd rfl (Or.inr rfl) (zBc zCO (zAH zAr (zCa hu (zAH zAO (pv 5) (zAH zAr (pv 6) zAA (fun _ _=>rfl)) (fun _ _=>rfl)) (pv 7) (fun _ _=>rfl)) zAA (fun _ _=>rfl)) (zCa hu (pv 4) (pv 6) (fun _ _=>rfl))))
      (zW (zCZ (i:=9) (own:=["_law_y"]) (cn:=["_law_hub", "_law_pairs", "_law_far_here", "_law_pair", "_law_long"]) (ci:=[7,4,2,6,8]) zCY.nd rfl (Or.inl rfl) rfl (csc rfl rfl) ⟨rfl,rfl,rfl,rfl,rfl,rfl,rfl,rfl,rfl,rfl,rfl,rfl,rfl,rfl,rfl,trivial⟩ rfl
       (zAm rfl mRange (zF (zAH zAr (pv 1) zAA (fun _ _=>rfl)) zT)) (fun _ _ _ _=>zr (i:=0) (zBJ rfl) rfl (Or.inl rfl))
       (fun _ _ _ _=>zB0 (PW.pt (zEK (zFR (zGa hu (zBC (zF (pv 1) (zF (pv 0) zT))) (pv 2)))
        (zDf (zAQ zCv (zAH zCR (zAH zCR (pv 3) (pv 0) (fun _ _=>rfl)) (zAH zBf (pv 4) zAA (fun _ _=>rfl)) (fun _ _=>rfl)) (zBc zKD (pv 5) (zCa hu (pv 2) (zBC (zF (pv 1) (zF (pv 0) zT))) (fun _ _=>rfl))) (zAc _))))))
       (fun _ _ _ _=>pv 0))
      (zn (zCK (PW.pt (zEK (zFR (zH5 hu (pv 7) (zAH zAO (pv 5) (zAH zAr (pv 6) zAA (fun _ _=>rfl)) (fun _ _=>rfl)))) (zEK (zAQ (zKE hu0) (pv 9) (zB1 zT) (zAc _)) (zDf (zAQ zF1 (zx GD hr rfl mD FD.kp bD .nil zAl (zF (pv 0) (zCV zT))) zAA (zAc _))))))
       (zn (zCe hu (zAH zAO (pv 5) (zAH zAr (pv 6) zAA (fun _ _=>rfl)) (fun _ _=>rfl)) (pv 7)
        (zBC (zF (pv 7) (zF (pv 8) (zF (zAH zAr (pv 6) zAA (fun _ _=>rfl)) (zF (zAH zAO (pv 9) (zx GD hr rfl mD FD.kp bD .nil zAl (zF (pv 0) (zF (zAV zBE (by rfl) mLen PySem.boot_len (zF (pv 9) zT)) zT))) (fun _ _=>rfl)) zT))))) rfl)) zA7)))))))
    (zn (zAb (zAf zAJ (by rfl) mTuple (by decide +kernel) (zF
     (zGZ (yc := "_law_here") (own:=["_law_here"]) (cn:=[]) (ci:=[]) rfl (csc1 rfl (fun _ _=>rfl) rfl rfl) trivial rfl (zCE (pv 5)) (fun _ _ _ _=>zr (i:=0) (zBJ rfl) rfl (Or.inr rfl)) (fun _ _ _ _=>zBK)
      (fun _ _ _ _=>zAf zD3 (by rfl) mTuple (by decide +kernel) (zF
       (zBA (own:=["_law_hub"]) (cn:=["_law_here"]) (ci:=[0]) rfl (csc rfl rfl) ⟨rfl,rfl,rfl,trivial⟩ rfl (zH1 (zAV (zCT rfl) (by rfl) mSorted (by decide +kernel) (zF (pv 0) zT)))
        (fun _ _ _ _=>zr (i:=0) (zBJ rfl) rfl (Or.inl rfl)) (fun _ _ _ _=>zBK) (fun _ _ _ _=>zCa hu (pv 1) (pv 0) (fun _ _=>rfl))) zT))) zT)))))),?_⟩
   refine⟨_,rfl,wa,n,ts,rfl,W,fun pd kvs H1 s1 hpd PDk hkl KPk=>?_⟩
   have T1:=T.kp s1
   have tup1:∀b ys,H b=some (.tup ys)->H1 b=some (.tup ys):=fun b ys e=>s1 _ _ e
   refine⟨_,rfl,l,rfl,⟨_,SqT.of (s1 _ _ hl)⟩,[],rfl,fun fo hfo=>?_⟩
   have nfo:=T1.nn hfo
   refine zBN (a:=l) (xs:=as.map V.ref) (fun i ys H2=>i<=ess.length/\∃(ds:List Addr)(pss:List (List (En×Addr))),ys=ds.map V.ref/\pss.length=i/\LD H2 ds pss/\(∀(j:Nat)(pcs:List (En×Addr)),pss[j]? = some pcs->ess[j]? = some (pcs.map (·.1)))/\(∀d∈ds,H1 d=none/\d≠fo)/\zA1 H1 H2/\H2 fo=some (.lst ys))
    ⟨zc _,[],[],rfl,rfl,⟨rfl,zCC,fun i d z=>by simp at z⟩,fun j pcs z=>by simp at z,fun d z=>by simp at z,zG hfo,zJ⟩ (fun i ys H2 h=>?_) (fun i ys H2 h=>?_) (fun i v ys H2 hv h=>?_) (fun ys H2 h=>?_)
   . obtain⟨_,_,_,_,_,_,_,_,s2,_⟩:=h
     exact SqT.of (s2 _ _ (s1 _ _ hl))
   . obtain⟨hi,ds,pss,rfl,hpl,L,_⟩:=h
     rw[zB,L.ln,hpl]
     exact zAd (by omega)
   . obtain⟨_,ds,pss,rfl,hpl,L,hE,hds,s2,hfo2⟩:=h
     rw[zO] at hv
     cases ha:as[i]? with
     | none=>rw[ha] at hv;cases hv
     | some a=>
     rw[ha] at hv
     cases hv
     obtain⟨es,hes,LE⟩:=hA i a ha
     have hia:=(zE.mp ha).1
     obtain⟨cs,hat,EA,_⟩:=id LE
     have LMi:=LMM i es hes
     have hesl:=LMi.len hn24
     have tup2:∀b us,H b=some (.tup us)->H2 b=some (.tup us):=fun b us e=>s2 _ _ (s1 _ _ e)
     refine⟨⟨rfl,rfl⟩,?_⟩
     refine zD8 ?_
     refine⟨_,rfl,a,rfl,⟨_,SqT.of (tup2 _ _ hat)⟩,[],rfl,fun D hD=>?_⟩
     refine zBN (a:=a) (xs:=cs.map V.ref) (fun j zs H3=>j<=es.length/\zs.length=j/\(∀(m:Nat)(y:V),zs[m]? = some y->∃c e x,y = .ref c/\es[m]? = some e/\cs[m]? = some x/\H3 c=some (.tup [.int e.h,.ref x]))/\zA1 H2 H3/\H3 D=some (.lst zs)) ⟨zc _,rfl,fun m y z=>by simp at z,zG hD,zJ⟩ (fun j zs H3 h=>?_) (fun j zs H3 h=>?_) (fun j v zs H3 hv h=>?_) (fun zs H3 h=>?_)
     . exact SqT.of (h.2.2.2.1 _ _ (tup2 _ _ hat))
     . rw[h.2.1]
       exact zAd (by have:=h.1;omega)
     . obtain⟨_,hzl,hzs,s3,hD3⟩:=h
       rw[zO] at hv
       cases hx:cs[j]? with
       | none=>rw[hx] at hv;cases hv
       | some x=>
       rw[hx] at hv
       cases hv
       obtain⟨e,he,hxe⟩:=EA.2 j x hx
       have hx3:=s3 _ _ (tup2 _ _ hxe)
       refine⟨⟨rfl,rfl⟩,?_⟩
       refine zD8 ?_
       refine⟨_,rfl,x,_,_,.int e.h,rfl,rfl,SqT.of hx3,rfl,_,rfl,by show 2<=sizeLine;decide,fun c hc=>?_⟩
       have nDc:D≠c:=zh hD3 hc
       refine⟨zG hc _ _ hD3,(zE.mp he).1,by rw[zI,hzl];rfl,fun m y hy=>?_,zAF (s3.trans (zG hc)) hD,zJ⟩
       by_cases cj:m<j
       . rw[zN (by omega)] at hy
         obtain⟨c',e',x',h1,h2,h3,h4⟩:=hzs m y hy
         refine⟨c',e',x',h1,h2,h3,?_⟩
         rw[zZ (zA5 h4 hD3 (by intro z;cases z))]
         exact zG hc _ _ h4
       . have ej:m=j:=by
          have:=(zE.mp hy).1
          rw[zI,hzl] at this
          simp at this;omega
         subst ej
         rw[zM (by omega),hzl,zAp] at hy
         have ey:V.ref c=y:=by simpa using hy
         subst ey
         exact⟨c,e,x,rfl,he,hx,by rw[zZ (Ne.symm nDc)];exact zJ⟩
     . obtain⟨_,hzl,hzs,s3,hD3⟩:=h
       rw[zB,EA.1] at hzl
       have hz1:(es.zip cs).map (·.1)=es:=List.map_fst_zip (by rw[EA.1];exact zL _)
       have hz2:∀(m:Nat)(e:En)(x:Addr),es[m]? = some e->cs[m]? = some x->(es.zip cs)[m]? = some (e,x):=fun m e x h1 h2=>List.getElem?_zip_eq_some.mpr ⟨h1,h2⟩
       have hzn:((es.zip cs).map (·.1.h)).Nodup:=by
        have:(es.zip cs).map (·.1.h)=es.map (·.h):=by
         rw[<-hz1,zAZ,hz1];rfl
        rw[this];exact LMi.lu.nd
       refine⟨D,zs,pcV (es.zip cs),rfl,SqL.of hD3,⟨?_,fun m y hy=>?_⟩,fun d hd=>?_⟩
       . unfold pcV
         rw[zB,List.length_zip,hzl,EA.1,Nat.min_self]
       . obtain⟨c,e,x,h1,h2,h3,h4⟩:=hzs m y hy
         refine⟨c,Sum.inl e.h,.ref x,h1,h4,?_⟩
         unfold pcV
         rw[zO,hz2 m e x h2 h3];rfl
       rw[zDg (nd_pc hzn)]
       have s23:zA1 H2 (upd H3 d (.dK (pcV (es.zip cs)))):=s3.trans (zG hd)
       have nfd:fo≠d:=zh (s3 _ _ hfo2) hd
       have hdd:(upd H3 d (.dK (pcV (es.zip cs)))) d=some (.dK (pcV (es.zip cs))):=zJ
       have hd1:H1 d=none:=by
        cases q:H1 d with
        | none=>rfl
        | some o=>have:=s3 _ _ (s2 _ _ q);rw[hd] at this;cases this
       have hdm:d∉ds:=fun z=>by
        obtain⟨m,hm,em⟩:=zd z
        obtain⟨pcs,_,q⟩:=L.at_ m d (by rw[zA hm,em])
        have:=s3 _ _ q.dct
        rw[hd] at this;cases this
       generalize upd H3 d (.dK (pcV (es.zip cs)))=H4 at s23 hdd ⊢
       have hfo4:=s23 _ _ hfo2
       have kp:∀(b:Addr)(o:HO),(∀us,o ≠ .lst us)->H4 b=some o->(upd H4 fo (.lst (ds.map V.ref++[.ref d]))) b=some o:=fun b o ho e=>by
        rw[zZ fun z=>by rw[z,hfo4] at e;exact ho _ (zR e).symm];exact e
       refine⟨hfo4,by omega,ds++[d],pss++[es.zip cs],by rw[zQ];rfl,by rw[zI,hpl];rfl,⟨by rw[zI,zI,L.ln];rfl,List.nodup_append.mpr ⟨L.nd,by simp,fun x hx y hy z=>hdm (by rw[<-zk.mp hy,<-z];exact hx)⟩,fun m d' hd'=>?_⟩,fun m pcs hm=>?_,fun d' hd'=>?_,zAF (s2.trans s23) hfo,zJ⟩
       . by_cases c:m<ds.length
         . rw[zN c] at hd'
           obtain⟨pcs,q1,q2⟩:=L.at_ m d' hd'
           refine⟨pcs,by rw[zN (by rw[<-L.ln];exact c)];exact q1,q2.keep (fun e=>kp _ _ (by intro us z;cases z) (s23 _ _ e)) fun b us e=>kp _ _ (by intro us z;cases z) (s23 _ _ e)⟩
         . have em:m=ds.length:=by
            have:=(zE.mp hd').1
            rw[zI] at this
            simp at this;omega
           subst em
           rw[zM (zL _),zAp] at hd'
           have ey:d=d':=by simpa using hd'
           subst ey
           refine⟨es.zip cs,by rw[L.ln,zM (zL _),zAp];rfl,kp _ _ (by intro us z;cases z) hdd,fun x hx=>?_⟩
           obtain⟨m,hm,em⟩:=zd hx
           have h1:(es.zip cs)[m]? = some (x.1,x.2):=by rw[zA hm,em]
           obtain⟨q1,q2⟩:=List.getElem?_zip_eq_some.mp h1
           obtain⟨e,he,hxe⟩:=EA.2 m x.2 q2
           rw[q1] at he
           cases he
           exact kp _ _ (by intro us z;cases z) (s23 _ _ (tup2 _ _ hxe))
       . by_cases c:m<pss.length
         . rw[zN c] at hm
           exact hE m pcs hm
         . have em:m=pss.length:=by
            have:=(zE.mp hm).1
            rw[zI] at this
            simp at this;omega
           subst em
           rw[zM (zL _),zAp] at hm
           have ey:es.zip cs=pcs:=by simpa using hm
           subst ey
           rw[hz1,hpl];exact hes
       . rcases zu.mp hd' with z | z
         . exact hds d' z
         . rw[zk.mp z];exact⟨hd1,Ne.symm nfd⟩
   obtain⟨_,ds,pss0,rfl,hpl0,L0,hE,hds,s2,hfo2⟩:=h
   rw[zB,hal] at hpl0
   have I0:LgI H t p pd fo kvs ds n ts N 2376 H2:=⟨T1.kp s2,Sm.of (s1.trans s2),s2 _ _ hpd,hfo2,pss0,L0,by omega,fun i pcs z=>(LMM i _ (hE i pcs z)).lu⟩
   have dsH:∀d∈ds,H d=none/\d≠t/\d≠p:=fun d hd=>by
    have h1:=(hds d hd).1
    refine⟨?_,T1.nn h1⟩
    cases q:H d with
    | none=>rfl
    | some o=>have:=s1 _ _ q;rw[h1] at this;cases this
   have dsl:ds.length=n.toNat:=by rw[L0.ln];omega
   clear L0 hE
   obtain⟨ks,hks,hk2⟩:=KPk
   have hkk:kvs.length=ks.length:=by have:=congrArg List.length hks;simpa using this
   refine⟨_,rfl,pd,kvs,ks,rfl,I0.pr,hks,(fun c hc z=>by obtain⟨x,y,e⟩:=hk2 c hc;rw[z] at e;cases e),by omega,fun L zs ms hL TZ pm _=>?_⟩
   have hzl:zs.length=ks.length:=by rw[TZ.length];exact pm.length_eq
   have sL:=zG (o:=.lst zs) hL
   have I1:=I0.same sL
   have nL:=I0.tp.nn hL
   have hLL:(upd H2 L (.lst zs)) L=some (.lst zs):=zJ
   have hmem:∀(j:Nat)(c:List Int),ms[j]? = some c->∃x y cc:Int,c=[x,y]/\zBv kvs [Sum.inl x,Sum.inl y]=some (.int cc)/\Adj ts x y cc:=fun j c e=>by
    have h1:c∈ks:=pm.mem_iff.mp (zS e)
    obtain⟨x,y,rfl⟩:=hk2 c h1
    obtain⟨v,hv⟩:=zKS (kvs:=kvs) (k:=[Sum.inl x,Sum.inl y]) (by rw[hks];exact zi.mpr ⟨_,h1,rfl⟩)
    obtain⟨cc,rfl⟩:=(PDk x y).2 v hv
    exact⟨x,y,cc,rfl,hv,((PDk x y).1 cc).mp hv⟩
   refine⟨L,rfl,⟨_,SqL.of hLL⟩,zEz (K:=K) (a:=L) (xs:=zs) (fun j σ H3=>∃(v6 v7 v8 v9:Option V),σ=[some (.ref t),some (.ref wa),some (.ref fl),some (.ref l),some (.ref pd),some (.ref fo),v6,v7,v8,v9]/\LgI H t p pd fo kvs ds n ts (N+60*j) (2376+99*j) H3/\H3 L=some (.lst zs)/\SmD t H2 H3)
    ⟨_,_,_,_,rfl,I1.up (by omega) (by omega),hLL,(Sm.of sL).d⟩ (fun j σ H3 _ ⟨_,_,_,_,_,_,h3,_⟩=>SqL.of h3) ?turn ?after⟩
   case after=>
    rintro σ H3 ⟨v6,v7,v8,v9,rfl,I3,_,_⟩
    rw[hzl] at I3
    obtain⟨pss,LDp,hpl,U⟩:=I3.ld
    refine⟨_,rfl,fo,rfl,⟨_,SqL.of I3.fo⟩,[],rfl,fun D hD=>?_⟩
    have nD:=I3.tp.nn hD
    refine zBz (a:=fo) (xs:=ds.map V.ref) (fun i ys H4=>i<=ds.length/\∃(bs:List Addr)(fss:List (List En)),ys=bs.map V.ref/\fss.length=i/\zI7 H4 bs fss/\LMs ts n 20000 fss/\zA1 H3 H4/\H4 D=some (.lst ys)) ⟨zc _,[],[],rfl,rfl,⟨rfl,fun i b z=>by simp at z⟩,(fun i es z=>by simp at z),zG hD,zJ⟩ (fun i ys H4 h=>?_) (fun i ys H4 h=>?_) (fun i v ys H4 hv h=>?_) (fun ys H4 h=>?_)
    . obtain⟨_,_,_,_,_,_,_,s4,_⟩:=h
      exact SqL.of (s4 _ _ I3.fo)
    . obtain⟨hi,bs,fss,rfl,hfl,LB,_⟩:=h
      rw[zB,LB.1,hfl]
      exact zAd (by omega)
    . obtain⟨_,bs,fss,rfl,hfl,LB,LM',s4,hD4⟩:=h
      rw[zO] at hv
      cases hd:ds[i]? with
      | none=>rw[hd] at hv;cases hv
      | some d=>
      rw[hd] at hv
      cases hv
      have hid:=(zE.mp hd).1
      obtain⟨pcs,hpc,DEd⟩:=LDp.at_ i d hd
      have Ui:=U i pcs hpc
      have pcl:pcs.length<=24:=by have:=Ui.len hn24;rwa [zB] at this
      have hd4:=s4 _ _ DEd.dct
      refine⟨⟨rfl,rfl⟩,?_⟩
      refine zD8 ?_
      refine⟨_,rfl,d,_,_,rfl,hd4,zEx pcs,by rw[zB];omega,fun LK mk hLK pmk st=>?_⟩
      have sK:=zG (o:=.lst (mk.map V.int)) hLK
      have hLKK:(upd H4 LK (.lst (mk.map V.int))) LK=some (.lst (mk.map V.int)):=zJ
      have mkl:mk.length<=24:=by rw[pmk.length_eq,zB];exact pcl
      have nDK:D≠LK:=zh hD4 hLK
      generalize upd H4 LK (.lst (mk.map V.int))=H5 at sK hLKK ⊢
      refine⟨LK,rfl,⟨_,SqL.of hLKK⟩,[.ref d],rfl,fun D2 hD2=>?_⟩
      have nDD:D≠D2:=zh (sK _ _ hD4) hD2
      refine zBz (a:=LK) (xs:=mk.map V.int) (fun m zs H6=>m<=mk.length/\∃(cs:List Addr)(fs:List En),zs=cs.map V.ref/\fs.length=m/\zCI H6 cs fs/\(∀(q:Nat)(e:En),fs[q]? = some e->mk[q]? = some e.h/\e∈pcs.map (·.1))/\zA1 H5 H6/\H6 D2=some (.lst zs)) ⟨zc _,[],[],rfl,rfl,⟨rfl,fun i b z=>by simp at z⟩,(fun q e z=>by simp at z),zG hD2,zJ⟩ (fun m zs H6 h=>?_) (fun m zs H6 h=>?_) (fun m v zs H6 hv h=>?_) (fun zs H6 h=>?_)
      . obtain⟨_,_,_,_,_,_,_,s6,_⟩:=h
        exact SqL.of (s6 _ _ hLKK)
      . obtain⟨hm,cs,fs,rfl,hfs,EF,_⟩:=h
        rw[zB,EF.1,hfs]
        exact zAd (by omega)
      . obtain⟨_,cs,fs,rfl,hfs,EF,hF,s6,hD6⟩:=h
        rw[zO] at hv
        cases hh:mk[m]? with
        | none=>rw[hh] at hv;cases hv
        | some h=>
        rw[hh] at hv
        cases hv
        obtain⟨⟨e,x⟩,hxm,rfl,hvx⟩:=zE8 (pmk.mem_iff.mp (zS hh))
        have hd6:=s6 _ _ (sK _ _ hd4)
        have hx6:=s6 _ _ (sK _ _ (s4 _ _ (DEd.ent _ hxm)))
        refine⟨⟨rfl,rfl⟩,?_⟩
        refine zD8 ?_
        refine⟨_,rfl,_,rfl,d,.ref x,rfl,by rw[<-hvx];exact zCz.k (k:=Sum.inl e.h) hd6,hD6,(zE.mp hh).1,cs++[x],fs++[e],by rw[zQ];rfl,by rw[zI,hfs];rfl,?_,fun q f hq=>?_,zAF s6 hD2,zJ⟩
        . have kp:∀b us,H6 b=some (.tup us)->(upd H6 D2 (.lst (cs.map V.ref++[.ref x]))) b=some (.tup us):=fun b us z=>by rw[zZ (zA5 z hD6 (by intro w;cases w))];exact z
          exact (EF.keep kp).snoc (kp _ _ hx6)
        . by_cases cq:q<fs.length
          . rw[zN cq] at hq
            exact hF q f hq
          . have eq:q=fs.length:=by
             have:=(zE.mp hq).1
             rw[zI] at this
             simp at this;omega
            subst eq
            rw[zM (zL _),zAp] at hq
            have ey:e=f:=by simpa using hq
            subst ey
            exact⟨by rw[hfs];exact hh,zi.mpr ⟨_,hxm,rfl⟩⟩
      . obtain⟨_,cs,fs,rfl,hfs,EF,hF,s6,hD6⟩:=h
        rw[zB] at hfs
        refine⟨D2,_,rfl,.inl ⟨SqL.of hD6,fun b hb=>?_⟩⟩
        have sb:=zG (o:=.tup (cs.map V.ref)) hb
        have s46:=(sK.trans s6).trans sb
        have hDb:=s46 _ _ hD4
        have LC:zB6 (upd H6 b (.tup (cs.map V.ref))) b fs:=⟨cs,zJ,EF.keep fun b' us z=>sb _ _ z,by omega⟩
        have LMf:LM ts n i (2376+99*(ks.length:Nat)) fs:=LM.of_sorted Ui hfs (by rw[zAZ];exact pmk) st hF
        generalize upd H6 b (.tup (cs.map V.ref))=H7 at sb s46 hDb LC ⊢
        have kp:∀x us,H7 x=some (.tup us)->(upd H7 D (.lst (bs.map V.ref++[.ref b]))) x=some (.tup us):=fun x us z=>by rw[zZ (zA5 z hDb (by intro w;cases w))];exact z
        exact⟨hDb,by omega,bs++[b],fss++[fs],by rw[zQ];rfl,by rw[zI,hfl];rfl,((LB.keep fun x us z=>s46 _ _ z).keep kp).snoc (LC.keep kp),LM'.snoc hfl (LMf.mono (by omega)),zAF (s4.trans s46) hD,zJ⟩
    . obtain⟨_,bs,fss,rfl,hfl,LB,LM',s4,hD4⟩:=h
      rw[zB] at hfl
      refine⟨D,_,rfl,.inl ⟨SqL.of hD4,fun l' hl'=>?_⟩⟩
      have sl:=zG (o:=.tup (bs.map V.ref)) hl'
      exact k l' fss _ ⟨bs,zJ,LB.1,(LB.keep fun b ys e=>sl _ _ e).2⟩ (by omega) LM' ((I3.tp.kp (s4.trans sl)).up (by omega)) (I3.sm.trans (Sm.of (s4.trans sl)))
   case turn=>
    rintro j z σ H3 hj ⟨v6,v7,v8,v9,rfl,I3,hL3,s3⟩
    have hjl:j<ks.length:=by rw[<-hzl];exact (zE.mp hj).1
    obtain⟨pa,c,rfl,hmj,hpa,_⟩:=TZ.get hj
    obtain⟨x,y,cc,rfl,hval,hadj⟩:=hmem j c hmj
    have ga:=G.adj hadj
    have hpa3:H3 pa=some (.tup [.int x,.int y]):=s3.tu (zAU.neT I0.tp.at_ hpa) hpa
    obtain⟨pss,LDp,hpl,U⟩:=I3.ld
    obtain⟨db,hdb⟩:∃d,ds[y.toNat]? = some d:=⟨_,zA (by omega)⟩
    obtain⟨da,hda⟩:∃d,ds[x.toNat]? = some d:=⟨_,zA (by omega)⟩
    obtain⟨pb,hpb,DEb⟩:=LDp.at_ _ _ hdb
    have Ub:=U _ _ hpb
    have hxa:(x.toNat:Int)=x:=by omega
    have hya:(y.toNat:Int)=y:=by omega
    rw[hya] at Ub
    have hatb:atI (ds.map V.ref) y=some (.ref db):=zBI (by omega) (by rw[zO,hdb];rfl)
    have hata:atI (ds.map V.ref) x=some (.ref da):=zBI (by omega) (by rw[zO,hda];rfl)
    have dH:=dsH da (zS hda)
    have nab:da≠db:=fun z=>by
     subst z
     obtain⟨i1,e1⟩:=zE.mp hda
     obtain⟨i2,e2⟩:=zE.mp hdb
     have:=(List.getElem_inj LDp.nd).mp (e1.trans e2.symm)
     omega
    have ubl:pb.length<=24:=by have:=Ub.len hn24;rwa [zB] at this
    refine⟨_,rfl,_,rfl,pa,_,_,.int y,rfl,rfl,SqT.of hpa3,rfl,fo,_,_,.ref db,rfl,rfl,SqL.of I3.fo,hatb,db,_,_,rfl,DEb.dct,zEx pb,by rw[zB];omega,fun LK mk hLK pmk _=>?_⟩
    have sK:=zG (o:=.lst (mk.map V.int)) hLK
    have hLKK:(upd H3 LK (.lst (mk.map V.int))) LK=some (.lst (mk.map V.int)):=zJ
    have I4:=I3.same sK
    have DEb4:DE (upd H3 LK (.lst (mk.map V.int))) db pb:=DEb.keep (fun e=>sK _ _ e) fun b ys e=>sK _ _ e
    have mkl:mk.length<=24:=by rw[pmk.length_eq,zB];exact ubl
    refine⟨LK,rfl,⟨_,SqL.of hLKK⟩,zEz (K:=K) (a:=LK) (xs:=mk.map V.int) (fun i σ H4=>∃(v7 v8 v9:Option V),σ=[some (.ref t),some (.ref wa),some (.ref fl),some (.ref l),some (.ref pd),some (.ref fo),some (.ref pa),v7,v8,v9]/\LgI H t p pd fo kvs ds n ts (N+60*j+2*i) (2376+99*j+99) H4/\DE H4 db pb/\H4 LK=some (.lst (mk.map V.int))/\SmD t H3 H4)
     ⟨_,_,_,rfl,I4.up (by omega) (by omega),DEb4,hLKK,(Sm.of sK).d⟩ (fun i σ H4 _ ⟨_,_,_,_,_,_,h4,_⟩=>SqL.of h4) ?turn2 ?after2⟩
    case after2=>
     rintro σ H4 ⟨v7,v8,v9,rfl,I4,_,_,s4⟩
     rw[zB] at I4
     exact⟨_,_,_,_,rfl,I4.up (by omega) (by omega),s4.ls nL.1 hL3,s3.tr s4⟩
    case turn2=>
     rintro i v σ H4 hi ⟨v7,v8,v9,rfl,I4,DE4,hLK4,s4⟩
     have hil:i<mk.length:=by have:=(zE.mp hi).1;rwa [zB] at this
     obtain⟨h,hmi,rfl⟩:∃h:Int,mk[i]? = some h/\V.int h=v:=by
      rw[zO] at hi
      cases e:mk[i]? with
      | none=>rw[e] at hi;cases hi
      | some h=>rw[e] at hi;exact⟨h,rfl,zR hi⟩
     have hpm:h∈pb.map (·.1.h):=pmk.mem_iff.mp (zS hmi)
     obtain⟨⟨e,xe⟩,hxm,rfl,hvx⟩:=zE8 hpm
     have hxe:H4 xe=some (.tup (eV e)):=DE4.ent _ hxm
     have hem:e∈pb.map (·.1):=zi.mpr ⟨_,hxm,rfl⟩
     have her:=Ub.rng e hem
     have hen:0<=e.l/\e.l<=2376+99*(j:Int):=Ub.nn e hem
     obtain⟨q0,hq0⟩:=Ub.rch e hem
     have hpa4:=s4.tu (zAU.neT I3.tp.at_ hpa3) hpa3
     have g1:zCz H4 db (.int e.h) (some (.ref xe)):=by
      have:=zCz.k (k:=Sum.inl e.h) DE4.dct
      rw[hvx] at this;exact this
     have g2:∀{H':Hp},H' pd=some (.dT kvs)->H' pa=some (.tup [.int x,.int y])->zCz H' pd (.ref pa) (some (.int cc)):=fun h1 h2=>by
      have:=zCz.t (k:=[Sum.inl x,Sum.inl y]) h1 h2
      rw[hval] at this;exact this
     refine⟨_,rfl,_,rfl,pa,_,_,.int y,rfl,rfl,SqT.of hpa4,rfl,fo,_,_,.ref db,rfl,rfl,SqL.of I4.fo,hatb,_,rfl,db,_,rfl,g1,xe,_,_,.int e.l,rfl,rfl,SqT.of hxe,rfl,_,rfl,_,rfl,pd,_,rfl,g2 I4.pr hpa4,_,_,rfl,rfl,?_⟩
     have W4:=W.smt T I4.sm
     have FR4:=FR.sm T.at_ I4.sm
     have hwa4:=I4.sm _ _ (zAU.neT T.at_ hwa) hwa
     refine⟨_,rfl,wa,_,_,_,rfl,rfl,SqT.of hwa4,rfl,n,rfl,by omega,by omega,[.int e.h,.ref pd,.ref fl,.ref pa,.int (e.l+cc)],rfl,fun D hD=>?_⟩
     refine zBe (lo:=0) (n:=n.toNat) (fun q ys H7=>q<=n.toNat/\(∃xs:List Int,ys=xs.map V.int/\xs.length<=q/\∀x∈xs,0<=x/\x<q)/\zA1 H4 H7/\H7 D=some (.lst ys)) ⟨zc _,⟨[],rfl,zL _,fun x hx=>by simp at hx⟩,zG hD,zJ⟩ (fun q ys H7 h=>?_) (fun q ys H7 hq h=>?_) (fun ys H7 h=>?_)
     . obtain⟨hq,⟨xs,rfl,hxl,_⟩,_⟩:=h
       rw[zB]
       exact zAd (by omega)
     . obtain⟨_,⟨xs,rfl,hxl,hxb⟩,s7,hD7⟩:=h
       have hxb':∀x∈xs,0<=x/\x<((q+1:Nat):Int):=fun x hx=>by have:=hxb x hx;omega
       rw[zAi]
       refine⟨⟨rfl,rfl⟩,?_⟩
       refine⟨_,rfl,_,rfl,by show 2<=sizeLine;decide,fun k1 hk1=>?_⟩
       have s8:=s7.trans (zG (o:=.tup [.int e.h,.int q]) hk1)
       have hD8:=zG (o:=.tup [.int e.h,.int q]) hk1 _ _ hD7
       refine⟨_,rfl,pd,_,rfl,zCz.t (k:=[Sum.inl e.h,Sum.inl (q:Int)]) (s8 _ _ I4.pr) zJ,_,rfl,?_⟩
       refine zDO (fun hc=>?_) (fun hc=>?_)
       . obtain⟨v1,hv1⟩:=zA4.mp hc
         obtain⟨c1,rfl⟩:=(PDk e.h q).2 v1 hv1
         generalize upd H7 k1 (.tup [.int e.h,.int q])=H8 at s8 hD8 ⊢
         have FR8:=FR4.keep fun b ys e=>s8 _ _ e
         obtain⟨r1,a1,w1,f1,e1,i1,j1,l1⟩:=FR8.get (x:=q) (y:=x) (by omega) (by omega) ga.1 ga.2.1
         refine⟨_,rfl,_,rfl,fl,_,_,.ref a1,rfl,rfl,SqL.of f1,e1,_,rfl,pa,_,_,.int x,rfl,rfl,SqT.of (s8 _ _ hpa4),rfl,a1,_,_,_,rfl,rfl,SqL.of i1,j1,_,rfl,_,rfl,_,rfl,_,rfl,by show 2<=sizeLine;decide,fun k2 hk2=>?_⟩
         have s9:=s8.trans (zG (o:=.tup [.int e.h,.int q]) hk2)
         have hD9:=zG (o:=.tup [.int e.h,.int q]) hk2 _ _ hD8
         refine⟨pd,.int c1,rfl,by rw[<-hv1];exact zCz.t (k:=[Sum.inl e.h,Sum.inl (q:Int)]) (s9 _ _ I4.pr) zJ,_,_,rfl,rfl,by cases mat M q x <;> rfl,_,rfl,?_⟩
         refine zDO (fun _=>?_) (fun _=>?_)
         . exact⟨_,rfl,hD9,hq,⟨xs++[(q:Int)],by rw[zQ];rfl,by rw[zI];show xs.length+1<=q+1;omega,fun x hx=>by
            rcases zu.mp hx with z | z
            . exact hxb' x z
            . rw[zk.mp z];omega⟩,zAF s9 hD,zJ⟩
         . exact⟨hq,⟨xs,rfl,by omega,hxb'⟩,s9,hD9⟩
       . exact⟨hq,⟨xs,rfl,by omega,hxb'⟩,s8,hD8⟩
     obtain⟨_,⟨xs,rfl,hxl,hxb⟩,s7,hD7⟩:=h
     have I7:=I4.same s7
     have DE7:DE H7 db pb:=DE4.keep (fun e=>s7 _ _ e) fun b ys e=>s7 _ _ e
     have hLK7:=s7 _ _ hLK4
     have hpa7:=s7 _ _ hpa4
     have s37:SmD t H3 H7:=s4.tr (Sm.of s7).d
     have nLK:=I3.tp.nn hLK
     obtain⟨pss7,LD7,hpl7,U7⟩:=I7.ld
     obtain⟨pa7,hpa7',DEa⟩:=LD7.at_ _ _ hda
     have fin:∀(H':Hp),LgI H t p pd fo kvs ds n ts (N+60*j+2*(i+1)) (2376+99*j+99) H'->DE H' db pb->H' LK=some (.lst (mk.map V.int))->SmD t H3 H'->∃(v7 v8 v9:Option V),[some (.ref t),some (.ref wa),some (.ref fl),some (.ref l),some (.ref pd),some (.ref fo),some (.ref pa),some (.int e.h),some (.int (e.l+cc)),some (.ref D)]=[some (.ref t),some (.ref wa),some (.ref fl),some (.ref l),some (.ref pd),some (.ref fo),some (.ref pa),v7,v8,v9]/\LgI H t p pd fo kvs ds n ts (N+60*j+2*(i+1)) (2376+99*j+99) H'/\DE H' db pb/\H' LK=some (.lst (mk.map V.int))/\SmD t H3 H':=fun H' a b c d=>⟨_,_,_,rfl,a,b,c,d⟩
     refine⟨_,rfl,_,rfl,_,rfl,pa,_,_,.int x,rfl,rfl,SqT.of hpa7,rfl,fo,_,_,.ref da,rfl,rfl,SqL.of I7.fo,hata,da,_,rfl,zCz.k (k:=Sum.inl e.h) DEa.dct,_,rfl,?_⟩
     refine zDO (fun cn=>?_) (fun _=>zDU (fin H7 (I7.up (by omega) (by omega)) DE7 hLK7 s37))
     have hvn:zBv (pcV pa7) (Sum.inl e.h)=none:=by
      cases q:zBv (pcV pa7) (Sum.inl e.h) with
      | none=>rfl
      | some v=>rw[q] at cn;cases cn
     refine⟨_,rfl,by show 0<=sizeLine;decide,fun e0 he0=>?_⟩
     have s8:=zG (o:=.lst []) he0
     refine⟨D,e0,_,rfl,rfl,SqL.of (s8 _ _ hD7),SqL.of zJ,_,rfl,?_⟩
     have I8:=I7.same s8
     have DE8:DE (upd H7 e0 (.lst [])) db pb:=DE7.keep (fun e=>s8 _ _ e) fun b ys e=>s8 _ _ e
     have hD8:=s8 _ _ hD7
     have hLK8:=s8 _ _ hLK7
     have hpa8:=s8 _ _ hpa7
     have s38:=s37.tr (Sm.of (t:=t) s8).d
     generalize upd H7 e0 (.lst [])=H8 at s8 I8 DE8 hD8 hLK8 hpa8 s38 ⊢
     refine zDO (fun cx=>?_) (fun _=>zDU (fin H8 (I8.up (by omega) (by omega)) DE8 hLK8 s38))
     have hxp:0<xs.length:=by
      cases xs with
      | nil=>simp at cx
      | cons a r=>simp
     refine⟨_,rfl,t,p,_,3,rfl,I8.tp,by omega,by decide,by decide,fun r H9 a9 b9 T9 he9=>?_⟩
     have nDt:D≠t:=I8.tp.nI hD8
     have nLt:LK≠t:=nLK.1
     have I9:=I8.draw T9 he9
     have DE9:=DE8.draw I8.tp he9
     have hD9:H9 D=some (.lst (xs.map V.int)):=by rw[he9 _ nDt];exact hD8
     have hLK9:H9 LK=some (.lst (mk.map V.int)):=by rw[he9 _ nLt];exact hLK8
     have hpa9:H9 pa=some (.tup [.int x,.int y]):=by rw[he9 _ (zAU.neT I8.tp.at_ hpa8)];exact hpa8
     have s39:=s38.tr (zFE he9).d
     refine⟨_,_,rfl,rfl,_,rfl,?_⟩
     refine zDO (fun _=>?_) (fun _=>fin H9 (I9.up (by omega) (by omega)) DE9 hLK9 s39)
     refine⟨_,rfl,_,rfl,_,rfl,pa,_,_,.int y,rfl,rfl,SqT.of hpa9,rfl,_,rfl,_,rfl,_,rfl,D,_,rfl,.inl (SqL.of hD9),t,p,_,_,rfl,I9.tp,by omega,by rw[zB];omega,by rw[zB];omega,fun r' H10 a10 b10 T10 he10=>?_⟩
     rw[zB] at b10
     obtain⟨dn,hdm,hdn⟩:=zDn a10 b10
     have rdn:=hxb dn hdm
     have I10:=I9.draw T10 he10
     have DE10:=DE9.draw I9.tp he10
     have hLK10:H10 LK=some (.lst (mk.map V.int)):=by rw[he10 _ nLt];exact hLK9
     have hpa10:H10 pa=some (.tup [.int x,.int y]):=by rw[he10 _ (zAU.neT I9.tp.at_ hpa9)];exact hpa9
     have s310:=s39.tr (zFE he10).d
     refine⟨D,_,_,_,rfl,rfl,SqL.of (by rw[he10 _ nDt];exact hD9),hdn,by show 4<=sizeLine;decide,fun nx hnx=>?_⟩
     have s11:=zG (o:=.tup [.int e.h,.int (e.l+cc),.int y,.int dn]) hnx
     have hnx':(upd H10 nx (.tup [.int e.h,.int (e.l+cc),.int y,.int dn])) nx=some (.tup (eV ⟨e.h,e.l+cc,some y,some dn⟩)):=zJ
     have I11:=I10.same s11
     have DE11:DE (upd H10 nx (.tup [.int e.h,.int (e.l+cc),.int y,.int dn])) db pb:=DE10.keep (fun e=>s11 _ _ e) fun b ys e=>s11 _ _ e
     have hLK11:=s11 _ _ hLK10
     have hpa11:=s11 _ _ hpa10
     have s311:=s310.tr (Sm.of (t:=t) s11).d
     have LD11:LD (upd H10 nx (.tup [.int e.h,.int (e.l+cc),.int y,.int dn])) ds pss7:=⟨LD7.ln,LD7.nd,fun i d ed=>let ⟨q,q1,q2⟩:=LD7.at_ i d ed;⟨q,q1,(((q2.keep (fun e=>s8 _ _ e) fun b ys e=>s8 _ _ e).draw I8.tp he9).draw I9.tp he10).keep (fun e=>s11 _ _ e) fun b ys e=>s11 _ _ e⟩⟩
     generalize upd H10 nx (.tup [.int e.h,.int (e.l+cc),.int y,.int dn])=H11 at hnx' I11 DE11 hLK11 hpa11 s311 LD11 ⊢
     obtain⟨pa11,hpa11',DEa11⟩:=LD11.at_ _ _ hda
     rw[hpa7'] at hpa11'
     cases hpa11'
     have hnm:e.h∉pa7.map (·.1.h):=fun z=>by
      obtain⟨_,_,_,q⟩:=zE8 z
      rw[hvn] at q;cases q
     have Ua:=U7 _ _ hpa7'
     have hal':pa7.length<=24:=by have:=Ua.len hn24;rwa [zB] at this
     refine⟨_,rfl,_,rfl,pa,_,_,.int x,rfl,rfl,SqT.of hpa11,rfl,fo,_,_,.ref da,rfl,rfl,SqL.of I11.fo,hata,_,rfl,da,_,rfl,zGr.k (k:=Sum.inl e.h) DEa11.dct (by unfold pcV;rw[zB];exact zAd (by omega)),?_⟩
     rw[zDS _ hvn]
     have eput:pcV pa7++[(Sum.inl e.h,V.ref nx)]=pcV (pa7++[((⟨e.h,e.l+cc,some y,some dn⟩:En),nx)]):=by unfold pcV;rw[zQ];rfl
     rw[eput]
     have rch:∃q,WM.IsD ts x.toNat e.h q:=by rw[hxa];exact Way.least G (.cons hadj hq0.1)
     have I12:=I11.put (a:=x.toNat) (e:=⟨e.h,e.l+cc,some y,some dn⟩) LD11 hpl7 U7 hda hpa7' dH.1 dH.2.1 dH.2.2 hnx' her ⟨by show 0<e.l+cc;omega,by show e.l+cc<=2376+99*(j:Int)+99;omega⟩ hnm rch ⟨fun z hz=>by cases hz;omega,fun z hz=>by cases hz;omega⟩
     refine fin _ (I12.up (by omega) (by omega)) (DE11.keep (fun z=>by rw[zZ (Ne.symm nab)];exact z) fun b ys z=>by rw[zZ (zA5 z DEa11.dct (by intro w;cases w))];exact z) (by rw[zZ (zA5 hLK11 DEa11.dct (by intro w;cases w))];exact hLK11) (s311.tr fun b o nb dk eb=>by rw[zZ fun z=>by rw[z,DEa11.dct] at eb;exact dk _ (zR eb).symm];exact eb)
end
noncomputable def zI4 (qs:List (En×Addr))(x:En×Addr):List (En×Addr):=if x.1.h∈qs.map (·.1.h) then qs.map (fun y=>if y.1.h=x.1.h then x else y) else qs++[x]
theorem zKx (qs:List (En×Addr))(x:En×Addr):zCP (pcV qs) (Sum.inl x.1.h) (.ref x.2)=pcV (zI4 qs x):=by
 by_cases c:x.1.h∈qs.map (·.1.h)
 . obtain⟨y,_,hy,hv⟩:=zE8 c
   have hs:(zBv (pcV qs) (Sum.inl x.1.h)).isSome=true:=by rw[hv];rfl
   unfold zI4
   rw[if_pos c]
   unfold zCP
   rw[if_pos (by rw[zCA];exact hs)]
   unfold pcV
   rw[zAZ,zAZ]
   refine zBb fun y _=>?_
   show (if (Sum.inl y.1.h:Key)=Sum.inl x.1.h then ((Sum.inl y.1.h:Key),V.ref x.2) else ((Sum.inl y.1.h:Key),V.ref y.2))=((Sum.inl (if y.1.h=x.1.h then x else y).1.h:Key),V.ref (if y.1.h=x.1.h then x else y).2)
   by_cases e:y.1.h=x.1.h
   . rw[if_pos e,if_pos (by rw[e]),e]
   . rw[if_neg e,if_neg (by intro z;injection z with z;exact e z)]
 . rw[zDS _ (val_no c)]
   unfold zI4
   rw[if_neg c]
   unfold pcV
   rw[zQ];rfl
variable {qs:List (En×Addr)}
theorem zFP {x:En×Addr}(c:x.1.h∈qs.map (·.1.h)):(qs.map (fun y=>if y.1.h=x.1.h then x else y)).map (·.1.h)=qs.map (·.1.h):=by
 rw[zAZ]
 refine zBb fun y _=>?_
 show (if y.1.h=x.1.h then x else y).1.h=y.1.h
 by_cases e:y.1.h=x.1.h
 . rw[if_pos e,e]
 . rw[if_neg e]
theorem zKy {x:En×Addr}(h:(qs.map (·.1.h)).Nodup):((zI4 qs x).map (·.1.h)).Nodup:=by
 unfold zI4
 by_cases c:x.1.h∈qs.map (·.1.h)
 . rw[if_pos c,zFP c];exact h
 . rw[if_neg c,zQ]
   exact List.nodup_append.mpr ⟨h,by simp,fun a ha b hb z=>by
    have e:b=x.1.h:=by simpa using hb
    exact c (by rw[<-e,<-z];exact ha)⟩
theorem zJQ {x y:En×Addr}(h:y∈zI4 qs x):y∈qs\/y=x:=by
 unfold zI4 at h
 split at h
 . obtain⟨z,hz,e⟩:=zi.mp h
   by_cases c:z.1.h=x.1.h
   . rw[if_pos c] at e;exact .inr e.symm
   . rw[if_neg c] at e;exact .inl (e ▸ hz)
 . rcases zu.mp h with z | z
   . exact .inl z
   . exact .inr (zk.mp z)
theorem zGV {x y:En×Addr}(h:y∈qs\/y=x):y.1.h∈(zI4 qs x).map (·.1.h):=by
 unfold zI4
 by_cases c:x.1.h∈qs.map (·.1.h)
 . rw[if_pos c,zFP c]
   rcases h with h | h
   . exact zi.mpr ⟨y,h,rfl⟩
   . rw[h];exact c
 . rw[if_neg c,zQ]
   rcases h with h | h
   . exact zAE _ (zi.mpr ⟨y,h,rfl⟩)
   . exact zj _ (by rw[h];simp)
theorem zEL:∀(pcs qs:List (En×Addr)),(qs.map (·.1.h)).Nodup->∃rs,(pcV pcs).foldl (fun a p=>zCP a p.1 p.2) (pcV qs)=pcV rs/\(rs.map (·.1.h)).Nodup/\(∀x∈rs,x∈qs\/x∈pcs)/\∀x,(x.1.h∈qs.map (·.1.h)\/x∈pcs)->x.1.h∈rs.map (·.1.h)
 | [],qs,h=>⟨qs,rfl,h,fun x hx=>.inl hx,fun x hx=>hx.elim id fun z=>by simp at z⟩
 | p::pcs,qs,h=>by
  obtain⟨rs,e,nd,h1,h2⟩:=zEL pcs (zI4 qs p) (zKy h)
  refine⟨rs,?_,nd,fun x hx=>?_,fun x hx=>?_⟩
  . rw[<-e,<-zKx];rfl
  . rcases h1 x hx with z | z
    . rcases zJQ z with w | w
      . exact .inl w
      . exact .inr (by rw[w];exact zl)
    . exact .inr (zv _ z)
  . refine h2 x ?_
    rcases hx with z | z
    . obtain⟨y,hy,ey⟩:=zi.mp z
      exact .inl (ey ▸ zGV (.inl hy))
    . rcases zm.mp z with w | w
      . exact .inl (zGV (.inr w))
      . exact .inr w
theorem zHx (pcs:List (En×Addr)):∃rs,zDI (pcV pcs)=pcV rs/\(rs.map (·.1.h)).Nodup/\(∀x∈rs,x∈pcs)/\∀x∈pcs,x.1.h∈rs.map (·.1.h):=by
 obtain⟨rs,a,b,c,d⟩:=zEL pcs [] zCC
 exact⟨rs,a,b,fun x hx=>(c x hx).elim (fun z=>by simp at z) id,fun x hx=>d x (.inr hx)⟩
theorem LU.both {fs gs:List En}(h1:LM ts n v B es)(h2:LM ts n v B fs)(nd:(gs.map (·.h)).Nodup)(sub:∀e∈gs,e∈es\/e∈fs)(all:∀e∈es,e.h∈gs.map (·.h)):LU ts n v B gs:=by
 refine⟨nd,fun e he=>(sub e he).elim (h1.rng e) (h2.rng e),fun e he=>(sub e he).elim (h1.nn e) (h2.nn e),?_,fun e he=>(sub e he).elim (h1.zero e) (h2.zero e),fun e he=>(sub e he).elim (h1.rch e) (h2.rch e),fun e he=>(sub e he).elim (h1.ud e) (h2.ud e)⟩
 obtain⟨o,ho,eo⟩:=h1.own
 obtain⟨g,hg,eg⟩:=zi.mp (all o ho)
 exact⟨g,hg,eg.trans eo⟩
noncomputable def zHg:Sp:=fun vs H Q _=>∃(l o:Addr)(n B:Int)(ts:List T3)(ess fss:List (List En)),vs=[.ref l,.ref o]/\n<=24/\zBF H l ess/\zBF H o fss/\ess.length=n.toNat/\fss.length=n.toNat/\LMs ts n B ess/\LMs ts n B fss /\
 ∀(l':Addr)(gss:List (List En))(H':Hp),zA1 H H'->zBF H' l' gss->gss.length=n.toNat->LMs ts n B gss->Q (.ref l') H'
theorem zLa {cs:List Addr}(E:zCI H cs es):∀x∈es.zip cs,H x.2=some (.tup (eV x.1)):=fun x hx=>by
 obtain⟨m,hm,em⟩:=zd hx
 have h1:(es.zip cs)[m]? = some (x.1,x.2):=by rw[zA hm,em]
 obtain⟨q1,q2⟩:=List.getElem?_zip_eq_some.mp h1
 obtain⟨e,he,hxe⟩:=E.2 m x.2 q2
 rw[q1] at he
 cases he
 exact hxe
theorem zCI.app {cs ds:List Addr}{fs:List En}(E:zCI H cs es)(F:zCI H ds fs):zCI H (cs++ds) (es++fs):=by
 refine⟨by rw[zI,zI,E.1,F.1],fun i a h=>?_⟩
 by_cases c:i<cs.length
 . rw[zN c] at h
   rw[zN (by rw[<-E.1];exact c)]
   exact E.2 i a h
 . rw[zM (by omega)] at h
   rw[zM (by rw[<-E.1];omega),<-E.1]
   exact F.2 _ a h
section
variable {P:Program}{w:World}{K:PySem.W.Frag}{mg:Str->Option Value}{base:Heap}
theorem zFH:zAR ["_law_labels_here", "_law_others", "_law_found", "_law_label", "_law_other", "_law_here"] ["_law_labels_here", "_law_others"] (defScope zHu):=⟨rfl,rfl,rfl,by decide +kernel,rfl,by decide +kernel,by decide +kernel⟩
theorem zLK (F:Fun K "_law_either" "_law_either" zHu f fd') (mZip:mg "zip" = none) (mTuple:mg "tuple" = none) (mDict:mg "dict" = none) (mSorted:mg "sorted" = none):zAq P w K mg base CX0 1 f fd' ["_law_labels_here", "_law_others"] zHg:=by
 refine F.ok zFH (fun vs H Q E h=>?_) (fun cdv A outer s H vs Q E hr h=>?_)
 . obtain⟨l,o,n,B,ts,ess,fss,rfl,_⟩:=h
   rfl
 . obtain⟨l,o,n,B,ts,ess,fss,rfl,hn24,LL,LO,hel,hfl,LM1,LM2,k⟩:=h
   have hu:=zDv hr
   obtain⟨as,hl,hal,hA⟩:=id LL
   obtain⟨os,ho,hol,hO⟩:=id LO
   refine⟨_,zW (zAN (i:=2) zFH.nd rfl (Or.inl rfl) (zB1 zT))
    (zW (zBk PassesOwn.never rfl (zK0 rfl mZip (zF (pv 0) (zF (pv 1) zT))) (zCf rfl (zAK (zr (i:=3) zFH.nd rfl (Or.inl rfl)) (zAK (zr (i:=4) zFH.nd rfl (Or.inl rfl)) zCB)))
     (zW (zAN (i:=5) zFH.nd rfl (Or.inr rfl) (zAf (zCq rfl) (by rfl) mDict (by decide +kernel) (zF
      (zBA (own:=["_law_entry_here"]) (cn:=[]) (ci:=[]) rfl (csc rfl rfl) trivial rfl (zBu (zBc zF2 (pv 3) (pv 4))) (fun _ _ _ _=>zr (i:=0) (zBJ rfl) rfl (Or.inl rfl))
       (fun _ _ _ _=>zBK) (fun _ _ _ _=>zBC (zF (zAH zBf (pv 0) zAA (fun _ _=>rfl)) (zF (pv 0) zT)))) zT)))
     (zn (zCL (zDA PySem.F.plainAttrs_list PySem.F.slot_list_append PySem.F.type_list_append zBP (pv 2) (zF (zAf zAJ (by rfl) mTuple (by decide +kernel) (zF
      (zBA (own:=["_law_hub"]) (cn:=["_law_here"]) (ci:=[5]) rfl (csc rfl rfl) ⟨rfl,rfl,rfl,trivial⟩ rfl (zCE (zAV (zCT rfl) (by rfl) mSorted (by decide +kernel) (zF (pv 5) zT)))
       (fun _ _ _ _=>zr (i:=0) (zBJ rfl) rfl (Or.inl rfl)) (fun _ _ _ _=>zBK) (fun _ _ _ _=>zCa hu (pv 1) (pv 0) (fun _ _=>rfl))) zT)) zT))))))
    (zn (zAb (zAf zAJ (by rfl) mTuple (by decide +kernel) (zF (pv 2) zT))))),?_⟩
   refine⟨by show 0<=sizeLine;decide,fun D hD=>?_⟩
   have s0:=zG (o:=.lst []) hD
   refine⟨_,rfl,_,rfl,l,o,rfl,⟨_,SqT.of (s0 _ _ hl)⟩,⟨_,SqT.of (s0 _ _ ho)⟩,zJp (K:=K) (a:=l) (b:=o) (xs:=as.map V.ref) (ys:=os.map V.ref) (by rw[zB,zB];omega)
    (fun q σ H1=>∃(v3 v4 v5:Option V)(bs:List Addr)(gss:List (List En)),σ=[some (.ref l),some (.ref o),some (.ref D),v3,v4,v5]/\gss.length=q/\H1 D=some (.lst (bs.map V.ref))/\zI7 H1 bs gss/\LMs ts n B gss/\zA1 H H1)
    ⟨_,_,_,[],[],rfl,rfl,zJ,⟨rfl,fun i b z=>by simp at z⟩,(fun i es z=>by simp at z),s0⟩ (fun q σ H1 _ ⟨_,_,_,_,_,_,_,_,_,_,s1⟩=>⟨SqT.of (s1 _ _ hl),SqT.of (s1 _ _ ho)⟩) ?turn ?after⟩
   case after=>
    rintro σ H1 ⟨v3,v4,v5,bs,gss,rfl,hgl,hD1,LB,LM',s1⟩
    rw[zB] at hgl
    refine⟨_,rfl,D,_,rfl,.inl ⟨SqL.of hD1,fun l' hl'=>?_⟩⟩
    have sl:=zG (o:=.tup (bs.map V.ref)) hl'
    exact k l' gss _ (s1.trans sl) ⟨bs,zJ,LB.1,(LB.keep fun b ys e=>sl _ _ e).2⟩ (by omega) LM'
   case turn=>
    rintro q x y σ H1 T hx hy ⟨v3,v4,v5,bs,gss,rfl,hgl,hD1,LB,LM',s1⟩ hT
    rw[zO] at hx hy
    cases ha:as[q]? with
    | none=>rw[ha] at hx;cases hx
    | some a=>
    cases hb:os[q]? with
    | none=>rw[hb] at hy;cases hy
    | some b=>
    rw[ha] at hx
    rw[hb] at hy
    cases hx
    cases hy
    obtain⟨es,hes,LE⟩:=hA q a ha
    obtain⟨fs,hfs,LF'⟩:=hO q b hb
    obtain⟨cs,hat,EA,_⟩:=id LE
    obtain⟨ds,hbt,EB,_⟩:=id LF'
    have hql:q<n.toNat:=by have:=(zE.mp ha).1;omega
    have LMe:=LM1 q es hes
    have LMf:=LM2 q fs hfs
    have hesl:=LMe.len hn24
    have hfsl:=LMf.len hn24
    have sT:=zG (o:=.tup [.ref a,.ref b]) hT
    have s2:=s1.trans sT
    have hD2:=sT _ _ hD1
    refine⟨T,_,rfl,SqT.of zJ,rfl,_,_,rfl,_,_,rfl,rfl,?_⟩
    generalize upd H1 T (.tup [.ref a,.ref b])=H2 at sT s2 hD2 ⊢
    refine⟨_,rfl,_,rfl,a,b,_,_,rfl,rfl,s2 _ _ hat,s2 _ _ hbt,by rw[zB,zB,EA.1,EB.1];exact zBq (zAd (by omega)),fun ab H3 s3 hab=>?_⟩
    rw[<-zQ] at hab
    have EAB:zCI H (cs++ds) (es++fs):=EA.app EB
    refine⟨ab,rfl,⟨_,SqT.of hab⟩,[],rfl,fun D2 hD2'=>?_⟩
    have s23:=s2.trans s3
    refine zBN (a:=ab) (xs:=(cs++ds).map V.ref) (fun j zs H4=>j<=(es++fs).length/\zs.length=j/\(∀(m:Nat)(y:V),zs[m]? = some y->∃c e x,y = .ref c/\(es++fs)[m]? = some e/\(cs++ds)[m]? = some x/\H4 c=some (.tup [.int e.h,.ref x]))/\zA1 H3 H4/\H4 D2=some (.lst zs)) ⟨zc _,rfl,fun m y z=>by simp at z,zG hD2',zJ⟩ (fun j zs H4 h=>?_) (fun j zs H4 h=>?_) (fun j v zs H4 hv h=>?_) (fun zs H4 h=>?_)
    . exact SqT.of (h.2.2.2.1 _ _ hab)
    . rw[h.2.1]
      have h1:=h.1
      rw[zI] at h1
      exact zAd (by omega)
    . obtain⟨_,hzl,hzs,s4,hD4⟩:=h
      rw[zO] at hv
      cases hx:(cs++ds)[j]? with
      | none=>rw[hx] at hv;cases hv
      | some x=>
      rw[hx] at hv
      cases hv
      obtain⟨e,he,hxe⟩:=EAB.2 j x hx
      have hx4:=s4 _ _ (s23 _ _ hxe)
      refine⟨⟨rfl,rfl⟩,?_⟩
      refine zD8 ?_
      refine⟨_,rfl,x,_,_,.int e.h,rfl,rfl,SqT.of hx4,rfl,_,rfl,by show 2<=sizeLine;decide,fun c hc=>?_⟩
      have nDc:D2≠c:=zh hD4 hc
      refine⟨zG hc _ _ hD4,(zE.mp he).1,by rw[zI,hzl];rfl,fun m y hy=>?_,zAF (s4.trans (zG hc)) hD2',zJ⟩
      by_cases cj:m<j
      . rw[zN (by omega)] at hy
        obtain⟨c',e',x',h1,h2,h3,h4⟩:=hzs m y hy
        refine⟨c',e',x',h1,h2,h3,?_⟩
        rw[zZ (zA5 h4 hD4 (by intro z;cases z))]
        exact zG hc _ _ h4
      . have ej:m=j:=by
         have:=(zE.mp hy).1
         rw[zI,hzl] at this
         simp at this;omega
        subst ej
        rw[zM (by omega),hzl,zAp] at hy
        have ey:V.ref c=y:=by simpa using hy
        subst ey
        exact⟨c,e,x,rfl,he,hx,by rw[zZ (Ne.symm nDc)];exact zJ⟩
    . obtain⟨_,hzl,hzs,s4,hD4⟩:=h
      rw[zB,EAB.1] at hzl
      have hz2:∀(m:Nat)(e:En)(x:Addr),(es++fs)[m]? = some e->(cs++ds)[m]? = some x->((es++fs).zip (cs++ds))[m]? = some (e,x):=fun m e x h1 h2=>List.getElem?_zip_eq_some.mpr ⟨h1,h2⟩
      have hz1:((es++fs).zip (cs++ds)).map (·.1)=es++fs:=List.map_fst_zip (by rw[EAB.1];exact zL _)
      have hent:=zLa EAB
      generalize hpq:(es++fs).zip (cs++ds)=pq at hz1 hz2 hent
      refine⟨D2,zs,pcV pq,rfl,SqL.of hD4,⟨?_,fun m y hy=>?_⟩,fun d hd=>?_⟩
      . have:=congrArg List.length hz1
        rw[zB] at this
        unfold pcV
        rw[zB,hzl,this]
      . obtain⟨c,e,x,h1,h2,h3,h4⟩:=hzs m y hy
        refine⟨c,Sum.inl e.h,.ref x,h1,h4,?_⟩
        unfold pcV
        rw[zO,hz2 m e x h2 h3];rfl
      obtain⟨rs,ers,rnd,rsub,rall⟩:=zHx pq
      rw[ers]
      have pqm:∀e,e∈es++fs↔∃x∈pq,x.1=e:=fun e=>by rw[<-hz1,zi]
      have U:LU ts n q B (rs.map (·.1)):=LU.both LMe LMf (by rw[zAZ];exact rnd) (fun e he=>by
       obtain⟨x,hx,rfl⟩:=zi.mp he
       exact zu.mp ((pqm x.1).mpr ⟨x,rsub x hx,rfl⟩)) (fun e he=>by
       obtain⟨x,hx,rfl⟩:=(pqm e).mp (zAE _ he)
       rw[zAZ];exact rall x hx)
      have s4d:=s4.trans (zG (o:=.dK (pcV rs)) hd)
      have hDd:D≠d:=zh (s4 _ _ (s3 _ _ hD2)) hd
      have hdd:(upd H4 d (.dK (pcV rs))) d=some (.dK (pcV rs)):=zJ
      generalize upd H4 d (.dK (pcV rs))=H5 at s4d hdd ⊢
      have rsl:rs.length<=24:=by have:=U.len hn24;rwa [zB] at this
      have s25:=s23.trans s4d
      have hD5:=s4d _ _ (s3 _ _ hD2)
      refine⟨_,rfl,.inl ⟨rfl,_,SqL.of hD5⟩,_,rfl,d,_,_,rfl,hdd,zEx rs,by rw[zB];omega,fun LK mk hLK pmk st=>?_⟩
      have sK:=zG (o:=.lst (mk.map V.int)) hLK
      have hLKK:(upd H5 LK (.lst (mk.map V.int))) LK=some (.lst (mk.map V.int)):=zJ
      have mkl:mk.length<=24:=by rw[pmk.length_eq,zB];exact rsl
      generalize upd H5 LK (.lst (mk.map V.int))=H6 at sK hLKK ⊢
      refine⟨LK,rfl,⟨_,SqL.of hLKK⟩,[.ref d],rfl,fun D3 hD3=>?_⟩
      have hd6:=sK _ _ hdd
      have s26:=s25.trans sK
      refine zBz (a:=LK) (xs:=mk.map V.int) (fun m zs H7=>m<=mk.length/\∃(cs:List Addr)(gs:List En),zs=cs.map V.ref/\gs.length=m/\zCI H7 cs gs/\(∀(q:Nat)(e:En),gs[q]? = some e->mk[q]? = some e.h/\e∈rs.map (·.1))/\zA1 H6 H7/\H7 D3=some (.lst zs)) ⟨zc _,[],[],rfl,rfl,⟨rfl,fun i b z=>by simp at z⟩,(fun q e z=>by simp at z),zG hD3,zJ⟩ (fun m zs H7 h=>?_) (fun m zs H7 h=>?_) (fun m v zs H7 hv h=>?_) (fun zs H7 h=>?_)
      . obtain⟨_,_,_,_,_,_,_,s7,_⟩:=h
        exact SqL.of (s7 _ _ hLKK)
      . obtain⟨hm,cs,gs,rfl,hgs,EG,_⟩:=h
        rw[zB,EG.1,hgs]
        exact zAd (by omega)
      . obtain⟨_,cs,gs,rfl,hgs,EG,hG,s7,hD7⟩:=h
        rw[zO] at hv
        cases hh:mk[m]? with
        | none=>rw[hh] at hv;cases hv
        | some h=>
        rw[hh] at hv
        cases hv
        obtain⟨⟨e,x⟩,hxm,rfl,hvx⟩:=zE8 (pmk.mem_iff.mp (zS hh))
        have hx7:=s7 _ _ (s26 _ _ (hent _ (rsub _ hxm)))
        refine⟨⟨rfl,rfl⟩,?_⟩
        refine zD8 ?_
        refine⟨_,rfl,_,rfl,d,.ref x,rfl,by rw[<-hvx];exact zCz.k (k:=Sum.inl e.h) (s7 _ _ hd6),hD7,(zE.mp hh).1,cs++[x],gs++[e],by rw[zQ];rfl,by rw[zI,hgs];rfl,?_,fun q' f hq=>?_,zAF s7 hD3,zJ⟩
        . have kp:∀b us,H7 b=some (.tup us)->(upd H7 D3 (.lst (cs.map V.ref++[.ref x]))) b=some (.tup us):=fun b us z=>by rw[zZ (zA5 z hD7 (by intro w;cases w))];exact z
          exact (EG.keep kp).snoc (kp _ _ hx7)
        . by_cases cq:q'<gs.length
          . rw[zN cq] at hq
            exact hG q' f hq
          . have eq:q'=gs.length:=by
             have:=(zE.mp hq).1
             rw[zI] at this
             simp at this;omega
            subst eq
            rw[zM (zL _),zAp] at hq
            have ey:e=f:=by simpa using hq
            subst ey
            exact⟨by rw[hgs];exact hh,zi.mpr ⟨_,hxm,rfl⟩⟩
      . obtain⟨_,cs',gs,rfl,hgs,EG,hG,s7,hD7⟩:=h
        rw[zB] at hgs
        refine⟨D3,_,rfl,.inl ⟨SqL.of hD7,fun b' hb'=>?_⟩⟩
        have sb:=zG (o:=.tup (cs'.map V.ref)) hb'
        have s58:=(sK.trans s7).trans sb
        have s18:zA1 H1 (upd H7 b' (.tup (cs'.map V.ref))):=((sT.trans s3).trans s4d).trans s58
        have s08:=s25.trans s58
        have hDb:=s58 _ _ hD5
        have LC:zB6 (upd H7 b' (.tup (cs'.map V.ref))) b' gs:=⟨cs',zJ,EG.keep fun b us z=>sb _ _ z,by omega⟩
        have LMg:LM ts n q B gs:=LM.of_sorted U hgs (by rw[zAZ];exact pmk) st hG
        generalize upd H7 b' (.tup (cs'.map V.ref))=H8 at s18 s08 hDb LC ⊢
        refine⟨D,_,_,rfl,rfl,hDb,by rw[zB,LB.1];exact zAd (by omega),?_⟩
        have kp:∀x us,H8 x=some (.tup us)->(upd H8 D (.lst (bs.map V.ref++[.ref b']))) x=some (.tup us):=fun x us z=>by rw[zZ (zA5 z hDb (by intro w;cases w))];exact z
        exact⟨_,_,_,bs++[b'],gss++[gs],rfl,by rw[zI,hgl];rfl,by rw[zQ];exact zJ,((LB.keep fun x us z=>s18 _ _ z).keep kp).snoc (LC.keep kp),LM'.snoc hgl LMg,zAF s08 hD⟩
end
noncomputable def zJ8:Sp:=fun vs H Q _=>∃(t wa:Addr)(N:Nat)(n:Int)(ts:List T3),vs=[.ref t,.ref wa]/\zAU H t N/\N<300000/\zBh H wa n ts/\n<=6 /\
 ∀(l:Addr)(ess:List (List En))(H':Hp),zBF H' l ess->ess.length=n.toNat->LMs ts n 20000 ess->zAU H' t (N+12000)->Sm t H H'->Q (.ref l) H'
structure SomI (t wa fl l:Addr)(n:Int)(ts:List T3)(M:List (List (Option Int)))(N:Nat)(B:Int)(ess:List (List En))(H:Hp):Prop where
 tp:zAU H t N
 wb:zBh H wa n ts
 fr:zCQ H fl n ts M
 lb:zBF H l ess
 ln:ess.length=n.toNat
 lm:LMs ts n B ess
noncomputable def SomU (t wa:Addr)(n:Int)(ts:List T3)(B C:Int)(k:Nat):TS:=fun D σ H=>∃(fl l:Addr)(M:List (List (Option Int)))(v:Int)(N:Nat)(ess:List (List En)),σ=[some (.ref t),some (.ref wa),some (.ref fl),some (.ref l),some (.int v)]/\N<400000/\SomI t wa fl l n ts M N B ess H /\
 ∀(l':Addr)(fss:List (List En))(H':Hp),SomI t wa fl l' n ts M (N+k) C fss H'->Sm t H H'->D.nx [some (.ref t),some (.ref wa),some (.ref fl),some (.ref l'),some (.int v)] H'
theorem zBF.sm {H H':Hp}{t l:Addr}{N:Nat}{ess:List (List En)}(h:zBF H l ess)(T:zAU H t N)(s:Sm t H H'):zBF H' l ess:=by
 obtain⟨as,h1,h2,h3⟩:=h
 refine⟨as,s _ _ (zAU.neT T h1) h1,h2,fun i a e=>?_⟩
 obtain⟨es,e1,e2⟩:=h3 i a e
 exact⟨es,e1,e2.sm T s⟩
theorem SomI.sm {t wa fl l l':Addr}{n:Int}{ts:List T3}{M:List (List (Option Int))}{N N':Nat}{B C:Int}{ess fss:List (List En)}{H H':Hp}(h:SomI t wa fl l n ts M N B ess H)(s:Sm t H H')(T:zAU H' t N')(L:zBF H' l' fss)(e:fss.length=n.toNat)(m:LMs ts n C fss):SomI t wa fl l' n ts M N' C fss H':=by
 obtain⟨p,hp⟩:=id h.tp
 exact⟨T,h.wb.smt hp s,h.fr.sm h.tp s,L,e,m⟩
section
variable {P:Program}{w:World}{K:PySem.W.Frag}{mg:Str->Option Value}{base:Heap}
theorem zDH:zAR ["_law_tape_here", "_law_web_here", "_law_far_here", "_law_labels_here", "_law_way"] ["_law_tape_here", "_law_web_here"] (defScope zJL):=⟨rfl,rfl,rfl,by decide +kernel,rfl,by decide +kernel,by decide +kernel⟩
theorem zLC {fU fS fG:Addr}{fdU fdS fdG:FuncData}(F:Fun K "_law_some" "_law_some" zJL f fd')
 (FD:Fun K "_law_draw" "_law_draw" zEB fD fdD) (bD:zAP K fdD ["_law_tape_here", "_law_many"] []) (mD:mg "_law_draw" = some (.ref fD)) (GD:zAq P w K mg base CX0 4 fD fdD ["_law_tape_here", "_law_many"] zFD)
 (FF:Fun K "_law_far" "_law_far" sFar fF fdF) (bF:zAP K fdF ["_law_web_here"] []) (mF:mg "_law_far" = some (.ref fF)) (GF:zAq P w K mg base CX0 4 fF fdF ["_law_web_here"] zJH)
 (FO:Fun K "_law_order" "_law_order" zFJ fO fdO) (bO:zAP K fdO ["_law_tape_here", "_law_n"] []) (mO:mg "_law_order" = some (.ref fO)) (GO:zAq P w K mg base CX0 4 fO fdO ["_law_tape_here", "_law_n"] zEg)
 (FL:Fun K "_law_labels" "_law_labels" zFL fL fdL) (bL:zAP K fdL ["_law_web_here", "_law_order_here"] []) (mL:mg "_law_labels" = some (.ref fL)) (GL:zAq P w K mg base CX0 4 fL fdL ["_law_web_here", "_law_order_here"] zFx)
 (FU:Fun K "_law_full" "_law_full" zHr fU fdU) (bU:zAP K fdU ["_law_web_here", "_law_far_here"] []) (mU:mg "_law_full" = some (.ref fU)) (GU:zAq P w K mg base CX0 4 fU fdU ["_law_web_here", "_law_far_here"] zHd)
 (FE:Fun K "_law_either" "_law_either" zHu fE fdE) (bE:zAP K fdE ["_law_labels_here", "_law_others"] []) (mE:mg "_law_either" = some (.ref fE)) (GE:zAq P w K mg base CX0 4 fE fdE ["_law_labels_here", "_law_others"] zHg)
 (FS:Fun K "_law_loose" "_law_loose" zFK fS fdS) (bS:zAP K fdS ["_law_tape_here", "_law_web_here", "_law_far_here", "_law_labels_here"] []) (mS:mg "_law_loose" = some (.ref fS)) (GS:zAq P w K mg base CX0 4 fS fdS ["_law_tape_here", "_law_web_here", "_law_far_here", "_law_labels_here"] zFw)
 (FG:Fun K "_law_longer" "_law_longer" zDd fG fdG) (bG:zAP K fdG ["_law_tape_here", "_law_web_here", "_law_far_here", "_law_labels_here"] []) (mG:mg "_law_longer" = some (.ref fG)) (GG:zAq P w K mg base CX0 4 fG fdG ["_law_tape_here", "_law_web_here", "_law_far_here", "_law_labels_here"] zEh) :
 zAq P w K mg base CX0 5 f fd' ["_law_tape_here", "_law_web_here"] zJ8:=by
 refine F.ok zDH (fun vs H Q E h=>?_) (fun cdv A outer s H vs Q E hr h=>?_)
 . obtain⟨t,wa,N,n,ts,rfl,_⟩:=h
   rfl
 . obtain⟨t,wa,N,n,ts,rfl,T,hN,W,hn6,k⟩:=h
   obtain⟨ta,tys,hwa,_,_,G⟩:=id W
   have hn1:=G.n1
   refine⟨_,zW (zAN (i:=2) zDH.nd rfl (Or.inl rfl) (zx GF hr rfl mF FF.kp bF .nil zAl (zF (pv 1) zT)))
    (zW (zAN (i:=3) zDH.nd rfl (Or.inl rfl) (zx GL hr rfl mL FL.kp bL .nil zAl (zF (pv 1) (zF (zx GO hr rfl mO FO.kp bO .nil zAl (zF (pv 0) (zF (zAH zAr (pv 1) zAA (fun _ _=>rfl)) zT))) zT))))
    (zW (zAN (i:=4) zDH.nd rfl (Or.inl rfl) (zx GD hr rfl mD FD.kp bD .nil zAl (zF (pv 0) (zCV zT))))
    (zW (zHy (u':=SomU t wa n ts 2376 2376 0) (zCK (zAQ zCv (pv 4) zAA (zAc _)) (zn (zAN (i:=3) zDH.nd rfl (Or.inl rfl) (zx GU hr rfl mU FU.kp bU .nil zAl (zF (pv 1) (zF (pv 2) zT))))) zA7) (fun D σ H1 z=>by
     obtain⟨fl,l,M,v,N0,ess,rfl,hN0,I,z⟩:=z
     refine⟨_,rfl,rfl,_,rfl,?_⟩
     refine zDO (fun _=>?_) (fun _=>z l ess H1 I (Sm.refl _ _))
     refine⟨_,rfl,_,rfl,wa,fl,n,ts,M,rfl,I.wb,I.fr,fun l' fss H2 s2 LA hl LM'=>?_⟩
     exact z l' fss H2 (I.sm (Sm.of s2) (I.tp.keep s2) LA hl LM') (Sm.of s2)))
    (zW (zHy (u':=SomU t wa n ts 2376 2376 24) (zCK (zAQ zCv (pv 4) zAA (zAc _)) (zn (zAN (i:=3) zDH.nd rfl (Or.inl rfl) (zx GE hr rfl mE FE.kp bE .nil zAl (zF (pv 3) (zF
     (zx GL hr rfl mL FL.kp bL .nil zAl (zF (pv 1) (zF (zx GO hr rfl mO FO.kp bO .nil zAl (zF (pv 0) (zF (zAH zAr (pv 1) zAA (fun _ _=>rfl)) zT))) zT))) zT))))) zA7) (fun D σ H1 z=>by
     obtain⟨fl,l,M,v,N0,ess,rfl,hN0,I,z⟩:=z
     obtain⟨ta1,tys1,hwa1,_,_,_⟩:=id I.wb
     refine⟨_,rfl,rfl,_,rfl,?_⟩
     refine zDO (fun _=>?_) (fun _=>z l ess H1 (I.sm (Sm.refl _ _) (zAU.mono I.tp (by omega)) I.lb I.ln I.lm) (Sm.refl _ _))
     refine⟨_,rfl,_,rfl,_,rfl,_,rfl,wa,_,_,_,rfl,rfl,SqT.of hwa1,rfl,t,N0,n,rfl,I.tp,by omega,by omega,by omega,fun ol os H2 hol O T2 s2=>?_⟩
     have I2:=I.sm s2 T2 (I.lb.sm I.tp s2) I.ln I.lm
     refine⟨wa,ol,n,ts,os,rfl,I2.wb,hol,O,fun l2 fss rk H3 s3 LA RK LO bd=>?_⟩
     refine⟨l,l2,n,2376,ts,ess,fss,rfl,by omega,I2.lb.sm I2.tp (Sm.of s3),LA,I.ln,LO.1,I.lm,LO.lm G bd,fun l' gss H4 s4 LA4 hl4 LM4=>?_⟩
     exact z l' gss H4 (I2.sm (Sm.of (s3.trans s4)) (I2.tp.keep (s3.trans s4)) LA4 hl4 LM4) (s2.trans (Sm.of (s3.trans s4)))))
    (zW (zHy (u':=SomU t wa n ts 2376 2376 1200) (zCK (zAQ zF1 (pv 4) zAA (zAc _)) (zn (zAN (i:=3) zDH.nd rfl (Or.inl rfl) (zx GS hr rfl mS FS.kp bS .nil zAl (zF (pv 0) (zF (pv 1) (zF (pv 2) (zF (pv 3) zT))))))) zA7) (fun D σ H1 z=>by
     obtain⟨fl,l,M,v,N0,ess,rfl,hN0,I,z⟩:=z
     refine⟨_,rfl,_,_,rfl,rfl,_,rfl,?_⟩
     refine zDO (fun _=>?_) (fun _=>z l ess H1 (I.sm (Sm.refl _ _) (zAU.mono I.tp (by omega)) I.lb I.ln I.lm) (Sm.refl _ _))
     obtain⟨p,hp⟩:=id I.tp
     refine⟨_,rfl,_,rfl,_,rfl,_,rfl,t,p,wa,fl,l,N0,n,2376,ts,M,ess,rfl,hp,by omega,I.wb,I.fr,I.lb,I.ln,I.lm,fun l' fss H2 LA hl LM' T2 s2=>?_⟩
     exact z l' fss H2 (I.sm s2 ⟨p,T2⟩ LA hl LM') s2))
    (zW (zHy (u':=SomU t wa n ts 2376 20000 10000) (zCK (zAQ zF1 (pv 4) zAA (zAc _)) (zn (zAN (i:=3) zDH.nd rfl (Or.inl rfl) (zx GG hr rfl mG FG.kp bG .nil zAl (zF (pv 0) (zF (pv 1) (zF (pv 2) (zF (pv 3) zT))))))) zA7) (fun D σ H1 z=>by
     obtain⟨fl,l,M,v,N0,ess,rfl,hN0,I,z⟩:=z
     refine⟨_,rfl,_,_,rfl,rfl,_,rfl,?_⟩
     refine zDO (fun _=>?_) (fun _=>z l ess H1 (I.sm (Sm.refl _ _) (zAU.mono I.tp (by omega)) I.lb I.ln (I.lm.mono (by omega))) (Sm.refl _ _))
     obtain⟨p,hp⟩:=id I.tp
     refine⟨_,rfl,_,rfl,_,rfl,_,rfl,t,p,wa,fl,l,N0,n,ts,M,ess,rfl,hp,by omega,I.wb,hn6,I.fr,I.lb,I.ln,I.lm,fun l' fss H2 LA hl LM' T2 s2=>?_⟩
     exact z l' fss H2 (I.sm s2 ⟨p,T2⟩ LA hl LM') s2))
    (zn (zAb (pv 3))))))))),?_⟩
   refine⟨_,rfl,wa,n,ts,rfl,W,fun fl rs M H1 s1 hfl LR RW=>?_⟩
   have FR:zCQ H1 fl n ts M:=⟨rs,hfl,LR,RW⟩
   have W1:=W.keep s1
   have T1:=T.keep s1
   refine⟨_,rfl,_,rfl,_,rfl,wa,_,_,_,rfl,rfl,SqT.of (s1 _ _ hwa),rfl,t,N,n,rfl,T1,by omega,by omega,by omega,fun ol os H2 hol O T2 s2=>?_⟩
   obtain⟨p1,hp1⟩:=id T1
   have W2:=W1.smt hp1 s2
   have FR2:=FR.sm T1 s2
   refine⟨wa,ol,n,ts,os,rfl,W2,hol,O,fun l ess rk H3 s3 LA RK LO bd=>?_⟩
   refine⟨_,rfl,t,N+24,6,rfl,T2.keep s3,by omega,by decide,by decide,fun v H4 v0 v1 T4 he4=>?_⟩
   obtain⟨p2,hp2⟩:=id T2
   have s24:=(Sm.of s3).trans (zFE he4)
   have I4:SomI t wa fl l n ts M (N+24+1) 2376 ess H4:=⟨T4,W2.smt hp2 s24,FR2.sm T2 s24,(LA.sm (T2.keep s3) (zFE he4)),LO.1,LO.lm G bd⟩
   have s04:=((Sm.of s1).trans s2).trans s24
   refine⟨fl,l,M,v,_,ess,rfl,by omega,I4,fun l5 ess5 H5 I5 s5=>?_⟩
   refine⟨fl,l5,M,v,_,ess5,rfl,by omega,I5,fun l6 ess6 H6 I6 s6=>?_⟩
   refine⟨fl,l6,M,v,_,ess6,rfl,by omega,I6,fun l7 ess7 H7 I7 s7=>?_⟩
   refine⟨fl,l7,M,v,_,ess7,rfl,by omega,I7,fun l8 ess8 H8 I8 s8=>?_⟩
   exact⟨_,rfl,k l8 ess8 H8 I8.lb I8.ln I8.lm (zAU.mono I8.tp (by omega)) ((((s04.trans s5).trans s6).trans s7).trans s8)⟩
end
noncomputable def oD:Option Int->PyData
 | none=>.none
 | some i=>.int i
noncomputable def entD (e:En):PyData:=.tuple [.int e.h,.int e.l,oD e.u,oD e.d]
noncomputable def labD (es:List En):PyData:=.tuple (es.map entD)
noncomputable def zLQ (ess:List (List En)):PyData:=.tuple (ess.map labD)
theorem sh_oV (H:Hp)(o:Option Int):zCx H (oV o) (oD o):=by
 cases o with
 | none=>exact .non
 | some d=>exact .int d
theorem zKB {H:Hp}:∀{as:List Addr}{es:List En},zCI H as es->zBm H (as.map V.ref) (es.map entD)
 | [],[],_=>.nil
 | [],_::_,h=>by have:=h.1;simp at this
 | _::_,[],h=>by have:=h.1;simp at this
 | a::as,e::es,h=>by
  obtain⟨e',h1,h2⟩:=h.2 0 a rfl
  have:e=e':=by simpa using h1
  subst this
  refine .cons (.tup h2 (.cons (.int _) (.cons (.int _) (.cons (sh_oV H _) (.cons (sh_oV H _) .nil))))) (zKB ⟨by have:=h.1;simpa using this,fun i b hb=>?_⟩)
  obtain⟨e2,h3,h4⟩:=h.2 (i+1) b (by simpa using hb)
  exact⟨e2,by simpa using h3,h4⟩
theorem zGM {H:Hp}:∀{as:List Addr}{ess:List (List En)},as.length=ess.length->(∀(i:Nat)(a:Addr),as[i]? = some a->∃es,ess[i]? = some es/\zB6 H a es)->zBm H (as.map V.ref) (ess.map labD)
 | [],[],_,_=>.nil
 | [],_::_,h,_=>by simp at h
 | _::_,[],h,_=>by simp at h
 | a::as,es::ess,h,k=>by
  obtain⟨es',h1,as',h2,h3,_⟩:=k 0 a rfl
  have:es=es':=by simpa using h1
  subst this
  refine .cons (.tup h2 (zKB h3)) (zGM (by simpa using h) fun i b hb=>?_)
  obtain⟨e2,h4,h5⟩:=k (i+1) b (by simpa using hb)
  exact⟨e2,by simpa using h4,h5⟩
theorem zHk (h:zBF H l ess):zCx H (.ref l) (zLQ ess):=by
 obtain⟨as,h1,h2,h3⟩:=h
 exact .tup h1 (zGM h2 h3)
theorem fn_oD (h:∀d,o=some d->d.natAbs<1000000000):Fn 30 0 (oD o):=by
 cases o with
 | none=>exact zLY.mono (by decide) (by decide)
 | some d=>exact zFd (h d rfl)
theorem zHl {H:Hp}:∀l:List Int,zBm H (l.map V.int) (l.map PyData.int)
 | []=>.nil
 | _::r=>.cons (.int _) (zHl r)
theorem fn_lms (hn:n<=24)(hl:ess.length=n.toNat)(L:LMs ts n 20000 ess):Fn 1048576 50 (zLQ ess):=by
 refine (zGi (n:=3000) (p:=2) (L:=24) (fun d hd=>?_) (by rw[zB];omega)).mono (by decide) (by decide)
 obtain⟨es,hes,rfl⟩:=zi.mp hd
 obtain⟨i,hi,ei⟩:=zd hes
 have LO:=L i es (by rw[zA hi,ei])
 refine (zGi (n:=124) (p:=1) (L:=24) (fun d hd=>?_) (by rw[zB];exact LO.len hn)).mono (by decide) (by decide)
 obtain⟨e,he,rfl⟩:=zi.mp hd
 have hr:=LO.rng e he
 have hb:=LO.nn e he
 have hu:=LO.ud e he
 refine (zGi (n:=30) (p:=0) (L:=4) (ds:=[.int e.h,.int e.l,oD e.u,oD e.d]) (fun d hd=>?_) (zL 4)).mono (by decide) (by decide)
 simp only[zm,List.not_mem_nil,or_false] at hd
 rcases hd with rfl | rfl | rfl | rfl
 . exact zFd (by omega)
 . exact zFd (by omega)
 . exact fn_oD fun x hx=>by have:=hu.1 x hx;omega
 . exact fn_oD fun x hx=>by have:=hu.2 x hx;omega
noncomputable def prD (k:List Int):PyData:=.tuple (k.map PyData.int)
theorem zHj {H:Hp}:∀{xs:List V}{ks:List (List Int)},zAT H xs ks->zBm H xs (ks.map prD)
 | [],[],_=>.nil
 | [],_::_,h=>h.elim
 | _::_,[],h=>h.elim
 | x::xs,t::ts,h=>by
  obtain⟨⟨a,rfl,ha,_⟩,hr⟩:=h
  exact .cons (.tup ha (zHl _)) (zHj hr)
theorem fn_lst {n p L:Nat}{ds:List PyData}(h:∀d∈ds,Fn n p d)(hl:ds.length<=L):Fn (L*(n+1)) (p+1) (.list ds):=by
 obtain⟨a,b,c,e,f⟩:=zIc h
 refine⟨?_,?_,?_,?_,?_⟩
 . simp only[PyData.weight]
   exact zy a (Nat.mul_le_mul_right _ hl)
 . simp only[PyData.depth];omega
 . simp only[PyData.canLay0];exact c
 . simp only[PyData.intsShort];exact e
 . simp only[PyData.showable];exact f
theorem zIX {ess:List (List En)}{k:List Int}:∀{m:Nat},k∈goN ess m->∃(i:Nat)(e:En),i<m/\e∈ess.getD i []/\spB ess i e=true/\k=[(i:Int),e.h]
 | 0,h=>by cases h
 | m+1,h=>by
  rcases zu.mp (show k∈goN ess m++zFb ess m from h) with z | z
  . obtain⟨i,e,a,b⟩:=zIX z
    exact⟨i,e,by omega,b⟩
  . obtain⟨e,he,rfl⟩:=zi.mp z
    obtain⟨h1,h2⟩:=zAu.mp he
    exact⟨m,e,by omega,h1,h2,rfl⟩
theorem zIZ {k:List Int}(h:k∈goL ess):∃(i:Nat)(es:List En)(e:En),ess[i]? = some es/\e∈es/\spB ess i e=true/\k=[(i:Int),e.h]:=by
 obtain⟨i,e,a,b,c,d⟩:=zIX h
 refine⟨i,ess[i],e,zA a,?_,c,d⟩
 rw[zD,zA a] at b
 exact b
theorem fn_go (hn:n<=24)(hl:ess.length=n.toNat)(L:LMs ts n 20000 ess):Fn 1048576 50 (.list ((goL ess).map prD)):=by
 have hlen:=zEy (ess:=ess) (L.len hn) ess.length
 refine (fn_lst (n:=62) (p:=1) (L:=576) (fun d hd=>?_) (by rw[zB];exact zy hlen (by omega))).mono (by decide) (by decide)
 obtain⟨k,hk,rfl⟩:=zi.mp hd
 obtain⟨i,es,e,hes,he,_,rfl⟩:=zIZ hk
 have hi:=(zE.mp hes).1
 have hr:=(L i es hes).rng e he
 refine (zGi (n:=30) (p:=0) (L:=2) (ds:=[.int (i:Int),.int e.h]) (fun d hd=>?_) (zL 2)).mono (by decide) (by decide)
 simp only[zm,List.not_mem_nil,or_false] at hd
 rcases hd with rfl | rfl
 . exact zFd (by omega)
 . exact zFd (by omega)
theorem zLV (G:GW n ts)(R:zKQ n os rk)(L:zFu ts n rk ess)(bd:∀es∈ess,∀e∈es,0<=e.l/\e.l<=2376):goL ess=[]:=by
 have LM':=L.lm G bd
 have hn:=G.n24
 cases hg:goL ess with
 | nil=>rfl
 | cons k r=>
  exfalso
  obtain⟨i,es,e,hes,he,hsp,_⟩:=zIZ (ess:=ess) (k:=k) (by rw[hg];exact zl)
  have hi:=(zE.mp hes).1
  have hln:=L.1
  have LE:=L.2 i es hes
  have E:=LE.ent e he
  have hr:=E.rng
  have hh:e.h.toNat<ess.length:=by omega
  obtain⟨fs,hfs⟩:∃fs,ess[e.h.toNat]? = some fs:=⟨_,zA hh⟩
  have LF':=L.2 _ fs hfs
  have hc:((e.h.toNat:Nat):Int)=e.h:=by omega
  have MF:=LM' _ fs hfs
  rw[hc] at LF' MF
  obtain⟨f,hf,ef⟩:=MF.own
  have f0:=(MF.zero f hf).mpr ef
  unfold spB at hsp
  rw[Bool.and_eq_true] at hsp
  have hall:=zAy.mp hsp.2 fs (zS hfs)
  have heq:=of_decide_eq_true hall
  have hget:ess.getD i []=es:=by rw[zD,hes];rfl
  rw[hget] at heq
  have m1:=zDC (sE es fs)
  have m2:=zDC (sE (zC8 es e.h) fs)
  unfold tv at heq
  rw[heq] at m2
  have hin:e.l+f.l∈sE es fs:=(zEQ LF'.hub).mpr ⟨e,he,f,hf,ef,rfl⟩
  cases hm:minL (sE es fs) with
  | none=>
   rw[hm] at m1
   rw[show sE es fs=[] from m1] at hin
   cases hin
  | some m=>
   rw[hm] at m1 m2
   have hle:=m1.2 _ hin
   obtain⟨e',he',f',hf',hh',rfl⟩:=(zEQ LF'.hub).mp m2.1
   obtain⟨he1,hne⟩:=zEv.mp he'
   have E':=LE.ent e' he1
   have F':=LF'.ent f' hf'
   have d1:=E.len
   have d2:=E'.len
   have d3:=F'.len
   rw[hh'] at d3
   have d3s:=WM.IsD.symm d3
   have tri:=d1.2 _ (d2.1.trans d3s.1)
   have hs:e'.l+f'.l=e.l:=by omega
   have b1:Btw ts e.h i e'.h:=⟨f'.l,e'.l,d3,WM.IsD.symm d2,by rw[Int.add_comm,hs];exact WM.IsD.symm d1⟩
   have r1:=E.hub.2 _ b1
   have b2:Btw ts e'.h e.h e.h:=⟨f'.l,0,d3s,zCS G _,by rw[Int.add_zero];exact d3s⟩
   have r2:rk e'.h<=rk e.h:=by
    have:=F'.hub.2 e.h (by rw[hh'];exact b2)
    rwa [hh'] at this
   have hr':=E'.rng
   have o1:=R e.h hr.1 hr.2
   have o2:=R e'.h hr'.1 hr'.2
   have er:rk e.h=rk e'.h:=by omega
   rw[er] at o1
   have:=o1.2.symm.trans o2.2
   exact hne (zR this).symm
noncomputable def zJG (K:PySem.W.Frag)(PT:Addr):Sp:=fun vs H Q _=>∃(a:Addr)(ns:List Int),vs=[.ref a]/\SqL K H a (ns.map V.int)/\ns.length<=63/\H PT=some (.tbl #[])/\∀(H':Hp),Q (.bl true) H'
theorem zAU.smT {t:Addr}(h:zAU H t N)(k:SmT H H'):zAU H' t N:=by
 obtain⟨p,ns,spot,rest,a,b,c⟩:=h
 exact⟨p,ns,spot,rest,k.get a (by intro ps z;cases z),k.get b (by intro ps z;cases z),c⟩
theorem zJy {t PT:Addr}(T:Tb H PT)(tp:zAU H t N)(k:∀b o,b≠t->H b=some o->H' b=some o):Tb H' PT:=by
 obtain⟨p,ns,spot,rest,a,_⟩:=tp
 obtain⟨ps,hps,_⟩:=id T
 exact T.keep (fun o ho=>k _ _ (zA5 hps a (by intro z;cases z)) ho) fun c φ hc=>k _ _ (zA5 hc a (by intro z;cases z)) hc
section
variable {P:Program}{w:World}{K:PySem.W.Frag}{mg:Str->Option Value}{base:Heap}{PT:Addr}
theorem zEk:zAR ["_law_script", "_law_tape_here", "_law_k", "_law_web_here", "_law_labels_here", "_law_due", "_law_kept", "_law_turn", "_law_found"] ["_law_script"] (defScope sLaw):=⟨rfl,rfl,rfl,by decide +kernel,rfl,by decide +kernel,by decide +kernel⟩
theorem ok_law {fTa fT fNe fLe fBw fNb fNu fWi fTo fPl fIo fBy fLb fIh fEb fLs fFr fOn fNs fOr fEn fLa fFu fEi fLo fLg fSo fTd fAt fSp fTl fLm fFa fCg fIs:Addr}{fdTa fdNe fdLe fdBw fdNb fdNu fdWi fdTo fdPl fdIo fdBy fdLb fdIh fdEb fdLs fdFr fdOn fdNs fdOr fdEn fdLa fdFu fdEi fdLo fdLg fdSo fdTd fdAt fdSp fdTl fdLm fdFa fdCg fdIs:FuncData}(F:Fun K "law" "law" sLaw f fd') (C:PySem.W.CodeHd base c PT)(hbm:zI2 mg base)
 (FTa:Fun K "_law_tape" "_law_tape" zJK fTa fdTa) (bTa:zAP K fdTa ["_law_script"] []) (mTa:mg "_law_tape" = some (.ref fTa))
 (FD:Fun K "_law_draw" "_law_draw" zEB fD fdD) (bD:zAP K fdD ["_law_tape_here", "_law_many"] []) (mD:mg "_law_draw" = some (.ref fD))
 (FW:Fun K "_law_web" "_law_web" sWeb fW fdW) (bW:zAP K fdW ["_law_tape_here", "_law_n"] []) (mW:mg "_law_web" = some (.ref fW))
 (FT:Fun K "ties_at" "ties_at" zFz fT fdT) (bT:zAP K fdT ["web", "place"] []) (mT:mg "ties_at" = some (.ref fT))
 (FNe:zJ1 K "nearest" "nearest" zHp fNe fdNe c) (bNe:zAP K fdNe ["waiting"] []) (mNe:mg "nearest" = some (.ref fNe))
 (FF:Fun K "lengths_from" "lengths_from" zHs fF fdF) (bF:zAP K fdF ["web", "start"] []) (mF:mg "lengths_from" = some (.ref fF))
 (FLe:Fun K "lengths" "lengths" zHq fLe fdLe) (bLe:zAP K fdLe ["web"] []) (mLe:mg "lengths" = some (.ref fLe))
 (FBw:Fun K "between_rows" "between_rows" sBwr fBw fdBw) (bBw:zAP K fdBw ["here", "there", "other"] []) (mBw:mg "between_rows" = some (.ref fBw))
 (FNb:Fun K "next_by_row" "next_by_row" sNbr fNb fdNb) (bNb:zAP K fdNb ["web", "one", "there"] []) (mNb:mg "next_by_row" = some (.ref fNb))
 (FNu:Fun K "is_number" "is_number" zKr fNu fdNu) (bNu:zAP K fdNu ["thing"] []) (mNu:mg "is_number" = some (.ref fNu))
 (FWi:Fun K "is_within" "is_within" sWi fWi fdWi) (bWi:zAP K fdWi ["thing", "least", "most"] []) (mWi:mg "is_within" = some (.ref fWi))
 (FTo:Fun K "is_tuple_of" "is_tuple_of" sTof fTo fdTo) (bTo:zAP K fdTo ["thing", "count"] []) (mTo:mg "is_tuple_of" = some (.ref fTo))
 (FPl:Fun K "is_place" "is_place" sPl fPl fdPl) (bPl:zAP K fdPl ["n", "thing"] []) (mPl:mg "is_place" = some (.ref fPl))
 (FIo:Fun K "is_order" "is_order" sOrd fIo fdIo) (bIo:zAP K fdIo ["web", "thing"] []) (mIo:mg "is_order" = some (.ref fIo))
 (FBy:Fun K "by_order" "by_order" sByo fBy fdBy) (bBy:zAP K fdBy ["web", "order"] []) (mBy:mg "by_order" = some (.ref fBy))
 (FLb:Fun K "label_by_ranks" "label_by_ranks" sLbr fLb fdLb) (bLb:zAP K fdLb ["web", "rows", "ranks", "place"] []) (mLb:mg "label_by_ranks" = some (.ref fLb))
 (FIh:Fun K "is_hub" "is_hub" sIsh fIh fdIh) (bIh:zAP K fdIh ["rows", "ranks", "hub", "place"] []) (mIh:mg "is_hub" = some (.ref fIh))
 (FEb:Fun K "entry_by_rows" "entry_by_rows" sEbr fEb fdEb) (bEb:zAP K fdEb ["web", "rows", "place", "hub"] []) (mEb:mg "entry_by_rows" = some (.ref fEb))
 (FA:Fun K "_law_added" "_law_added" sAdd fA fdA) (bA:zAP K fdA ["_law_one", "_law_other"] []) (mA:mg "_law_added" = some (.ref fA))
 (FLs:Fun K "_law_lesser" "_law_lesser" sLes fLs fdLs) (bLs:zAP K fdLs ["_law_one", "_law_other"] []) (mLs:mg "_law_lesser" = some (.ref fLs))
 (FFr:Fun K "_law_far" "_law_far" sFar fFr fdFr) (bFr:zAP K fdFr ["_law_web_here"] []) (mFr:mg "_law_far" = some (.ref fFr))
 (FOn:Fun K "_law_on" "_law_on" sOn fOn fdOn) (bOn:zAP K fdOn ["_law_far_here", "_law_place", "_law_one", "_law_other"] []) (mOn:mg "_law_on" = some (.ref fOn))
 (FJ:Fun K "_law_joined" "_law_joined" zKs fJ fdJ) (bJ:zAP K fdJ ["_law_web_here"] []) (mJ:mg "_law_joined" = some (.ref fJ))
 (FNs:Fun K "_law_nexts" "_law_nexts" sNxs fNs fdNs) (bNs:zAP K fdNs ["_law_web_here", "_law_far_here", "_law_one", "_law_other"] []) (mNs:mg "_law_nexts" = some (.ref fNs))
 (FOr:Fun K "_law_order" "_law_order" zFJ fOr fdOr) (bOr:zAP K fdOr ["_law_tape_here", "_law_n"] []) (mOr:mg "_law_order" = some (.ref fOr))
 (FEn:Fun K "_law_entry" "_law_entry" zG0 fEn fdEn) (bEn:zAP K fdEn ["_law_web_here", "_law_far_here", "_law_place", "_law_hub"] []) (mEn:mg "_law_entry" = some (.ref fEn))
 (FLa:Fun K "_law_labels" "_law_labels" zFL fLa fdLa) (bLa:zAP K fdLa ["_law_web_here", "_law_order_here"] []) (mLa:mg "_law_labels" = some (.ref fLa))
 (FFu:Fun K "_law_full" "_law_full" zHr fFu fdFu) (bFu:zAP K fdFu ["_law_web_here", "_law_far_here"] []) (mFu:mg "_law_full" = some (.ref fFu))
 (FEi:Fun K "_law_either" "_law_either" zHu fEi fdEi) (bEi:zAP K fdEi ["_law_labels_here", "_law_others"] []) (mEi:mg "_law_either" = some (.ref fEi))
 (FLo:Fun K "_law_loose" "_law_loose" zFK fLo fdLo) (bLo:zAP K fdLo ["_law_tape_here", "_law_web_here", "_law_far_here", "_law_labels_here"] []) (mLo:mg "_law_loose" = some (.ref fLo))
 (FLg:Fun K "_law_longer" "_law_longer" zDd fLg fdLg) (bLg:zAP K fdLg ["_law_tape_here", "_law_web_here", "_law_far_here", "_law_labels_here"] []) (mLg:mg "_law_longer" = some (.ref fLg))
 (FSo:Fun K "_law_some" "_law_some" zJL fSo fdSo) (bSo:zAP K fdSo ["_law_tape_here", "_law_web_here"] []) (mSo:mg "_law_some" = some (.ref fSo))
 (FTd:Fun K "_law_told" "_law_told" sTdl fTd fdTd) (bTd:zAP K fdTd ["_law_one", "_law_other"] []) (mTd:mg "_law_told" = some (.ref fTd))
 (FAt:Fun K "_law_all_told" "_law_all_told" sAll fAt fdAt) (bAt:zAP K fdAt ["_law_labels_here"] []) (mAt:mg "_law_all_told" = some (.ref fAt))
 (FSp:Fun K "_law_spare" "_law_spare" zGP fSp fdSp) (bSp:zAP K fdSp ["_law_labels_here"] []) (mSp:mg "_law_spare" = some (.ref fSp))
 (FTl:Fun K "told" "told" zHo fTl fdTl) (bTl:zAP K fdTl ["one", "other"] []) (mTl:mg "told" = some (.ref fTl))
 (FLm:Fun K "least_sum" "least_sum" sSum fLm fdLm) (bLm:zAP K fdLm ["one", "other"] []) (mLm:mg "least_sum" = some (.ref fLm))
 (FFa:Fun K "far_entries" "far_entries" zHt fFa fdFa) (bFa:zAP K fdFa ["labels"] []) (mFa:mg "far_entries" = some (.ref fFa))
 (FCg:Fun K "can_go" "can_go" sCan fCg fdCg) (bCg:zAP K fdCg ["labels"] []) (mCg:mg "can_go" = some (.ref fCg))
 (FIs:Fun K "is_spare" "is_spare" sIsp fIs fdIs) (bIs:zAP K fdIs ["labels", "place", "entry"] []) (mIs:mg "is_spare" = some (.ref fIs))
 (mLen:mg "len" = none) (mRange:mg "range" = none) (mTuple:mg "tuple" = none) (mSorted:mg "sorted" = none) (mMin:mg "min" = none) (mList:mg "list" = none) (mIsi:mg "isinstance" = none) (mInt:mg "int" = none) (mBool:mg "bool" = none) (mAll:mg "all" = none) (mSet:mg "set" = none) (mRepr:mg "repr" = none) (mDict:mg "dict" = none) (mZip:mg "zip" = none) (mEnum:mg "enumerate" = none):zAq P w K mg base CX0 7 f fd' ["_law_script"] (zJG K PT):=by
 have GTa:zAq P w K mg base CX0 6 fTa fdTa ["_law_script"] (zJ7 K):=(zLB FTa).mono (by decide)
 have GD1:zAq P w K mg base CX0 1 fD fdD ["_law_tape_here", "_law_many"] zFD:=zIC FD mLen
 have GDP:zAq P w K mg base CX0 2 fD fdD ["_law_tape_here", "_law_many"] zDa:=(zEt FD mLen).mono (by decide)
 have GD:zAq P w K mg base CX0 6 fD fdD ["_law_tape_here", "_law_many"] zFD:=GD1.mono (by decide)
 have GW':zAq P w K mg base CX0 6 fW fdW ["_law_tape_here", "_law_n"] spWeb:=(ok_web FW FD bD mD mLen mRange mTuple mSorted).mono (by decide)
 have GO2:zAq P w K mg base CX0 2 fOr fdOr ["_law_tape_here", "_law_n"] zEg:=zJd FOr FD bD mD mLen mRange mTuple mList
 have GOr:zAq P w K mg base CX0 6 fOr fdOr ["_law_tape_here", "_law_n"] zEg:=GO2.mono (by decide)
 have GF:zAq P w K mg base CX0 3 fF fdF ["web", "start"] (zHe PT):=zLH FF FNe bNe mNe FT bT mT C hbm mMin mSorted mTuple
 have GLe:zAq P w K mg base CX0 5 fLe fdLe ["web"] (zHc PT):=(zLE FLe FF bF mF GF mRange mTuple).mono (by decide)
 have GIo:zAq P w K mg base CX0 5 fIo fdIo ["web", "thing"] zKc:=(ok_ord FIo FTo bTo mTo FWi bWi mWi FPl bPl mPl FNu bNu mNu mIsi mInt mBool mTuple mLen mAll mSet).mono (by decide)
 have GIh:zAq P w K mg base CX0 4 fIh fdIh ["rows", "ranks", "hub", "place"] zKf:=(ok_ish FIh FBw bBw mBw mRange mTuple mLen mAll).mono (by decide)
 have GEb:zAq P w K mg base CX0 4 fEb fdEb ["web", "rows", "place", "hub"] zKg:=ok_ebr FEb FNb bNb mNb FT bT mT mSorted mTuple mMin
 have GLb:zAq P w K mg base CX0 5 fLb fdLb ["web", "rows", "ranks", "place"] zKd:=ok_lbr FLb FIh bIh mIh GIh FEb bEb mEb GEb mRange mTuple
 have GBy:zAq P w K mg base CX0 6 fBy fdBy ["web", "order"] (spByo PT):=ok_byo FBy FIo bIo mIo GIo FLe bLe mLe GLe FLb bLb mLb GLb mRange mTuple
 have GF2:zAq P w K mg base CX0 2 fFr fdFr ["_law_web_here"] zJH:=ok_far FFr FA bA mA FLs bLs mLs mRange mMin
 have GOn:zAq P w K mg base CX0 3 fOn fdOn ["_law_far_here", "_law_place", "_law_one", "_law_other"] spOn:=(ok_on FOn FA bA mA).mono (by decide)
 have GNs:zAq P w K mg base CX0 2 fNs fdNs ["_law_web_here", "_law_far_here", "_law_one", "_law_other"] zJF:=ok_nxs FNs FJ bJ mJ mRange
 have GEn:zAq P w K mg base CX0 3 fEn fdEn ["_law_web_here", "_law_far_here", "_law_place", "_law_hub"] zGL:=zLJ FEn FNs bNs mNs GNs
 have GLa:zAq P w K mg base CX0 4 fLa fdLa ["_law_web_here", "_law_order_here"] zFx:=zJf FLa FFr bFr mFr (GF2.mono (by decide)) FOn bOn mOn GOn FEn bEn mEn GEn mRange mTuple
 have GFu:zAq P w K mg base CX0 4 fFu fdFu ["_law_web_here", "_law_far_here"] zHd:=zLG FFu FEn bEn mEn GEn mRange mTuple
 have GEi:zAq P w K mg base CX0 4 fEi fdEi ["_law_labels_here", "_law_others"] zHg:=(zLK FEi mZip mTuple mDict mSorted).mono (by decide)
 have GLo:zAq P w K mg base CX0 4 fLo fdLo ["_law_tape_here", "_law_web_here", "_law_far_here", "_law_labels_here"] zFw:=(zJe FLo FD bD mD GDP FNs bNs mNs GNs mLen mRange mTuple).mono (by decide)
 have GLg:zAq P w K mg base CX0 4 fLg fdLg ["_law_tape_here", "_law_web_here", "_law_far_here", "_law_labels_here"] zEh:=(zIB FLg FD bD mD GDP FJ bJ mJ mLen mRange mTuple mDict mSorted).mono (by decide)
 have GSo:zAq P w K mg base CX0 6 fSo fdSo ["_law_tape_here", "_law_web_here"] zJ8:=(zLC FSo FD bD mD (GD1.mono (by decide)) FFr bFr mFr (GF2.mono (by decide)) FOr bOr mOr (GO2.mono (by decide)) FLa bLa mLa GLa FFu bFu mFu GFu FEi bEi mEi GEi FLo bLo mLo GLo FLg bLg mLg GLg).mono (by decide)
 have GTd:zAq P w K mg base CX0 1 fTd fdTd ["_law_one", "_law_other"] zKb:=ok_tdl FTd mDict mMin
 have GAt:zAq P w K mg base CX0 2 fAt fdAt ["_law_labels_here"] (zKh K):=ok_all FAt FTd bTd mTd GTd
 have GSp:zAq P w K mg base CX0 6 fSp fdSp ["_law_labels_here"] zHb:=(zJc FSp FAt bAt mAt GAt mLen mRange mTuple).mono (by decide)
 have GTl:zAq P w K mg base CX0 2 fTl fdTl ["one", "other"] zHZ:=zLA FTl FLm bLm mLm mDict mMin
 have GIs:zAq P w K mg base CX0 3 fIs fdIs ["labels", "place", "entry"] zKe:=ok_isp FIs FTl bTl mTl GTl mTuple mAll
 have GFa:zAq P w K mg base CX0 3 fFa fdFa ["labels"] zHf:=(zLI FFa mEnum).mono (by decide)
 have GCg:zAq P w K mg base CX0 6 fCg fdCg ["labels"] spCan:=(ok_can FCg FFa bFa mFa GFa FIs bIs mIs GIs).mono (by decide)
 refine F.ok zEk (fun vs H Q E h=>?_) (fun cdv A outer s H vs Q E hr h=>?_)
 . obtain⟨a,ns,rfl,_⟩:=h
   rfl
 . obtain⟨a,ns,rfl,hS,hlen,hP,k⟩:=h
   have hu0:=hr.units0
   refine⟨_,zW (zAN (i:=1) zEk.nd rfl (Or.inl rfl) (zx GTa hr rfl mTa FTa.kp bTa .nil zAl (zF (pv 0) zT)))
    (zW (zBk PassesOwn.never rfl (zAm rfl mRange (zF zAA zT)) (zr (i:=2) zEk.nd rfl (Or.inl rfl))
     (zW (zAN (i:=3) zEk.nd rfl (Or.inl rfl) (zx GW' hr rfl mW FW.kp bW .nil zAl (zF (pv 1) (zF (zAH zAO (zB1 (zH7 (.cons (.cons (.cons (.cons (.cons (.cons .nil)))))))) (zx GD hr rfl mD FD.kp bD .nil zAl (zF (pv 1) (zCV zT))) (fun _ _=>rfl)) zT))))
     (zW (zAN (i:=4) zEk.nd rfl (Or.inl rfl) (zx GSo hr rfl mSo FSo.kp bSo .nil zAl (zF (pv 1) (zF (pv 3) zT))))
     (zW (zAN (i:=5) zEk.nd rfl (Or.inl rfl) (zx GSp hr rfl mSp FSp.kp bSp .nil zAl (zF (pv 4) zT)))
     (zW (zAN (i:=6) zEk.nd rfl (Or.inl rfl) (zAV (zC5 hr) (by rfl) mRepr (by decide +kernel) (zF (pv 4) zT)))
     (zW (zBk PassesOwn.never rfl (zAm rfl mRange (zF zAA zT)) (zr (i:=7) zEk.nd rfl (Or.inl rfl))
      (zW (zAN (i:=8) zEk.nd rfl (Or.inl rfl) (zx GCg hr rfl mCg FCg.kp bCg .nil zAl (zF (pv 4) zT)))
      (zW (zCK (PW.pt (zG1 (zGW (zDh (zAV zCc (by rfl) mIsi (by decide +kernel) (zF (pv 8) (zF (zGX (T := "list") (by rfl) mList (by decide +kernel)) zT)))))
       (zG1 (zAQ zH8 (zAV (zC5 hr) (by rfl) mRepr (by decide +kernel) (zF (pv 8) zT)) (zAV (zC5 hr) (by rfl) mRepr (by decide +kernel) (zF (pv 5) zT)) (zAc _))
       (zFO (zAQ zH8 (zAV (zC5 hr) (by rfl) mRepr (by decide +kernel) (zF (pv 4) zT)) (pv 6) (zAc _)))))) (zn (zAb zH4)) zA7)
      (zn (zCL (zDA PySem.F.plainAttrs_list PySem.F.slot_list_append PySem.F.type_list_append zBP (pv 8) (zF (zBC (zCV (zCV zT))) zT)))))))
     (zn (zCK (zAQ (zKE hu0) (zx GCg hr rfl mCg FCg.kp bCg .nil zAl (zF (zx GBy hr rfl mBy FBy.kp bBy .nil zAl (zF (pv 3) (zF (zx GOr hr rfl mOr FOr.kp bOr .nil zAl (zF (pv 1) (zF (zAH zAr (pv 3) zAA (fun _ _=>rfl)) zT))) zT))) zT)) (zB1 zT) (zAc _)) (zn (zAb zH4)) zA7))))))))
    (zn (zAb zH4))),?_⟩
   refine⟨_,rfl,a,ns,rfl,hS,hlen,fun t H1 ht T1 s1=>?_⟩
   have B1:Tb H1 PT:=⟨#[],s1 _ _ hP,trivial,.inl rfl⟩
   refine⟨3,rfl,by decide,by decide,zBQ (lo:=0) (n:=3) (fun q σ H2=>∃v2 v3 v4 v5 v6 v7 v8:Option V,σ=[some (.ref a),some (.ref t),v2,v3,v4,v5,v6,v7,v8]/\zAU H2 t (13000*q)/\Tb H2 PT) ⟨_,_,_,_,_,_,_,rfl,T1,B1⟩ ?turn ?after⟩
   case after=>
    rintro σ H2 ⟨v2,v3,v4,v5,v6,v7,v8,rfl,_⟩
    exact k _
   case turn=>
    rintro q σ H2 hq ⟨v2,v3,v4,v5,v6,v7,v8,rfl,T2,B2⟩
    refine⟨_,rfl,by show 6<=sizeLine;decide,fun l6 hl6=>?_⟩
    have sl:=zG (o:=.lst (([1,2,3,4,5,6]:List Int).map V.int)) hl6
    refine⟨_,rfl,t,_,6,rfl,T2.keep sl,by omega,by decide,by decide,fun r H3 h30 h31 T3 he3=>?_⟩
    have nl:l6≠t:=T2.ne hl6
    obtain⟨n,hnm,hat⟩:=zDn (L:=[1,2,3,4,5,6]) h30 h31
    have hnb:1<=n/\n<=6:=by
     have:∀m∈([1,2,3,4,5,6]:List Int),1<=m/\m<=6:=by decide
     exact this n hnm
    refine⟨l6,_,_,_,rfl,rfl,SqL.of (by rw[he3 l6 nl];exact zJ),hat,?_⟩
    have B3:Tb H3 PT:=zJy (B2.same sl) (T2.keep sl) (zFE he3)
    refine⟨t,_,n,rfl,T3,by omega,hnb.1,by omega,fun wa ts H4 _ W4 T4 s4=>?_⟩
    have B4:Tb H4 PT:=zJy B3 T3 s4
    obtain⟨ta,tys,hwa4,_,_,G⟩:=id W4
    refine⟨_,rfl,_,rfl,t,wa,_,n,ts,rfl,T4,by omega,W4,hnb.2,fun l ess H5 LA5 hel LM5 T5 s5=>?_⟩
    have B5:Tb H5 PT:=zJy B4 T4 s5
    have W5:=W4.sm T4 s5
    have hlf:=LM5.lf (by omega)
    have hlen24:=LM5.len (by omega)
    refine⟨_,rfl,l,ess,rfl,LA5,by omega,hlf,hlen24,fun du ys H6 s6 _ hdu TU=>?_⟩
    have LA6:=LA5.keep fun b zs e=>s6 _ _ e
    have fnl:=fn_lms (by omega) hel LM5
    have fng:=fn_go (by omega) hel LM5
    refine⟨_,rfl,.ref l,_,rfl,zHk LA6,fnl,?_⟩
    have T6:=T5.keep s6
    have B6:=B5.same s6
    have W6:=W5.keep s6
    refine⟨2,rfl,by decide,by decide,zBQ (lo:=0) (n:=2) (fun m σ H7=>∃v7 v8:Option V,σ=[some (.ref a),some (.ref t),some (.int (0+q)),some (.ref wa),some (.ref l),some (.ref du),some (.str (zLQ ess).shown),v7,v8]/\zA1 H6 H7) ⟨_,_,rfl,zA1.refl _⟩ ?turn2 ?after2⟩
    case turn2=>
     rintro m σ H7 hm ⟨v7,v8,rfl,s7⟩
     have LA7:=LA6.keep fun b zs e=>s7 _ _ e
     refine⟨_,rfl,l,ess,rfl,LA7,by omega,hlf,hlen24,fun fo zs H8 s8 hfo0 hfo TZ=>?_⟩
     have LA8:=LA7.keep fun b zs e=>s8 _ _ e
     have s68:=s7.trans s8
     have TU8:zAT H8 ys (goL ess):=TU.keep fun b zs e=>s68 _ _ e
     refine⟨_,rfl,_,_,_,true,rfl,.lst hfo,rfl,_,rfl,zDU ?_⟩
     refine⟨_,rfl,.ref fo,_,rfl,.lst hfo (zHj TZ),fng,_,rfl,.ref du,_,rfl,.lst (s68 _ _ hdu) (zHj TU8),fng,rfl,_,rfl,?_⟩
     refine ifF (by simp) ?_
     refine⟨_,rfl,.ref l,_,rfl,zHk LA8,fnl,_,rfl,rfl,_,rfl,?_⟩
     refine ifF (by simp) ?_
     refine⟨_,rfl,.inl ⟨rfl,_,SqL.of hfo⟩,by show 2<=sizeLine;decide,fun x hx=>?_⟩
     have sx:=zG (o:=.tup [.int 0,.int 0]) hx
     have hz:zs.length<=576:=by
      rw[TZ.length]
      exact zy (zEy hlen24 _) (by omega)
     refine⟨fo,_,_,rfl,rfl,sx _ _ hfo,zAd (by omega),?_⟩
     exact⟨_,_,rfl,zAF (s68.trans sx) (zDl s7 hfo0)⟩
    case after2=>
     rintro σ H7 ⟨v7,v8,rfl,s7⟩
     have T7:=T6.keep s7
     have B7:=B6.same s7
     have W7:=W6.keep s7
     obtain⟨ta7,tys7,hwa7,_,_,_⟩:=id W7
     refine⟨_,rfl,_,rfl,_,rfl,wa,_,_,_,rfl,rfl,SqT.of hwa7,rfl,t,_,n,rfl,T7,by omega,hnb.1,by omega,fun ol os H8 hol O T8 s8=>?_⟩
     have B8:Tb H8 PT:=zJy B7 T7 s8
     have W8:=W7.sm T7 s8
     refine⟨wa,ol,n,ts,os,rfl,W8,hol,O,B8,fun l2 fss rk H9 sm9 B9 LA9 RK LO bd=>?_⟩
     have LMo:=LO.lm G bd
     have hfl:=LO.1
     refine⟨l2,fss,rfl,LA9,by omega,LMo.lf (by omega),LMo.len (by omega),fun g gs H10 s10 _ hg TG=>?_⟩
     have hgs:gs=[]:=by
      have:=TG.length
      rw[zLV G RK LO bd] at this
      exact List.length_eq_zero_iff.mp this
     subst hgs
     refine⟨by show 0<=sizeLine;decide,fun e0 he0=>?_⟩
     have s11:=zG (o:=.lst []) he0
     refine⟨g,e0,_,rfl,rfl,SqL.of (s11 _ _ hg),SqL.of zJ,_,rfl,zDU ?_⟩
     exact⟨_,_,_,_,_,_,_,rfl,(((T8.smT sm9).keep s10).keep s11).mono (by omega),(B9.same s10).same s11⟩
end
noncomputable abbrev sT:String->Str:=Str.ofString
noncomputable abbrev kH:=PyData.keyHash
noncomputable abbrev dE:=DictEntry.mk
noncomputable abbrev vS:=Value.str
noncomputable abbrev vI:=Value.int
noncomputable abbrev vR:=Value.ref
noncomputable abbrev vB:=Value.bool
noncomputable abbrev vN:Value:=Value.none
noncomputable abbrev vT:=Value.type
noncomputable abbrev oM:=Obj.mk
noncomputable abbrev tQ (x:Array Value):Obj:=oM (vT "tuple") .none (.seq x) #[]
noncomputable abbrev cQ (x:Array Value):Obj:=oM (vT "code") .none (.fields x) #[]
noncomputable abbrev fQ (x:FuncData):Obj:=oM (vT "function") .none (.func x) #[]
noncomputable abbrev fT (x:String)(i:Nat)(m:Value)(c:Nat):Obj:=fQ (.mk (sT x) (sT x) (L2.defArgs (top i)) (FuncBody.stmts (L2.defBody (top i))) (L2.defScope (top i)) 3 [] vN vN vN m .none (vR c) vN 0)
noncomputable abbrev qS (x:String)(n:Nat):Value:=vS (sT x) n
noncomputable abbrev kE (P:Params)(x:String)(n:Nat):Value->DictEntry:=dE (kH P (sT x)) (qS x n)
noncomputable def Kf:Params->PySem.W.Frag:=fun P=>[
(2,oM vN .none (Data.dict #[]) #[]),
(3,oM (vT "dict") .none (Data.dict #[kE P "__name__" 165 (qS "law_labelways_k33_entries_that_can_go" 387),kE P "__doc__" 166 vN,kE P "__package__" 167 vN,kE P "__loader__" 168 (Value.builtin "__main__.__loader__#opaque"),kE P "__spec__" 169 vN,kE P "__annotations__" 170 (vR 6),kE P "__builtins__" 171 (vR 4),kE P "__file__" 173 (qS "/claim/cut.py" 172),kE P "__cached__" 174 vN,kE P "is_number" 195 (vR 21),kE P "is_within" 204 (vR 28),kE P "is_tuple_of" 212 (vR 35),kE P "is_place" 220 (vR 42),kE P "told" 230 (vR 49),kE P "least_sum" 236 (vR 54),kE P "far_entries" 242 (vR 59),kE P "can_go" 250 (vR 64),kE P "is_spare" 256 (vR 69),kE P "WayError" 276 (vR 79),kE P "NoOrder" 292 (vR 92),kE P "ties_at" 306 (vR 101),kE P "lengths" 314 (vR 106),kE P "lengths_from" 328 (vR 113),kE P "nearest" 336 (vR 120),kE P "between_rows" 342 (vR 125),kE P "next_by_row" 348 (vR 130),kE P "is_order" 356 (vR 135),kE P "by_order" 362 (vR 140),kE P "label_by_ranks" 368 (vR 145),kE P "is_hub" 374 (vR 150),kE P "entry_by_rows" 386 (vR 157),kE P "_law_tape" 395 (vR 164),kE P "_law_draw" 407 (vR 171),kE P "_law_web" 413 (vR 176),kE P "_law_added" 421 (vR 183),kE P "_law_lesser" 429 (vR 190),kE P "_law_far" 435 (vR 195),kE P "_law_on" 446 (vR 202),kE P "_law_joined" 457 (vR 209),kE P "_law_nexts" 463 (vR 214),kE P "_law_order" 474 (vR 221),kE P "_law_entry" 484 (vR 228),kE P "_law_labels" 490 (vR 233),kE P "_law_full" 496 (vR 238),kE P "_law_either" 502 (vR 243),kE P "_law_loose" 521 (vR 250),kE P "_law_longer" 527 (vR 255),kE P "_law_some" 538 (vR 262),kE P "_law_told" 544 (vR 267),kE P "_law_all_told" 550 (vR 272),kE P "_law_spare" 556 (vR 277),kE P "law" 571 (vR 284)] 52) #[]),
(20,cQ #[qS "is_number" 189,qS "is_number" 190,qS "/claim/cut.py" 191,vI 2 0,vI 1 0,vI 0 0,vI 0 0,vI 3 0,vR 15,vB true,vI 181 0,vR 16,vN,vR 17,vR 18,vR 19,vI 193 0,vI 2 0,qS "/claim/cut.py" 194]),
(21,fQ (.mk (sT "is_number") (sT "is_number") (L2.defArgs (top 1)) (FuncBody.stmts (L2.defBody (top 1))) (L2.defScope (top 1)) 3 [] vN vN vN (qS "labelways.kinds" 187) .none (vR 20) vN 0)),
(27,cQ #[qS "is_within" 196,qS "is_within" 197,qS "/claim/cut.py" 198,vI 4 0,vI 3 0,vI 0 0,vI 0 0,vI 3 0,vR 22,vB true,vI 181 0,vR 23,vN,vR 24,vR 25,vR 26,vI 202 0,vI 4 0,qS "/claim/cut.py" 203]),
(28,fQ (.mk (sT "is_within") (sT "is_within") (L2.defArgs (top 2)) (FuncBody.stmts (L2.defBody (top 2))) (L2.defScope (top 2)) 3 [] vN vN vN (qS "labelways.kinds" 187) .none (vR 27) vN 0)),
(34,cQ #[qS "is_tuple_of" 205,qS "is_tuple_of" 206,qS "/claim/cut.py" 207,vI 6 0,vI 2 0,vI 0 0,vI 0 0,vI 3 0,vR 29,vB true,vI 181 0,vR 30,vN,vR 31,vR 32,vR 33,vI 210 0,vI 6 0,qS "/claim/cut.py" 211]),
(35,fQ (.mk (sT "is_tuple_of") (sT "is_tuple_of") (L2.defArgs (top 3)) (FuncBody.stmts (L2.defBody (top 3))) (L2.defScope (top 3)) 3 [] vN vN vN (qS "labelways.kinds" 187) .none (vR 34) vN 0)),
(41,cQ #[qS "is_place" 213,qS "is_place" 214,qS "/claim/cut.py" 215,vI 8 0,vI 2 0,vI 0 0,vI 0 0,vI 3 0,vR 36,vB true,vI 181 0,vR 37,vN,vR 38,vR 39,vR 40,vI 218 0,vI 8 0,qS "/claim/cut.py" 219]),
(42,fQ (.mk (sT "is_place") (sT "is_place") (L2.defArgs (top 4)) (FuncBody.stmts (L2.defBody (top 4))) (L2.defScope (top 4)) 3 [] vN vN vN (qS "labelways.kinds" 187) .none (vR 41) vN 0)),
(48,cQ #[qS "told" 223,qS "told" 224,qS "/claim/cut.py" 225,vI 11 0,vI 2 0,vI 0 0,vI 0 0,vI 3 0,vR 43,vB true,vI 181 0,vR 44,vN,vR 45,vR 46,vR 47,vI 228 0,vI 11 0,qS "/claim/cut.py" 229]),
(49,fQ (.mk (sT "told") (sT "told") (L2.defArgs (top 6)) (FuncBody.stmts (L2.defBody (top 6))) (L2.defScope (top 6)) 3 [] vN vN vN (qS "labelways.labels" 221) .none (vR 48) vN 0)),
(53,cQ #[qS "least_sum" 231,qS "least_sum" 232,qS "/claim/cut.py" 233,vI 13 0,vI 2 0,vI 0 0,vI 0 0,vI 3 0,vR 50,vB true,vI 181 0,vR 51,vN,vN,vN,vR 52,vI 234 0,vI 13 0,qS "/claim/cut.py" 235]),
(54,fQ (.mk (sT "least_sum") (sT "least_sum") (L2.defArgs (top 7)) (FuncBody.stmts (L2.defBody (top 7))) (L2.defScope (top 7)) 3 [] vN vN vN (qS "labelways.labels" 221) .none (vR 53) vN 0)),
(58,cQ #[qS "far_entries" 237,qS "far_entries" 238,qS "/claim/cut.py" 239,vI 17 0,vI 1 0,vI 0 0,vI 0 0,vI 3 0,vR 55,vB true,vI 181 0,vR 56,vN,vN,vN,vR 57,vI 240 0,vI 17 0,qS "/claim/cut.py" 241]),
(59,fQ (.mk (sT "far_entries") (sT "far_entries") (L2.defArgs (top 8)) (FuncBody.stmts (L2.defBody (top 8))) (L2.defScope (top 8)) 3 [] vN vN vN (qS "labelways.labels" 221) .none (vR 58) vN 0)),
(63,cQ #[qS "can_go" 245,qS "can_go" 246,qS "/claim/cut.py" 247,vI 23 0,vI 1 0,vI 0 0,vI 0 0,vI 3 0,vR 60,vB true,vI 181 0,vR 61,vN,vN,vN,vR 62,vI 248 0,vI 23 0,qS "/claim/cut.py" 249]),
(64,fQ (.mk (sT "can_go") (sT "can_go") (L2.defArgs (top 10)) (FuncBody.stmts (L2.defBody (top 10))) (L2.defScope (top 10)) 3 [] vN vN vN (qS "labelways.sparing" 243) .none (vR 63) vN 0)),
(68,cQ #[qS "is_spare" 251,qS "is_spare" 252,qS "/claim/cut.py" 253,vI 25 0,vI 3 0,vI 0 0,vI 0 0,vI 3 0,vR 65,vB true,vI 181 0,vR 66,vN,vN,vN,vR 67,vI 254 0,vI 25 0,qS "/claim/cut.py" 255]),
(69,fQ (.mk (sT "is_spare") (sT "is_spare") (L2.defArgs (top 11)) (FuncBody.stmts (L2.defBody (top 11))) (L2.defScope (top 11)) 3 [] vN vN vN (qS "labelways.sparing" 243) .none (vR 68) vN 0)),
(78,oM (vT "dict") .none (Data.dict #[kE P "__module__" 266 (qS "labelways.errors" 257),kE P "__firstlineno__" 270 (vI 30 269),kE P "__static_attributes__" 271 (vR 77),kE P "__weakref__" 273 (vR 80),kE P "__doc__" 274 vN] 3) #[]),
(79,oM (vT "type") .none (Data.cls (ClassData.mk (sT "WayError") [vT "ValueError"] [vR 79,vT "ValueError",vT "Exception",vT "BaseException",vT "object"] 78 (sT "WayError") true [] [vR 92] false .none false)) #[.some (vR 70),.none,.some (qS "WayError" 259),.some (qS "WayError" 267),.some (Value.builtin "ValueError.__new__"),.some (vB true)]),
(80,oM (vT "getset_descriptor") .none (Data.fields #[qS "__weakref__" 272,vR 79,Value.builtin "ExceptionGroup.__weakref__",vN]) #[]),
(91,oM (vT "dict") .none (Data.dict #[kE P "__module__" 284 (qS "labelways.errors" 257),kE P "__firstlineno__" 288 (vI 32 287),kE P "__static_attributes__" 289 (vR 90),kE P "__doc__" 290 vN] 2) #[]),
(92,oM (vT "type") .none (Data.cls (ClassData.mk (sT "NoOrder") [vR 79] [vR 92,vR 79,vT "ValueError",vT "Exception",vT "BaseException",vT "object"] 91 (sT "NoOrder") true [] [] false .none false)) #[.some (vR 83),.none,.some (qS "NoOrder" 277),.some (qS "NoOrder" 285),.some (Value.builtin "ValueError.__new__"),.some (vB true)]),
(100,cQ #[qS "ties_at" 295,qS "ties_at" 296,qS "/claim/cut.py" 297,vI 35 0,vI 2 0,vI 0 0,vI 0 0,vI 3 0,vR 95,vB true,vI 181 0,vR 96,vN,vR 97,vR 98,vR 99,vI 304 0,vI 35 0,qS "/claim/cut.py" 305]),
(101,fQ (.mk (sT "ties_at") (sT "ties_at") (L2.defArgs (top 16)) (FuncBody.stmts (L2.defBody (top 16))) (L2.defScope (top 16)) 3 [] vN vN vN (qS "labelways.webs" 293) .none (vR 100) vN 0)),
(105,cQ #[qS "lengths" 309,qS "lengths" 310,qS "/claim/cut.py" 311,vI 44 0,vI 1 0,vI 0 0,vI 0 0,vI 3 0,vR 102,vB true,vI 181 0,vR 103,vN,vN,vN,vR 104,vI 312 0,vI 44 0,qS "/claim/cut.py" 313]),
(106,fQ (.mk (sT "lengths") (sT "lengths") (L2.defArgs (top 18)) (FuncBody.stmts (L2.defBody (top 18))) (L2.defScope (top 18)) 3 [] vN vN vN (qS "labelways.lengths" 307) .none (vR 105) vN 0)),
(112,cQ #[qS "lengths_from" 315,qS "lengths_from" 316,qS "/claim/cut.py" 317,vI 46 0,vI 2 0,vI 0 0,vI 0 0,vI 3 0,vR 107,vB true,vI 181 0,vR 108,vN,vR 109,vR 110,vR 111,vI 326 0,vI 46 0,qS "/claim/cut.py" 327]),
(113,fQ (.mk (sT "lengths_from") (sT "lengths_from") (L2.defArgs (top 19)) (FuncBody.stmts (L2.defBody (top 19))) (L2.defScope (top 19)) 3 [] vN vN vN (qS "labelways.lengths" 307) .none (vR 112) vN 0)),
(119,cQ #[qS "nearest" 329,qS "nearest" 330,qS "/claim/cut.py" 331,vI 57 0,vI 1 0,vI 0 0,vI 0 0,vI 3 0,vR 114,vB true,vI 181 0,vR 115,vN,vR 116,vR 117,vR 118,vI 334 0,vI 57 0,qS "/claim/cut.py" 335]),
(120,fQ (.mk (sT "nearest") (sT "nearest") (L2.defArgs (top 20)) (FuncBody.stmts (L2.defBody (top 20))) (L2.defScope (top 20)) 3 [] vN vN vN (qS "labelways.lengths" 307) .none (vR 119) vN 0)),
(124,cQ #[qS "between_rows" 337,qS "between_rows" 338,qS "/claim/cut.py" 339,vI 59 0,vI 3 0,vI 0 0,vI 0 0,vI 3 0,vR 121,vB true,vI 181 0,vR 122,vN,vN,vN,vR 123,vI 340 0,vI 59 0,qS "/claim/cut.py" 341]),
(125,fQ (.mk (sT "between_rows") (sT "between_rows") (L2.defArgs (top 21)) (FuncBody.stmts (L2.defBody (top 21))) (L2.defScope (top 21)) 3 [] vN vN vN (qS "labelways.lengths" 307) .none (vR 124) vN 0)),
(129,cQ #[qS "next_by_row" 343,qS "next_by_row" 344,qS "/claim/cut.py" 345,vI 64 0,vI 3 0,vI 0 0,vI 0 0,vI 3 0,vR 126,vB true,vI 181 0,vR 127,vN,vN,vN,vR 128,vI 346 0,vI 64 0,qS "/claim/cut.py" 347]),
(130,fQ (.mk (sT "next_by_row") (sT "next_by_row") (L2.defArgs (top 22)) (FuncBody.stmts (L2.defBody (top 22))) (L2.defScope (top 22)) 3 [] vN vN vN (qS "labelways.lengths" 307) .none (vR 129) vN 0)),
(134,cQ #[qS "is_order" 351,qS "is_order" 352,qS "/claim/cut.py" 353,vI 69 0,vI 2 0,vI 0 0,vI 0 0,vI 3 0,vR 131,vB true,vI 181 0,vR 132,vN,vN,vN,vR 133,vI 354 0,vI 69 0,qS "/claim/cut.py" 355]),
(135,fQ (.mk (sT "is_order") (sT "is_order") (L2.defArgs (top 24)) (FuncBody.stmts (L2.defBody (top 24))) (L2.defScope (top 24)) 3 [] vN vN vN (qS "labelways.orders" 349) .none (vR 134) vN 0)),
(139,cQ #[qS "by_order" 357,qS "by_order" 358,qS "/claim/cut.py" 359,vI 74 0,vI 2 0,vI 0 0,vI 0 0,vI 3 0,vR 136,vB true,vI 181 0,vR 137,vN,vN,vN,vR 138,vI 360 0,vI 74 0,qS "/claim/cut.py" 361]),
(140,fQ (.mk (sT "by_order") (sT "by_order") (L2.defArgs (top 25)) (FuncBody.stmts (L2.defBody (top 25))) (L2.defScope (top 25)) 3 [] vN vN vN (qS "labelways.orders" 349) .none (vR 139) vN 0)),
(144,cQ #[qS "label_by_ranks" 363,qS "label_by_ranks" 364,qS "/claim/cut.py" 365,vI 80 0,vI 4 0,vI 0 0,vI 0 0,vI 3 0,vR 141,vB true,vI 181 0,vR 142,vN,vN,vN,vR 143,vI 366 0,vI 80 0,qS "/claim/cut.py" 367]),
(145,fQ (.mk (sT "label_by_ranks") (sT "label_by_ranks") (L2.defArgs (top 26)) (FuncBody.stmts (L2.defBody (top 26))) (L2.defScope (top 26)) 3 [] vN vN vN (qS "labelways.orders" 349) .none (vR 144) vN 0)),
(149,cQ #[qS "is_hub" 369,qS "is_hub" 370,qS "/claim/cut.py" 371,vI 83 0,vI 4 0,vI 0 0,vI 0 0,vI 3 0,vR 146,vB true,vI 181 0,vR 147,vN,vN,vN,vR 148,vI 372 0,vI 83 0,qS "/claim/cut.py" 373]),
(150,fQ (.mk (sT "is_hub") (sT "is_hub") (L2.defArgs (top 27)) (FuncBody.stmts (L2.defBody (top 27))) (L2.defScope (top 27)) 3 [] vN vN vN (qS "labelways.orders" 349) .none (vR 149) vN 0)),
(156,cQ #[qS "entry_by_rows" 375,qS "entry_by_rows" 376,qS "/claim/cut.py" 377,vI 87 0,vI 4 0,vI 0 0,vI 0 0,vI 3 0,vR 151,vB true,vI 181 0,vR 152,vN,vR 153,vR 154,vR 155,vI 384 0,vI 87 0,qS "/claim/cut.py" 385]),
(157,fQ (.mk (sT "entry_by_rows") (sT "entry_by_rows") (L2.defArgs (top 28)) (FuncBody.stmts (L2.defBody (top 28))) (L2.defScope (top 28)) 3 [] vN vN vN (qS "labelways.orders" 349) .none (vR 156) vN 0)),
(163,cQ #[qS "_law_tape" 389,qS "_law_tape" 390,qS "/claim/cut.py" 391,vI 92 0,vI 1 0,vI 0 0,vI 0 0,vI 3 0,vR 158,vB true,vI 181 0,vR 159,vN,vR 160,vR 161,vR 162,vI 393 0,vI 92 0,qS "/claim/cut.py" 394]),
(164,fT "_law_tape" 30 (qS "law_labelways_k33_entries_that_can_go" 387) 163),
(170,cQ #[qS "_law_draw" 396,qS "_law_draw" 397,qS "/claim/cut.py" 398,vI 94 0,vI 2 0,vI 0 0,vI 0 0,vI 3 0,vR 165,vB true,vI 181 0,vR 166,vN,vR 167,vR 168,vR 169,vI 405 0,vI 94 0,qS "/claim/cut.py" 406]),
(171,fT "_law_draw" 31 (qS "law_labelways_k33_entries_that_can_go" 387) 170),
(175,cQ #[qS "_law_web" 408,qS "_law_web" 409,qS "/claim/cut.py" 410,vI 107 0,vI 2 0,vI 0 0,vI 0 0,vI 3 0,vR 172,vB true,vI 181 0,vR 173,vN,vN,vN,vR 174,vI 411 0,vI 107 0,qS "/claim/cut.py" 412]),
(176,fT "_law_web" 32 (qS "law_labelways_k33_entries_that_can_go" 387) 175),
(182,cQ #[qS "_law_added" 414,qS "_law_added" 415,qS "/claim/cut.py" 416,vI 119 0,vI 2 0,vI 0 0,vI 0 0,vI 3 0,vR 177,vB true,vI 181 0,vR 178,vN,vR 179,vR 180,vR 181,vI 419 0,vI 119 0,qS "/claim/cut.py" 420]),
(183,fT "_law_added" 33 (qS "law_labelways_k33_entries_that_can_go" 387) 182),
(189,cQ #[qS "_law_lesser" 422,qS "_law_lesser" 423,qS "/claim/cut.py" 424,vI 121 0,vI 2 0,vI 0 0,vI 0 0,vI 3 0,vR 184,vB true,vI 181 0,vR 185,vN,vR 186,vR 187,vR 188,vI 427 0,vI 121 0,qS "/claim/cut.py" 428]),
(190,fT "_law_lesser" 34 (qS "law_labelways_k33_entries_that_can_go" 387) 189),
(194,cQ #[qS "_law_far" 430,qS "_law_far" 431,qS "/claim/cut.py" 432,vI 125 0,vI 1 0,vI 0 0,vI 0 0,vI 3 0,vR 191,vB true,vI 181 0,vR 192,vN,vN,vN,vR 193,vI 433 0,vI 125 0,qS "/claim/cut.py" 434]),
(195,fT "_law_far" 35 (qS "law_labelways_k33_entries_that_can_go" 387) 194),
(201,cQ #[qS "_law_on" 436,qS "_law_on" 437,qS "/claim/cut.py" 438,vI 137 0,vI 4 0,vI 0 0,vI 0 0,vI 3 0,vR 196,vB true,vI 181 0,vR 197,vN,vR 198,vR 199,vR 200,vI 444 0,vI 137 0,qS "/claim/cut.py" 445]),
(202,fT "_law_on" 36 (qS "law_labelways_k33_entries_that_can_go" 387) 201),
(208,cQ #[qS "_law_joined" 447,qS "_law_joined" 448,qS "/claim/cut.py" 449,vI 140 0,vI 1 0,vI 0 0,vI 0 0,vI 3 0,vR 203,vB true,vI 181 0,vR 204,vN,vR 205,vR 206,vR 207,vI 455 0,vI 140 0,qS "/claim/cut.py" 456]),
(209,fT "_law_joined" 37 (qS "law_labelways_k33_entries_that_can_go" 387) 208),
(213,cQ #[qS "_law_nexts" 458,qS "_law_nexts" 459,qS "/claim/cut.py" 460,vI 146 0,vI 4 0,vI 0 0,vI 0 0,vI 3 0,vR 210,vB true,vI 181 0,vR 211,vN,vN,vN,vR 212,vI 461 0,vI 146 0,qS "/claim/cut.py" 462]),
(214,fT "_law_nexts" 38 (qS "law_labelways_k33_entries_that_can_go" 387) 213),
(220,cQ #[qS "_law_order" 464,qS "_law_order" 465,qS "/claim/cut.py" 466,vI 153 0,vI 2 0,vI 0 0,vI 0 0,vI 3 0,vR 215,vB true,vI 181 0,vR 216,vN,vR 217,vR 218,vR 219,vI 472 0,vI 153 0,qS "/claim/cut.py" 473]),
(221,fT "_law_order" 39 (qS "law_labelways_k33_entries_that_can_go" 387) 220),
(227,cQ #[qS "_law_entry" 475,qS "_law_entry" 476,qS "/claim/cut.py" 477,vI 159 0,vI 4 0,vI 0 0,vI 0 0,vI 3 0,vR 222,vB true,vI 181 0,vR 223,vN,vR 224,vR 225,vR 226,vI 482 0,vI 159 0,qS "/claim/cut.py" 483]),
(228,fT "_law_entry" 40 (qS "law_labelways_k33_entries_that_can_go" 387) 227),
(232,cQ #[qS "_law_labels" 485,qS "_law_labels" 486,qS "/claim/cut.py" 487,vI 163 0,vI 2 0,vI 0 0,vI 0 0,vI 3 0,vR 229,vB true,vI 181 0,vR 230,vN,vN,vN,vR 231,vI 488 0,vI 163 0,qS "/claim/cut.py" 489]),
(233,fT "_law_labels" 41 (qS "law_labelways_k33_entries_that_can_go" 387) 232),
(237,cQ #[qS "_law_full" 491,qS "_law_full" 492,qS "/claim/cut.py" 493,vI 174 0,vI 2 0,vI 0 0,vI 0 0,vI 3 0,vR 234,vB true,vI 181 0,vR 235,vN,vN,vN,vR 236,vI 494 0,vI 174 0,qS "/claim/cut.py" 495]),
(238,fT "_law_full" 42 (qS "law_labelways_k33_entries_that_can_go" 387) 237),
(242,cQ #[qS "_law_either" 497,qS "_law_either" 498,qS "/claim/cut.py" 499,vI 180 0,vI 2 0,vI 0 0,vI 0 0,vI 3 0,vR 239,vB true,vI 181 0,vR 240,vN,vN,vN,vR 241,vI 500 0,vI 180 0,qS "/claim/cut.py" 501]),
(243,fT "_law_either" 43 (qS "law_labelways_k33_entries_that_can_go" 387) 242),
(249,cQ #[qS "_law_loose" 503,qS "_law_loose" 504,qS "/claim/cut.py" 505,vI 186 0,vI 4 0,vI 0 0,vI 0 0,vI 3 0,vR 244,vB true,vI 181 0,vR 245,vN,vR 246,vR 247,vR 248,vI 519 0,vI 186 0,qS "/claim/cut.py" 520]),
(250,fT "_law_loose" 44 (qS "law_labelways_k33_entries_that_can_go" 387) 249),
(254,cQ #[qS "_law_longer" 522,qS "_law_longer" 523,qS "/claim/cut.py" 524,vI 199 0,vI 4 0,vI 0 0,vI 0 0,vI 3 0,vR 251,vB true,vI 181 0,vR 252,vN,vN,vN,vR 253,vI 525 0,vI 199 0,qS "/claim/cut.py" 526]),
(255,fT "_law_longer" 45 (qS "law_labelways_k33_entries_that_can_go" 387) 254),
(261,cQ #[qS "_law_some" 528,qS "_law_some" 529,qS "/claim/cut.py" 530,vI 209 0,vI 2 0,vI 0 0,vI 0 0,vI 3 0,vR 256,vB true,vI 181 0,vR 257,vN,vR 258,vR 259,vR 260,vI 536 0,vI 209 0,qS "/claim/cut.py" 537]),
(262,fT "_law_some" 46 (qS "law_labelways_k33_entries_that_can_go" 387) 261),
(266,cQ #[qS "_law_told" 539,qS "_law_told" 540,qS "/claim/cut.py" 541,vI 222 0,vI 2 0,vI 0 0,vI 0 0,vI 3 0,vR 263,vB true,vI 181 0,vR 264,vN,vN,vN,vR 265,vI 542 0,vI 222 0,qS "/claim/cut.py" 543]),
(267,fT "_law_told" 47 (qS "law_labelways_k33_entries_that_can_go" 387) 266),
(271,cQ #[qS "_law_all_told" 545,qS "_law_all_told" 546,qS "/claim/cut.py" 547,vI 226 0,vI 1 0,vI 0 0,vI 0 0,vI 3 0,vR 268,vB true,vI 181 0,vR 269,vN,vN,vN,vR 270,vI 548 0,vI 226 0,qS "/claim/cut.py" 549]),
(272,fT "_law_all_told" 48 (qS "law_labelways_k33_entries_that_can_go" 387) 271),
(276,cQ #[qS "_law_spare" 551,qS "_law_spare" 552,qS "/claim/cut.py" 553,vI 228 0,vI 1 0,vI 0 0,vI 0 0,vI 3 0,vR 273,vB true,vI 181 0,vR 274,vN,vN,vN,vR 275,vI 554 0,vI 228 0,qS "/claim/cut.py" 555]),
(277,fT "_law_spare" 49 (qS "law_labelways_k33_entries_that_can_go" 387) 276),
(283,cQ #[qS "law" 557,qS "law" 558,qS "/claim/cut.py" 559,vI 238 0,vI 1 0,vI 0 0,vI 0 0,vI 3 0,vR 278,vB true,vI 181 0,vR 279,vN,vR 280,vR 281,vR 282,vI 569 0,vI 238 0,qS "/claim/cut.py" 570]),
(284,fT "law" 50 (qS "law_labelways_k33_entries_that_can_go" 387) 283)]
noncomputable def Ka:List Addr:=[2,3,20,21,27,28,34,35,41,42,48,49,53,54,58,59,63,64,68,69,78,79,80,91,92,100,101,105,106,112,113,119,120,124,125,129,130,134,135,139,140,144,145,149,150,156,157,163,164,170,171,175,176,182,183,189,190,194,195,201,202,208,209,213,214,220,221,227,228,232,233,237,238,242,243,249,250,254,255,261,262,266,267,271,272,276,277,283,284]
theorem zI3:∀{us:List Value},us.length=1->∃u0,us=[u0]
 | [u0],_=>⟨u0,rfl⟩
theorem zE4:∀{us:List Value},us.length=2->∃u0 u1,us=[u0,u1]
 | [u0,u1],_=>⟨u0,u1,rfl⟩
theorem usl3:∀{us:List Value},us.length=3->∃u0 u1 u2,us=[u0,u1,u2]
 | [u0,u1,u2],_=>⟨u0,u1,u2,rfl⟩
theorem zJ4:∀{us:List Value},us.length=4->∃u0 u1 u2 u3,us=[u0,u1,u2,u3]
 | [u0,u1,u2,u3],_=>⟨u0,u1,u2,u3,rfl⟩
theorem walk {l:PySem.W.OpenLaw}{q:Program}{loose:List Str}{XP:(Str->Option Value)->Heap->Prop}{YP:World->Heap->Prop}{d:DefRec}{K:Params->PySem.W.Frag}(hn:l.most=some 63)(hdf:d.params.defaults=[])(hrec:∃dn,(PyProof.Rows.recsOf q).find? (fun e=>e.name==("nearest" : Str))=some dn)
 (hY:∀(w:World)(h:Heap),YP w h->(K w.params).In h)
 (F:∀(w:World)(mg:Str->Option Value)(fa:Addr)(h:Heap),(K w.params).In h->h.Ns mainGlobals mg->mg d.name=some (.ref fa) ->
  ∃(fd:FuncData)(c P:Addr),PySem.W.tabIn (K w.params) "nearest" = some (c,P)/\PySem.W.noTabs (K w.params)=true/\(∀(s:Shared)(u:Value),BindsTo s fd ⟨[u],[]⟩ [("_law_script",u)])/\∀base:Heap,(K w.params).In base->base.Ns mainGlobals mg->zI2 mg base->zAq l.prog w (K w.params) mg base CX0 7 fa fd ["_law_script"] (zJG (K w.params) P)) :
 PySem.W.WalkO q loose XP YP l.row.toRowW d [] (fun f vs=>PySem.call f vs):=
 L2.walk_T (n:=63) (k:=7) (x := "_law_script") (tn := "nearest") (CX:=CX0) (sp:=zJG) hn (by decide) hdf ⟨rfl,by decide,by decide,rfl⟩ hrec hY F (fun _ _ _ a ns hl hP hS=>⟨a,ns,rfl,hS,hl,hP,fun _=>rfl⟩) fun _ _ _ _ z=>z
theorem fk (x:Str)(st:Stmt)(f:Addr)(pm cd:Value)(l:K.lookup f=some ⟨.type "function",.none,.func (PySem.W.fnOf x x (defArgs st) (defBody st) (defScope st) .none .none .none pm .none cd .none),#[]⟩:=by kernel_rfl) (c:PySem.W.codeIn K cd x=true:=by kernel_rfl)(k:PySem.W.keepIn K (.ref f)=true:=by kernel_rfl):Fun K x x st f (PySem.W.fnOf x x (defArgs st) (defBody st) (defScope st) .none .none .none pm .none cd .none):=fun_mk l c k
theorem fkC (x:Str)(st:Stmt)(f:Addr)(pm:Value)(cc:Addr)(l:K.lookup f=some ⟨.type "function",.none,.func (PySem.W.fnOf x x (defArgs st) (defBody st) (defScope st) .none .none .none pm .none (.ref cc) .none),#[]⟩:=by kernel_rfl) (c:PySem.W.codeIn K (.ref cc) x=true:=by kernel_rfl)(k:PySem.W.keepIn K (.ref f)=true:=by kernel_rfl):zJ1 K x x st f (PySem.W.fnOf x x (defArgs st) (defBody st) (defScope st) .none .none .none pm .none (.ref cc) .none) cc:=zLW l c k
noncomputable abbrev pw:Program:=PySem.Challenge.pw_labelways_k33_entries_that_can_go
noncomputable def V:Program:={ pw with main:={ pw.main with body:=[top 1,top 2,top 3,top 4,top 6,top 7,top 8,top 10,top 11,top 13,top 14,top 16,top 18,top 19,top 20,top 21,top 22,top 24,top 25,top 26,top 27,top 28,top 30,top 31,top 32,top 33,top 34,top 35,top 36,top 37,top 38,top 39,top 40,top 41,top 42,top 43,top 44,top 45,top 46,top 47,top 48,top 49,top 50] } }
noncomputable abbrev RR:PySem.W.RowW:=PySem.W.OpenRow.toRowW (PySem.Challenge.rw_labelways_k33_entries_that_can_go).row
theorem Ke:∀P,Ka=(Kf P).map (·.1):=fun P=>by kernel_rfl
noncomputable abbrev HK:PySem.W.Hook:=PySem.W.kHook Kf Ka Ke
theorem left:PySem.W.LeftO pw V [] (fun s=>PySem.W.xlAt V [] s && PySem.W.recOk (PySem.W.RowW.records RR) s) (PySem.W.Hook.obs HK) (PySem.W.Hook.val HK) 3458:=L2.left_of (by kernel_rfl) (by decide) (fun _=>rfl) fun w os=>by kernel_rfl
noncomputable def dL:DefRec:={ name := "law",params:=defArgs sLaw,body:=defBody sLaw,scope:=defScope sLaw,pos:=⟨238,0,252,15⟩ }
theorem facts (w:World)(mg:Str->Option Value)(fa:Addr)(h:Heap)(KX:(Kf w.params).In h)(G:h.Ns mainGlobals mg)(hmg:mg "law" = some (.ref fa)):∃(fd:FuncData)(c P:Addr),PySem.W.tabIn (Kf w.params) "nearest" = some (c,P)/\PySem.W.noTabs (Kf w.params)=true/\(∀(s:Shared)(u:Value),BindsTo s fd ⟨[u],[]⟩ [("_law_script",u)])/\∀base:Heap,(Kf w.params).In base->base.Ns mainGlobals mg->zI2 mg base->zAq (PySem.Challenge.rw_labelways_k33_entries_that_can_go).prog w (Kf w.params) mg base CX0 7 fa fd ["_law_script"] (zJG (Kf w.params) P):=by
 have mk:∀(x:Str)(f:Addr),PySem.W.nsIn (Kf w.params) mainGlobals x=some (some (.ref f))->mg x=some (.ref f):=fun x f e=>PySem.W.mg_of KX G e
 have mn:∀x:Str,PySem.W.nsIn (Kf w.params) mainGlobals x=some none->mg x=none:=fun x e=>PySem.W.mg_none_of KX G e
 have FTa:=fk (K:=Kf w.params) "_law_tape" zJK 164 (qS "law_labelways_k33_entries_that_can_go" 387) (vR 163)
 have bTa:=FTa.binds (ps:=["_law_script"]) fun _ _ _ _ _ _ us hl=>by obtain⟨u0,rfl⟩:=zI3 hl;rfl
 have mTa:=mk "_law_tape" 164 (by kernel_rfl)
 have FD:=fk (K:=Kf w.params) "_law_draw" zEB 171 (qS "law_labelways_k33_entries_that_can_go" 387) (vR 170)
 have bD:=FD.binds (ps:=["_law_tape_here", "_law_many"]) fun _ _ _ _ _ _ us hl=>by obtain⟨u0,u1,rfl⟩:=zE4 hl;rfl
 have mD:=mk "_law_draw" 171 (by kernel_rfl)
 have FW:=fk (K:=Kf w.params) "_law_web" sWeb 176 (qS "law_labelways_k33_entries_that_can_go" 387) (vR 175)
 have bW:=FW.binds (ps:=["_law_tape_here", "_law_n"]) fun _ _ _ _ _ _ us hl=>by obtain⟨u0,u1,rfl⟩:=zE4 hl;rfl
 have mW:=mk "_law_web" 176 (by kernel_rfl)
 have FT:=fk (K:=Kf w.params) "ties_at" zFz 101 (qS "labelways.webs" 293) (vR 100)
 have bT:=FT.binds (ps:=["web", "place"]) fun _ _ _ _ _ _ us hl=>by obtain⟨u0,u1,rfl⟩:=zE4 hl;rfl
 have mT:=mk "ties_at" 101 (by kernel_rfl)
 have FNe:=fkC (K:=Kf w.params) "nearest" zHp 120 (qS "labelways.lengths" 307) 119
 have bNe:=FNe.fn.binds (ps:=["waiting"]) fun _ _ _ _ _ _ us hl=>by obtain⟨u0,rfl⟩:=zI3 hl;rfl
 have mNe:=mk "nearest" 120 (by kernel_rfl)
 have FF:=fk (K:=Kf w.params) "lengths_from" zHs 113 (qS "labelways.lengths" 307) (vR 112)
 have bF:=FF.binds (ps:=["web", "start"]) fun _ _ _ _ _ _ us hl=>by obtain⟨u0,u1,rfl⟩:=zE4 hl;rfl
 have mF:=mk "lengths_from" 113 (by kernel_rfl)
 have FLe:=fk (K:=Kf w.params) "lengths" zHq 106 (qS "labelways.lengths" 307) (vR 105)
 have bLe:=FLe.binds (ps:=["web"]) fun _ _ _ _ _ _ us hl=>by obtain⟨u0,rfl⟩:=zI3 hl;rfl
 have mLe:=mk "lengths" 106 (by kernel_rfl)
 have FBw:=fk (K:=Kf w.params) "between_rows" sBwr 125 (qS "labelways.lengths" 307) (vR 124)
 have bBw:=FBw.binds (ps:=["here", "there", "other"]) fun _ _ _ _ _ _ us hl=>by obtain⟨u0,u1,u2,rfl⟩:=usl3 hl;rfl
 have mBw:=mk "between_rows" 125 (by kernel_rfl)
 have FNb:=fk (K:=Kf w.params) "next_by_row" sNbr 130 (qS "labelways.lengths" 307) (vR 129)
 have bNb:=FNb.binds (ps:=["web", "one", "there"]) fun _ _ _ _ _ _ us hl=>by obtain⟨u0,u1,u2,rfl⟩:=usl3 hl;rfl
 have mNb:=mk "next_by_row" 130 (by kernel_rfl)
 have FNu:=fk (K:=Kf w.params) "is_number" zKr 21 (qS "labelways.kinds" 187) (vR 20)
 have bNu:=FNu.binds (ps:=["thing"]) fun _ _ _ _ _ _ us hl=>by obtain⟨u0,rfl⟩:=zI3 hl;rfl
 have mNu:=mk "is_number" 21 (by kernel_rfl)
 have FWi:=fk (K:=Kf w.params) "is_within" sWi 28 (qS "labelways.kinds" 187) (vR 27)
 have bWi:=FWi.binds (ps:=["thing", "least", "most"]) fun _ _ _ _ _ _ us hl=>by obtain⟨u0,u1,u2,rfl⟩:=usl3 hl;rfl
 have mWi:=mk "is_within" 28 (by kernel_rfl)
 have FTo:=fk (K:=Kf w.params) "is_tuple_of" sTof 35 (qS "labelways.kinds" 187) (vR 34)
 have bTo:=FTo.binds (ps:=["thing", "count"]) fun _ _ _ _ _ _ us hl=>by obtain⟨u0,u1,rfl⟩:=zE4 hl;rfl
 have mTo:=mk "is_tuple_of" 35 (by kernel_rfl)
 have FPl:=fk (K:=Kf w.params) "is_place" sPl 42 (qS "labelways.kinds" 187) (vR 41)
 have bPl:=FPl.binds (ps:=["n", "thing"]) fun _ _ _ _ _ _ us hl=>by obtain⟨u0,u1,rfl⟩:=zE4 hl;rfl
 have mPl:=mk "is_place" 42 (by kernel_rfl)
 have FIo:=fk (K:=Kf w.params) "is_order" sOrd 135 (qS "labelways.orders" 349) (vR 134)
 have bIo:=FIo.binds (ps:=["web", "thing"]) fun _ _ _ _ _ _ us hl=>by obtain⟨u0,u1,rfl⟩:=zE4 hl;rfl
 have mIo:=mk "is_order" 135 (by kernel_rfl)
 have FBy:=fk (K:=Kf w.params) "by_order" sByo 140 (qS "labelways.orders" 349) (vR 139)
 have bBy:=FBy.binds (ps:=["web", "order"]) fun _ _ _ _ _ _ us hl=>by obtain⟨u0,u1,rfl⟩:=zE4 hl;rfl
 have mBy:=mk "by_order" 140 (by kernel_rfl)
 have FLb:=fk (K:=Kf w.params) "label_by_ranks" sLbr 145 (qS "labelways.orders" 349) (vR 144)
 have bLb:=FLb.binds (ps:=["web", "rows", "ranks", "place"]) fun _ _ _ _ _ _ us hl=>by obtain⟨u0,u1,u2,u3,rfl⟩:=zJ4 hl;rfl
 have mLb:=mk "label_by_ranks" 145 (by kernel_rfl)
 have FIh:=fk (K:=Kf w.params) "is_hub" sIsh 150 (qS "labelways.orders" 349) (vR 149)
 have bIh:=FIh.binds (ps:=["rows", "ranks", "hub", "place"]) fun _ _ _ _ _ _ us hl=>by obtain⟨u0,u1,u2,u3,rfl⟩:=zJ4 hl;rfl
 have mIh:=mk "is_hub" 150 (by kernel_rfl)
 have FEb:=fk (K:=Kf w.params) "entry_by_rows" sEbr 157 (qS "labelways.orders" 349) (vR 156)
 have bEb:=FEb.binds (ps:=["web", "rows", "place", "hub"]) fun _ _ _ _ _ _ us hl=>by obtain⟨u0,u1,u2,u3,rfl⟩:=zJ4 hl;rfl
 have mEb:=mk "entry_by_rows" 157 (by kernel_rfl)
 have FA:=fk (K:=Kf w.params) "_law_added" sAdd 183 (qS "law_labelways_k33_entries_that_can_go" 387) (vR 182)
 have bA:=FA.binds (ps:=["_law_one", "_law_other"]) fun _ _ _ _ _ _ us hl=>by obtain⟨u0,u1,rfl⟩:=zE4 hl;rfl
 have mA:=mk "_law_added" 183 (by kernel_rfl)
 have FLs:=fk (K:=Kf w.params) "_law_lesser" sLes 190 (qS "law_labelways_k33_entries_that_can_go" 387) (vR 189)
 have bLs:=FLs.binds (ps:=["_law_one", "_law_other"]) fun _ _ _ _ _ _ us hl=>by obtain⟨u0,u1,rfl⟩:=zE4 hl;rfl
 have mLs:=mk "_law_lesser" 190 (by kernel_rfl)
 have FFr:=fk (K:=Kf w.params) "_law_far" sFar 195 (qS "law_labelways_k33_entries_that_can_go" 387) (vR 194)
 have bFr:=FFr.binds (ps:=["_law_web_here"]) fun _ _ _ _ _ _ us hl=>by obtain⟨u0,rfl⟩:=zI3 hl;rfl
 have mFr:=mk "_law_far" 195 (by kernel_rfl)
 have FOn:=fk (K:=Kf w.params) "_law_on" sOn 202 (qS "law_labelways_k33_entries_that_can_go" 387) (vR 201)
 have bOn:=FOn.binds (ps:=["_law_far_here", "_law_place", "_law_one", "_law_other"]) fun _ _ _ _ _ _ us hl=>by obtain⟨u0,u1,u2,u3,rfl⟩:=zJ4 hl;rfl
 have mOn:=mk "_law_on" 202 (by kernel_rfl)
 have FJ:=fk (K:=Kf w.params) "_law_joined" zKs 209 (qS "law_labelways_k33_entries_that_can_go" 387) (vR 208)
 have bJ:=FJ.binds (ps:=["_law_web_here"]) fun _ _ _ _ _ _ us hl=>by obtain⟨u0,rfl⟩:=zI3 hl;rfl
 have mJ:=mk "_law_joined" 209 (by kernel_rfl)
 have FNs:=fk (K:=Kf w.params) "_law_nexts" sNxs 214 (qS "law_labelways_k33_entries_that_can_go" 387) (vR 213)
 have bNs:=FNs.binds (ps:=["_law_web_here", "_law_far_here", "_law_one", "_law_other"]) fun _ _ _ _ _ _ us hl=>by obtain⟨u0,u1,u2,u3,rfl⟩:=zJ4 hl;rfl
 have mNs:=mk "_law_nexts" 214 (by kernel_rfl)
 have FOr:=fk (K:=Kf w.params) "_law_order" zFJ 221 (qS "law_labelways_k33_entries_that_can_go" 387) (vR 220)
 have bOr:=FOr.binds (ps:=["_law_tape_here", "_law_n"]) fun _ _ _ _ _ _ us hl=>by obtain⟨u0,u1,rfl⟩:=zE4 hl;rfl
 have mOr:=mk "_law_order" 221 (by kernel_rfl)
 have FEn:=fk (K:=Kf w.params) "_law_entry" zG0 228 (qS "law_labelways_k33_entries_that_can_go" 387) (vR 227)
 have bEn:=FEn.binds (ps:=["_law_web_here", "_law_far_here", "_law_place", "_law_hub"]) fun _ _ _ _ _ _ us hl=>by obtain⟨u0,u1,u2,u3,rfl⟩:=zJ4 hl;rfl
 have mEn:=mk "_law_entry" 228 (by kernel_rfl)
 have FLa:=fk (K:=Kf w.params) "_law_labels" zFL 233 (qS "law_labelways_k33_entries_that_can_go" 387) (vR 232)
 have bLa:=FLa.binds (ps:=["_law_web_here", "_law_order_here"]) fun _ _ _ _ _ _ us hl=>by obtain⟨u0,u1,rfl⟩:=zE4 hl;rfl
 have mLa:=mk "_law_labels" 233 (by kernel_rfl)
 have FFu:=fk (K:=Kf w.params) "_law_full" zHr 238 (qS "law_labelways_k33_entries_that_can_go" 387) (vR 237)
 have bFu:=FFu.binds (ps:=["_law_web_here", "_law_far_here"]) fun _ _ _ _ _ _ us hl=>by obtain⟨u0,u1,rfl⟩:=zE4 hl;rfl
 have mFu:=mk "_law_full" 238 (by kernel_rfl)
 have FEi:=fk (K:=Kf w.params) "_law_either" zHu 243 (qS "law_labelways_k33_entries_that_can_go" 387) (vR 242)
 have bEi:=FEi.binds (ps:=["_law_labels_here", "_law_others"]) fun _ _ _ _ _ _ us hl=>by obtain⟨u0,u1,rfl⟩:=zE4 hl;rfl
 have mEi:=mk "_law_either" 243 (by kernel_rfl)
 have FLo:=fk (K:=Kf w.params) "_law_loose" zFK 250 (qS "law_labelways_k33_entries_that_can_go" 387) (vR 249)
 have bLo:=FLo.binds (ps:=["_law_tape_here", "_law_web_here", "_law_far_here", "_law_labels_here"]) fun _ _ _ _ _ _ us hl=>by obtain⟨u0,u1,u2,u3,rfl⟩:=zJ4 hl;rfl
 have mLo:=mk "_law_loose" 250 (by kernel_rfl)
 have FLg:=fk (K:=Kf w.params) "_law_longer" zDd 255 (qS "law_labelways_k33_entries_that_can_go" 387) (vR 254)
 have bLg:=FLg.binds (ps:=["_law_tape_here", "_law_web_here", "_law_far_here", "_law_labels_here"]) fun _ _ _ _ _ _ us hl=>by obtain⟨u0,u1,u2,u3,rfl⟩:=zJ4 hl;rfl
 have mLg:=mk "_law_longer" 255 (by kernel_rfl)
 have FSo:=fk (K:=Kf w.params) "_law_some" zJL 262 (qS "law_labelways_k33_entries_that_can_go" 387) (vR 261)
 have bSo:=FSo.binds (ps:=["_law_tape_here", "_law_web_here"]) fun _ _ _ _ _ _ us hl=>by obtain⟨u0,u1,rfl⟩:=zE4 hl;rfl
 have mSo:=mk "_law_some" 262 (by kernel_rfl)
 have FTd:=fk (K:=Kf w.params) "_law_told" sTdl 267 (qS "law_labelways_k33_entries_that_can_go" 387) (vR 266)
 have bTd:=FTd.binds (ps:=["_law_one", "_law_other"]) fun _ _ _ _ _ _ us hl=>by obtain⟨u0,u1,rfl⟩:=zE4 hl;rfl
 have mTd:=mk "_law_told" 267 (by kernel_rfl)
 have FAt:=fk (K:=Kf w.params) "_law_all_told" sAll 272 (qS "law_labelways_k33_entries_that_can_go" 387) (vR 271)
 have bAt:=FAt.binds (ps:=["_law_labels_here"]) fun _ _ _ _ _ _ us hl=>by obtain⟨u0,rfl⟩:=zI3 hl;rfl
 have mAt:=mk "_law_all_told" 272 (by kernel_rfl)
 have FSp:=fk (K:=Kf w.params) "_law_spare" zGP 277 (qS "law_labelways_k33_entries_that_can_go" 387) (vR 276)
 have bSp:=FSp.binds (ps:=["_law_labels_here"]) fun _ _ _ _ _ _ us hl=>by obtain⟨u0,rfl⟩:=zI3 hl;rfl
 have mSp:=mk "_law_spare" 277 (by kernel_rfl)
 have FTl:=fk (K:=Kf w.params) "told" zHo 49 (qS "labelways.labels" 221) (vR 48)
 have bTl:=FTl.binds (ps:=["one", "other"]) fun _ _ _ _ _ _ us hl=>by obtain⟨u0,u1,rfl⟩:=zE4 hl;rfl
 have mTl:=mk "told" 49 (by kernel_rfl)
 have FLm:=fk (K:=Kf w.params) "least_sum" sSum 54 (qS "labelways.labels" 221) (vR 53)
 have bLm:=FLm.binds (ps:=["one", "other"]) fun _ _ _ _ _ _ us hl=>by obtain⟨u0,u1,rfl⟩:=zE4 hl;rfl
 have mLm:=mk "least_sum" 54 (by kernel_rfl)
 have FFa:=fk (K:=Kf w.params) "far_entries" zHt 59 (qS "labelways.labels" 221) (vR 58)
 have bFa:=FFa.binds (ps:=["labels"]) fun _ _ _ _ _ _ us hl=>by obtain⟨u0,rfl⟩:=zI3 hl;rfl
 have mFa:=mk "far_entries" 59 (by kernel_rfl)
 have FCg:=fk (K:=Kf w.params) "can_go" sCan 64 (qS "labelways.sparing" 243) (vR 63)
 have bCg:=FCg.binds (ps:=["labels"]) fun _ _ _ _ _ _ us hl=>by obtain⟨u0,rfl⟩:=zI3 hl;rfl
 have mCg:=mk "can_go" 64 (by kernel_rfl)
 have FIs:=fk (K:=Kf w.params) "is_spare" sIsp 69 (qS "labelways.sparing" 243) (vR 68)
 have bIs:=FIs.binds (ps:=["labels", "place", "entry"]) fun _ _ _ _ _ _ us hl=>by obtain⟨u0,u1,u2,rfl⟩:=usl3 hl;rfl
 have mIs:=mk "is_spare" 69 (by kernel_rfl)
 have FZ:=fk (K:=Kf w.params) "law" sLaw 284 (qS "law_labelways_k33_entries_that_can_go" 387) (vR 283)
 have mb0:=mn "len" (by kernel_rfl)
 have mb1:=mn "range" (by kernel_rfl)
 have mb2:=mn "tuple" (by kernel_rfl)
 have mb3:=mn "sorted" (by kernel_rfl)
 have mb4:=mn "min" (by kernel_rfl)
 have mb5:=mn "list" (by kernel_rfl)
 have mb6:=mn "isinstance" (by kernel_rfl)
 have mb7:=mn "int" (by kernel_rfl)
 have mb8:=mn "bool" (by kernel_rfl)
 have mb9:=mn "all" (by kernel_rfl)
 have mb10:=mn "set" (by kernel_rfl)
 have mb11:=mn "repr" (by kernel_rfl)
 have mb12:=mn "dict" (by kernel_rfl)
 have mb13:=mn "zip" (by kernel_rfl)
 have mb14:=mn "enumerate" (by kernel_rfl)
 have e:=hmg.symm.trans (mk "law" 284 (by kernel_rfl))
 cases e
 exact⟨_,119,115,by kernel_rfl,by kernel_rfl,fun s v=>.of_eq rfl,fun base hb _ hbm=>ok_law FZ (PySem.W.codeHd_of_K hb (show PySem.W.codeHdIn (Kf w.params) 119 115=true by kernel_rfl)) hbm FTa bTa mTa FD bD mD FW bW mW FT bT mT FNe bNe mNe FF bF mF FLe bLe mLe FBw bBw mBw FNb bNb mNb FNu bNu mNu FWi bWi mWi FTo bTo mTo FPl bPl mPl FIo bIo mIo FBy bBy mBy FLb bLb mLb FIh bIh mIh FEb bEb mEb FA bA mA FLs bLs mLs FFr bFr mFr FOn bOn mOn FJ bJ mJ FNs bNs mNs FOr bOr mOr FEn bEn mEn FLa bLa mLa FFu bFu mFu FEi bEi mEi FLo bLo mLo FLg bLg mLg FSo bSo mSo FTd bTd mTd FAt bAt mAt FSp bSp mSp FTl bTl mTl FLm bLm mLm FFa bFa mFa FCg bCg mCg FIs bIs mIs mb0 mb1 mb2 mb3 mb4 mb5 mb6 mb7 mb8 mb9 mb10 mb11 mb12 mb13 mb14⟩
end K33
open PySem PySem.W PyProof.Rows
set_option maxRecDepth 100000 in
set_option maxHeartbeats 0 in
theorem PySem.Challenge.cw_labelways_k33_entries_that_can_go_holds : PySem.Challenge.rw_labelways_k33_entries_that_can_go.Holds := by
 refine holds_law (by decide +kernel) fun said=>?_
 refine holds_open (q:=K33.V) (loose:=[]) (Xt:=fun s=>xlAt K33.V [] s && recOk (RowW.records K33.RR) s) (XP:=XL K33.V []) (Yf:=Hook.obs K33.HK) (Ya:=Hook.val K33.HK) (YP:=Hook.says K33.HK) (d:=K33.dL) (kwd:=[]) (N:=3458) K33.left (Hook.of K33.HK) (Hook.keeps K33.HK) (fun s e=>xl_of s (Bool.and_eq_true_iff.mp e).1) XL.keeps (by kernel_rfl) (by kernel_rfl) (by kernel_rfl) (fun s e=>recFacts_of (Bool.and_eq_true_iff.mp e).2) (by kernel_rfl) said (by decide +kernel) ⟨rfl,rfl,rfl,rfl,rfl,by decide +kernel⟩ ?hw ?hc
 case hw=>w_witness2
 case hc=>
  exact K33.walk (l:=PySem.Challenge.rw_labelways_k33_entries_that_can_go) (K:=K33.Kf) rfl rfl ⟨((PyProof.Rows.recsOf K33.V).find? (fun e=>e.name==("nearest" : Str))).get (by decide +kernel),by simp⟩ (fun w h Y=>PySem.W.kIn_of Y) K33.facts
