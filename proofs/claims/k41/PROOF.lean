import PyProof.Rows.All
import Wide.All
import OpenK.AllK
import Wide.FinOn
import Lean
import PyProof.EqAt
import PyProof.EqKinds
import PyProof.TupleCall
import PyProof.ListRange
import PyProof.Rows.StrKeys3
import PyProof.ZipIter
import KE.KRevSl
import PyProof.FactsAll.set
import PySem.Challenge.RW_labelways_k41_plans_of_trees
set_option Elab.async false
set_option linter.all false
set_option maxRecDepth 100000
section
open PySem PySem.Spec PyProof.Rows
abbrev zA:=@wpAny_bind
abbrev zB:=@wpAny_pure
abbrev zC:=@List.length_map
abbrev zD:=@List.getElem?_eq_getElem
abbrev zE:=@Heap.get?_push_of_some
abbrev zG:=@Nat.le_refl
abbrev zH:=@List.length_append
abbrev zJ:=@List.getElem?_eq_some_iff
abbrev zK:=@Heap.get?_push_size
abbrev zM:=@decide_eq_true
abbrev zN:=@List.mem_cons_self
abbrev zO:=@List.mem_cons_of_mem
abbrev zP:=@List.getD_eq_getElem?_getD
abbrev zQ:=@List.mem_append
abbrev zS:=@List.size_toArray
abbrev zT:=@List.getElem?_map
abbrev zU:=@Heap.lt_size
abbrev zV:=@decide_eq_false
abbrev zW:=@List.mem_cons
abbrev zX:=@List.mem_singleton
abbrev za:=@Option.some.inj
abbrev zc:=@List.mem_of_getElem?
abbrev zd:=@List.take_of_length_le
abbrev ze:=@List.map_append
abbrev zf:=@Nat.ne_of_lt
abbrev zh:=@Bool.false_ne_true
abbrev zi:=@Heap.get?_update_self
abbrev zj:=@List.length_cons
abbrev zk:=@Nat.zero_le
abbrev zo:=@Nat.lt_of_lt_of_le
abbrev zp:=@List.length_take
abbrev zq:=@wpAny_holding
abbrev zr:=@List.pairwise_iff_getElem
abbrev zt:=@Classical.byContradiction
abbrev zu:=@List.mem_append_left
abbrev zw:=@List.append_nil
abbrev zy:=@List.getElem?_toArray
abbrev zAA:=@List.take_add_one
abbrev zAB:=@List.getElem?_eq_none
abbrev zAC:=@List.getElem_of_mem
abbrev zAE:=@List.mem_append_right
abbrev zAF:=@List.length_filter_le
abbrev zAJ:=@List.length_eq_zero_iff
abbrev zAK:=@List.getElem?_append_left
abbrev zAL:=@Heap.get?_update_ne
abbrev zAM:=@wpAny_mono
abbrev zAN:=@wpAny_newObj_type
abbrev zAO:=@wpAny_call_entry
abbrev zAQ:=@Nat.lt_of_le_of_lt
abbrev zAT:=@List.mem_map
abbrev zAU:=@List.map_cons
abbrev zAV:=@List.nodup_cons
abbrev zAW:=@List.length_range
abbrev zAX:=@Int.toNat_natCast
abbrev zAY:=@wpAny_tryCatch
abbrev zAZ:=@decide_eq_true_iff
abbrev zAc:=@List.length_singleton
abbrev zAf:=@wpAny_updateSeq
abbrev zAg:=@Heap.size_push
abbrev zAi:=@Heap.get?_update_other
abbrev zAl:=@Nat.le_trans
abbrev zAm:=@List.mem_filter
abbrev zAn:=@List.filter_nil
abbrev zAo:=@Heap.SameBut.update
abbrev zAq:=@wpAny_truthy_bool
abbrev zAr:=@wpAny_callSpecial?_slot
abbrev zAs:=@List.getElem?_append_right
abbrev zAu:=@wpAny_Call_Name_kw
abbrev zAw:=@wpAny_seqItems
abbrev zAy:=@List.getElem_mem
abbrev zAz:=@Bool.and_eq_true
abbrev zA1:=@Nat.lt_succ_of_lt
abbrev zA2:=@List.nodup_append
abbrev zA4:=@List.filter_cons_of_neg
abbrev zA6:=@List.nodup_iff_pairwise_ne
abbrev zA8:=@wpAny_loadPart_at
abbrev zBA:=@Nat.le_succ
abbrev zBB:=@List.length_pos_iff
abbrev zBC:=@List.append_assoc
abbrev zBG:=@Option.map_some
abbrev zBI:=@wpAny_isInstance
abbrev zBJ:=@List.lookup_cons
abbrev zBL:=@wpAny_newList
abbrev zBM:=@Nat.lt_irrefl
abbrev zBN:=@List.filter_cons_of_pos
abbrev zBO:=@Int.eq_ofNat_of_zero_le
abbrev zBQ:=@Nat.le_of_lt
abbrev zBR:=@wpAny_setState_of
abbrev zBS:=@wpAny_call
abbrev zBV:=@wpAny_letGo
abbrev zBW:=@List.map_eq_nil_iff
abbrev zBX:=@wpAny_pyNext_list_item
abbrev zBb:=@Option.map_eq_some_iff
abbrev zBf:=@wpAny_typeOf
abbrev zBg:=@List.length_replicate
abbrev zBh:=@Bool.false_eq_true
abbrev zBn:=@Option.isSome_iff_exists
abbrev zBr:=@List.filterMap_cons
abbrev zBs:=@wpAny_typeNameOfWhole_keyiter
abbrev zBt:=@wpAny_setField
abbrev zBu:=@wpAny_rule
abbrev zBz:=@List.mem_range
abbrev zB0:=@List.Perm.refl
end
namespace L2
open PySem PySem.Spec PyProof.Rows
noncomputable abbrev Key:=Sum Int Str
noncomputable def zHq:Key->Value->Bool
 | .inl k,v=>Value.isInt k v
 | .inr x,v=>Value.isStrOf x v
noncomputable def keyH (w:World):Key->Int
 | .inl k=>hashInt k
 | .inr x=>hashStr w x
theorem zBT:∀{k:Key}{v:Value},zHq k v=true->(∃i t,k=Sum.inl i/\v=Value.int i t)\/(∃x t,k=Sum.inr x/\v=Value.str x t)
 | .inl i,v,h=>by
  obtain⟨t,e⟩:=Value.isInt_shape (k:=i) (v:=v) h
  exact .inl ⟨i,t,rfl,e⟩
 | .inr x,v,h=>by
  obtain⟨t,e⟩:=Value.isStrOf_shape (x:=x) (v:=v) h
  exact .inr ⟨x,t,rfl,e⟩
theorem zI0 (i:Int)(t:Tok):zHq (.inl i) (.int i t)=true:=by simp[zHq,Value.isInt]
theorem zIz (x:Str)(t:Tok):zHq (.inr x) (.str x t)=true:=by simp[zHq,Value.isStrOf]
theorem key_ll (a b:Int):decide ((Sum.inl a:Key)=Sum.inl b)=(a==b):=by
 by_cases e:a=b
 . subst e;simp
 . have h:¬ (Sum.inl a:Key)=Sum.inl b:=fun q=>e (Sum.inl.inj q)
   rw[zV h]
   exact (beq_eq_false_iff_ne.mpr e).symm
theorem key_rr (a b:Str):decide ((Sum.inr a:Key)=Sum.inr b)=decide (a=b):=by
 by_cases e:a=b
 . subst e;simp
 . have h:¬ (Sum.inr a:Key)=Sum.inr b:=fun q=>e (Sum.inr.inj q)
   rw[zV h,zV e]
theorem key_lr (a:Int)(b:Str):decide ((Sum.inl a:Key)=Sum.inr b)=false:=zV (fun q=>nomatch q)
theorem key_rl (a:Str)(b:Int):decide ((Sum.inr a:Key)=Sum.inl b)=false:=zV (fun q=>nomatch q)
noncomputable def zBj (prog:Program)(w:World):PySem.KeyKind prog w Key where
 is:=zHq
 hash:=keyH w
 inj:=fun v a b ha hb=>by
  rcases zBT ha with ⟨i,t,rfl,rfl⟩ | ⟨x,t,rfl,rfl⟩
  . rcases zBT hb with ⟨j,u,rfl,e⟩ | ⟨y,u,rfl,e⟩
    . injection e with e1 _;rw[e1]
    . exact nomatch e
  . rcases zBT hb with ⟨j,u,rfl,e⟩ | ⟨y,u,rfl,e⟩
    . exact nomatch e
    . injection e with e1 _;rw[e1]
 byValue:=fun k v h=>by
  rcases zBT h with ⟨i,t,rfl,rfl⟩ | ⟨x,t,rfl,rfl⟩ <;> rfl
 pyHash:=fun hv h=>by
  rcases zBT hv with ⟨i,t,rfl,rfl⟩ | ⟨x,t,rfl,rfl⟩
  . exact wpAny_pyHash_int h
  . exact wpAny_pyHash_str h
 eqBool:=fun hu hv h=>by
  rcases zBT hu with ⟨i,t,rfl,rfl⟩ | ⟨x,t,rfl,rfl⟩
  . rcases zBT hv with ⟨j,u,rfl,rfl⟩ | ⟨y,u,rfl,rfl⟩
    . rw[key_ll] at h;exact wpAny_eqBool_int h
    . rw[key_lr] at h;exact SeqAt.EqAt.int_str i t y u _ _ _ _ h
  . rcases zBT hv with ⟨j,u,rfl,rfl⟩ | ⟨y,u,rfl,rfl⟩
    . rw[key_rl] at h;exact SeqAt.EqAt.str_int x t j u _ _ _ _ h
    . rw[key_rr] at h;exact wpAny_eqBool_str h
 «strs» := fun k x t v h=>by
  rcases zBT h with ⟨i,u,rfl,e⟩ | ⟨y,u,rfl,e⟩
  . exact nomatch e
  . injection e with e1 _
    subst e1
    cases v <;> rfl
theorem zGa (prog:Program)(w:World)(i:Int)(t:Tok):(zBj prog w).is (.inl i) (.int i t)=true:=zI0 i t
theorem zGZ (prog:Program)(w:World)(x:Str)(t:Tok):(zBj prog w).is (.inr x) (.str x t)=true:=zIz x t
end L2
namespace L2
open PySem PySem.Spec PyProof.Rows
inductive V where
 | non | bl (b:Bool) | int (i:Int) | str (x:Str) | byt (b:Array UInt8) | flt (b:UInt64) | ref (a:Addr) | ty (n:String)
 deriving DecidableEq
noncomputable def zBe:V->Value->Prop
 | .non,u=>u=Value.none
 | .bl b,u=>u=Value.bool b
 | .int i,u=>∃t,u=Value.int i t
 | .str x,u=>∃t,u=Value.str x t
 | .byt b,u=>∃t,u=Value.bytes b t
 | .flt b,u=>∃t,u=Value.float b t
 | .ref a,u=>u=Value.ref a
 | .ty n,u=>u=Value.type n
noncomputable abbrev zBK:List V->List Value->Prop:=Paired zBe
theorem zBK.length {xs:List V}{us:List Value}(r:zBK xs us):xs.length=us.length:=Paired.length r
theorem zBK.get:∀{xs:List V}{us:List Value}{i:Nat}{x:V},zBK xs us->xs[i]? = some x->∃u,us[i]? = some u/\zBe x u
 | _,_,_,_,.nil,e=>by simp at e
 | _,_,0,_,.cons r _,e=>by simp at e;subst e;exact⟨_,rfl,r⟩
 | _,_,i+1,x,.cons _ t,e=>by
  obtain⟨u,h1,h2⟩:=zBK.get (i:=i) (x:=x) t (by simpa using e)
  exact⟨u,by simpa using h1,h2⟩
theorem zBK.set {x:V}{u:Value}(r:zBe x u):∀{xs:List V}{us:List Value}(i:Nat),zBK xs us->zBK (xs.set i x) (us.set i u)
 | _,_,_,.nil=>.nil
 | _,_,0,.cons _ t=>.cons r t
 | _,_,i+1,.cons q t=>.cons q (zBK.set r i t)
theorem zBK.append:∀{xs ys:List V}{us ws:List Value},zBK xs us->zBK ys ws->zBK (xs++ys) (us++ws)
 | _,_,_,_,.nil,s=>s
 | _,_,_,_,.cons r t,s=>.cons r (zBK.append t s)
theorem zBK.take:∀{xs:List V}{us:List Value}(n:Nat),zBK xs us->zBK (xs.take n) (us.take n)
 | _,_,0,_=>.nil
 | _,_,_+1,.nil=>.nil
 | _,_,n+1,.cons r t=>.cons r (zBK.take n t)
theorem zBK.drop:∀{xs:List V}{us:List Value}(n:Nat),zBK xs us->zBK (xs.drop n) (us.drop n)
 | _,_,0,r=>r
 | _,_,_+1,.nil=>.nil
 | _,_,n+1,.cons _ t=>zBK.drop n t
noncomputable def zGp:Option V->Option Value->Prop
 | some v,some u=>zBe v u
 | none,none=>True
 | _,_=>False
noncomputable def KV {κ:Type}:List (κ×V)->List (κ×Value)->Prop:=Paired fun (p:κ×V)(q:κ×Value)=>p.1=q.1/\zBe p.2 q.2
noncomputable def kV:Key->V
 | .inl i=>.int i
 | .inr x=>.str x
inductive HO where
 /-- a list -/
 | lst (xs:List V)
 /-- a tuple (never changes) -/
 | tup (xs:List V)
 /-- a dict whose keys are ints and texts;one whose keys are tuples of ints and texts (the empty one is both) -/
 | dK (kvs:List (Key×V)) | dT (kvs:List (List Key×V))
 /-- a set of ints: its members,its size -/
 | set (S:Int->Bool)(n:Nat)
 /-- an instance of the class at C,its dict at dx,its attributes -/
 | ins (C dx:Addr)(fs:List (Str×V))
 /-- the dict of the instance at x -/
 | own (x:Addr)
 /-- the dict of an exception -/
 | xd (fs:List (Str×V))
 /-- a bound method,f of x -/
 | met (f x:Addr)
 /-- a range object lo,lo+1,.. below hi -/
 | rng (lo hi:Int)
 /-- a thing that is known to the object (the script;a dict while a loop walks it): read,never written while it is so -/
 | frz (o:Obj)(u:HO)
 /-- a code object's table -/
 | tbl (ps:Array Value)
 /-- any other thing,by what is true of its one object (a def of one's own: SetO a S n:=HO.ext fun h=>..) -/
 | ext (φ:Heap->Prop)
noncomputable abbrev Hp:=Addr->Option HO
noncomputable def upd (H:Hp)(a:Addr)(o:HO):Hp:=fun b=>if b=a then some o else H b
theorem zI {H:Hp}{a:Addr}{o:HO}:upd H a o a=some o:=by unfold upd;rw[if_pos rfl]
theorem zY {H:Hp}{a b:Addr}{o:HO}(h:b≠a):upd H a o b=H b:=by unfold upd;rw[if_neg h]
theorem zCA {H:Hp}{a:Addr}{o u:HO}:upd (upd H a o) a u=upd H a u:=by
 funext b;unfold upd;split <;> rfl
theorem zB5 {H:Hp}{a b:Addr}{o u:HO}(h:H a=some o)(h':H b=some u)(d:o≠u):a≠b:=by
 intro e;subst e;rw[h] at h';exact d (za h')
theorem zg {H:Hp}{a b:Addr}{o:HO}(h:H a=some o)(h':H b=none):a≠b:=by
 intro e;subst e;rw[h] at h';cases h'
section
variable (P:Program)(w:World)
noncomputable def zBc (H:Hp)(h:Heap)(a:Addr):HO->Prop
 | .lst xs=>xs.length<=sizeLine/\∃(its:List Value)(n:Nat),zBK xs its/\h.get? a=some { cls:=.type "list",data:=.seq its.toArray n }
 | .tup xs=>(xs.length<=sizeLine/\∃o,h.get? a=some o/\o.dict=none)/\∃its:List Value,zBK xs its/\IsTup h a its.toArray
 | .dK kvs=>kvs.length<=sizeLine/\(a==sysModules)=false/\∃vs,KV kvs vs/\h.DictOf (zBj P w) a vs
 | .dT kvs=>kvs.length<=sizeLine/\(a==sysModules)=false/\∃xs:List (List Key×Addr×Value),
  Paired (fun (p:List Key×V)(q:List Key×Addr×Value)=>p.1=q.1/\H q.2.1=some (.tup (p.1.map kV))/\zBe p.2 q.2.2) kvs xs /\
  ∃o es ep,h.get? a=some o/\o.ExactDict/\o.data = .dict es ep/\es.toList=xs.map (entryOfKey (tupleKind (zBj P w)))/\(xs.map (·.1)).Nodup
 | .set S n=>h.SetOf (intKind P w) a S n
 | .ins C dx fs=>H dx=some (.own a)/\fs.length<=1000/\dx≠a/\h.get? a=some (PySem.W.instObj C dx) /\
  ∃mA,h.Ns1 dx mA/\(∀f,zGp (fs.lookup f) (mA f))/\PySem.Within mA (fs.map (·.1))
 | .own _=>∃o,h.get? a=some o
 | .xd fs=>∃mA,h.Ns1 a mA/\∀f,zGp (fs.lookup f) (mA f)
 | .rng lo hi=>∃t u v,h.get? a=some { cls:=.type "range",data:=.fields #[.int lo t,.int hi u,.int 1 v] }
 | .frz o u=>h.get? a=some o/\zBc H h a u
 | .tbl ps=>h.get? a=some { cls:=.none,data:=.fields ps }
 | .met f x=>h.get? a=some (PySem.W.methodObj (.ref f) (.ref x))
 | .ext φ=>φ h/\(∃o,h.get? a=some o)/\∀h1 h2:Heap,φ h1->(∀o,h1.get? a=some o->h2.get? a=some o)->φ h2
noncomputable def HOk (H:Hp)(h:Heap):Prop:=∀a o,H a=some o->zBc P w H h a o
end
section
variable {P:Program}{w:World}{H H':Hp}{h h':Heap}{a:Addr}{o:HO}
theorem zBc.lt (x:zBc P w H h a o):a<h.objs.size:=by
 cases o with
 | lst xs=>obtain⟨_,_,_,_,e⟩:=x;exact zU e
 | tup xs=>obtain⟨_,_,_,p⟩:=x;exact p.lt
 | dK kvs=>obtain⟨_,_,_,_,o,_,_,e,_⟩:=x;exact zU e
 | dT kvs=>obtain⟨_,_,_,_,o,_,_,e,_⟩:=x;exact zU e
 | set S n=>obtain⟨o,_,_,_,e,_⟩:=x;exact zU e
 | ins C dx fs=>obtain⟨_,_,_,e,_⟩:=x;exact zU e
 | own y=>obtain⟨_,e⟩:=x;exact zU e
 | xd fs=>obtain⟨_,⟨_,_,_,e,_⟩,_⟩:=x;exact zU e
 | rng lo hi=>obtain⟨_,_,_,e⟩:=x;exact zU e
 | frz ob u=>obtain⟨e,_⟩:=x;exact zU e
 | tbl ps=>exact zU (show h.get? a=some _ from x)
 | met f y=>exact zU (show h.get? a=some _ from x)
 | ext φ=>obtain⟨_,⟨_,e⟩,_⟩:=x;exact zU e
theorem Paired.mapP {α β:Type}{F G:α->β->Prop}:∀{l₁:List α}{l₂:List β},Paired F l₁ l₂->(∀a b,F a b->G a b)->Paired G l₁ l₂
 | _,_,.nil,_=>.nil
 | _,_,.cons r t,f=>.cons (f _ _ r) (Paired.mapP t f)
theorem zBc.stay (x:zBc P w H h a o)(k:∀b u,(b=a\/H b=some (.own a))->h.get? b=some u->h'.get? b=some u)
 (ho:∀b,H b=some (.own a)->H' b=some (.own a))(ht:∀b xs,H b=some (.tup xs)->H' b=some (.tup xs)):zBc P w H' h' a o:=by
 induction o with
 | lst xs=>obtain⟨z,its,n,r,e⟩:=x;exact⟨z,its,n,r,k _ _ (.inl rfl) e⟩
 | tup xs=>obtain⟨⟨z,o2,e2,d2⟩,its,r,ob,e,c⟩:=x;exact⟨⟨z,o2,k _ _ (.inl rfl) e2,d2⟩,its,r,ob,k _ _ (.inl rfl) e,c⟩
 | dK kvs=>obtain⟨z,y,vs,r,ob,es,ep,e,c⟩:=x;exact⟨z,y,vs,r,ob,es,ep,k _ _ (.inl rfl) e,c⟩
 | dT kvs=>
  obtain⟨z,y,xs,r,ob,es,ep,e,c⟩:=x
  exact⟨z,y,xs,Paired.mapP r fun p q z=>⟨z.1,ht _ _ z.2.1,z.2.2⟩,ob,es,ep,k _ _ (.inl rfl) e,c⟩
 | set S n=>obtain⟨ob,es,ep,t,e,c⟩:=x;exact⟨ob,es,ep,t,k _ _ (.inl rfl) e,c⟩
 | ins C dx fs=>
  obtain⟨d,z,ne,e,mA,⟨od,es,ep,e2,c⟩,r⟩:=x
  exact⟨ho _ d,z,ne,k _ _ (.inl rfl) e,mA,⟨od,es,ep,k _ _ (.inr d) e2,c⟩,r⟩
 | own y=>obtain⟨ob,e⟩:=x;exact⟨ob,k _ _ (.inl rfl) e⟩
 | xd fs=>obtain⟨mA,⟨od,es,ep,e,c⟩,r⟩:=x;exact⟨mA,⟨od,es,ep,k _ _ (.inl rfl) e,c⟩,r⟩
 | rng lo hi=>obtain⟨t,u,v,e⟩:=x;exact⟨t,u,v,k _ _ (.inl rfl) e⟩
 | frz ob u ih=>obtain⟨e,q⟩:=x;exact⟨k _ _ (.inl rfl) e,ih q⟩
 | tbl ps=>
  have e:h.get? a=some { cls:=.none,data:=.fields ps }:=x
  show h'.get? a=some { cls:=.none,data:=.fields ps }
  exact k a _ (.inl rfl) e
 | met f y=>
  have e:h.get? a=some (PySem.W.methodObj (.ref f) (.ref y)):=x
  show h'.get? a=some (PySem.W.methodObj (.ref f) (.ref y))
  exact k a _ (.inl rfl) e
 | ext φ=>obtain⟨p,⟨o,e⟩,st⟩:=x;exact⟨st _ _ p fun o q=>k _ _ (.inl rfl) q,⟨o,k _ _ (.inl rfl) e⟩,st⟩
theorem HOk.lt (x:HOk P w H h)(e:H a=some o):a<h.objs.size:=(x a o e).lt
theorem HOk.fresh (x:HOk P w H h)(e:h.objs.size<=a):H a=none:=by
 cases q:H a with
 | none=>rfl
 | some u=>exact absurd (zo (x.lt q) e) (zBM _)
theorem HOk.kept (x:HOk P w H h)(k:∀b u,h.get? b=some u->h'.get? b=some u):HOk P w H h':=fun a o e=>
 (x a o e).stay (fun b u _ q=>k b u q) (fun _ q=>q) fun _ _ q=>q
theorem HOk.laid (x:HOk P w H h)(k:∀b u,h.get? b=some u->h'.get? b=some u)(hp:h.objs.size<=a)(new:zBc P w (upd H a o) h' a o):HOk P w (upd H a o) h':=fun b u e=>by
 have hn:=x.fresh hp
 by_cases hb:b=a
 . subst hb;rw[zI] at e;cases e;exact new
 . rw[zY hb] at e
   exact (x b u e).stay (fun c v _ q=>k c v q) (fun c q=>by rw[zY (zg q hn)];exact q) fun c xs q=>by rw[zY (zg q hn)];exact q
end
noncomputable def Rd (H:Hp)(a:Addr)(u:HO):Prop:=H a=some u\/∃o,H a=some (.frz o u)
theorem Rd.ok {P:Program}{w:World}{H:Hp}{h:Heap}{a:Addr}{u:HO}(r:Rd H a u)(x:HOk P w H h):zBc P w H h a u:=by
 rcases r with r | ⟨o,r⟩
 . exact x a u r
 . obtain⟨_,q⟩:=x a _ r
   exact q
noncomputable def Mut:Option HO->Prop
 | some (.lst _)=>True
 | some (.dK _)=>True
 | some (.dT _)=>True
 | some (.set _ _)=>True
 | some (.ins _ _ _)=>True
 | some (.ext _)=>True
 | _=>False
section
variable {P:Program}{w:World}{H:Hp}{h h':Heap}{x e:Addr}{o':HO}
theorem HOk.write (ok:HOk P w H h)(mu:Mut (H x))(he:e=x\/H e=some (.own x))(k:∀b u,b≠e->h.get? b=some u->h'.get? b=some u)(heo:∃u,h'.get? e=some u)
 (new:zBc P w (upd H x o') h' x o'):HOk P w (upd H x o') h':=fun b u q=>by
 have nown:∀c y,H c=some (.own y)->c≠x:=fun c y r z=>by subst z;rw[r] at mu;exact mu
 have ntup:∀c xs,H c=some (.tup xs)->c≠x:=fun c xs r z=>by subst z;rw[r] at mu;exact mu
 by_cases hb:b=x
 . subst hb;rw[zI] at q;cases q;exact new
 . rw[zY hb] at q
   by_cases hbe:b=e
   . have q':H b=some (.own x):=by
      rcases he with z | z
      . exact absurd (hbe.trans z) hb
      . rw[hbe];exact z
     rw[q] at q';cases q'
     obtain⟨v,hv⟩:=heo
     exact⟨v,by rw[hbe];exact hv⟩
   . refine (ok b u q).stay (fun c v hc r=>k c v ?_ r) (fun c r=>by rw[zY (nown c b r)];exact r) fun c xs r=>by rw[zY (ntup c xs r)];exact r
     rcases hc with rfl | hc
     . exact hbe
     . rintro rfl
       rcases he with z | z
       . exact nown c b hc z
       . rw[hc] at z;cases z;exact hb rfl
end
structure Un (fs ex:List Addr)(H H':Hp)(h h':Heap):Prop where
 keep:∀b o,h.get? b=some o->H b=none->b∉fs->b∉ex->h'.get? b=some o
 slot:∀b o,h.get? b=some o->H b=none->b∈fs->b∉ex->∃sl,h'.get? b=some { o with slots:=sl }
 free:∀b o,h.get? b=some o->H b=none->b∉ex->H' b=none
 there:∀b o,h.get? b=some o->b∉ex->∃o',h'.get? b=some o'
 tups:∀b xs,H b=some (.tup xs)->H' b=some (.tup xs)
 frzs:∀b o u,H b=some (.frz o u)->H' b=some (.frz o u)
 tbls:∀b ps,H b=some (.tbl ps)->∃more,H' b=some (.tbl (ps++more))
section
variable {fs fs' ex ex':List Addr}{H H1 H2:Hp}{h h1 h2 h':Heap}{a x e:Addr}{o:HO}
theorem Un.any (u:Un fs ex H H1 h h1){b:Addr}{ob:Obj}(q:h.get? b=some ob)(n:H b=none)(hx:b∉ex):∃sl,h1.get? b=some { ob with slots:=sl }:=by
 by_cases hb:b∈fs
 . exact u.slot b ob q n hb hx
 . exact⟨ob.slots,u.keep b ob q n hb hx⟩
theorem Un.trans (a:Un fs ex H H1 h h1)(b:Un fs ex H1 H2 h1 h2):Un fs ex H H2 h h2 where
 keep:=fun c ob q n hc hx=>b.keep c ob (a.keep c ob q n hc hx) (a.free c ob q n hx) hc hx
 slot:=fun c ob q n hc hx=>by
  obtain⟨sl,e1⟩:=a.slot c ob q n hc hx
  obtain⟨sl',e2⟩:=b.slot c _ e1 (a.free c ob q n hx) hc hx
  exact⟨sl',e2⟩
 free:=fun c ob q n hx=>by
  obtain⟨o',e1⟩:=a.there c ob q hx
  exact b.free c o' e1 (a.free c ob q n hx) hx
 there:=fun c ob q hx=>by
  obtain⟨o',e1⟩:=a.there c ob q hx
  exact b.there c o' e1 hx
 tups:=fun c xs q=>b.tups c xs (a.tups c xs q)
 frzs:=fun c ob xs q=>b.frzs c ob xs (a.frzs c ob xs q)
 tbls:=fun c ps q=>by
  obtain⟨m1,e1⟩:=a.tbls c ps q
  obtain⟨m2,e2⟩:=b.tbls c _ e1
  exact⟨m1++m2,by rw[e2,Array.append_assoc]⟩
theorem Un.kept (k:∀b u,h.get? b=some u->h'.get? b=some u):Un fs ex H H h h':=
 ⟨fun b ob q _ _ _=>k b ob q,fun b ob q _ _ _=>⟨ob.slots,k b ob q⟩,fun _ _ _ n _=>n,fun b ob q _=>⟨ob,k b ob q⟩,fun _ _ q=>q,fun _ _ _ q=>q,fun _ ps q=>⟨#[],by rw[q];simp⟩⟩
theorem Un.refl:Un fs ex H H h h:=Un.kept fun _ _ q=>q
theorem Un.laid (k:∀b u,h.get? b=some u->h'.get? b=some u)(hp:h.objs.size<=a)(hn:H a=none):Un fs ex H (upd H a o) h h' where
 keep:=fun b u q _ _ _=>k b u q
 slot:=fun b u q _ _ _=>⟨u.slots,k b u q⟩
 free:=fun b u q n _=>by rw[zY (zf (zo (zU q) hp))];exact n
 there:=fun b u q _=>⟨u,k b u q⟩
 tups:=fun b xs q=>by rw[zY (zg q hn)];exact q
 frzs:=fun b u xs q=>by rw[zY (zg q hn)];exact q
 tbls:=fun b ps q=>⟨#[],by rw[zY (zg q hn),q];simp⟩
theorem Un.write (mu:Mut (H x))(he:e=x\/H e=some (.own x))(k:∀b u,b≠e->h.get? b=some u->h'.get? b=some u)(heo:∃u,h'.get? e=some u):Un fs ex H (upd H x o) h h':=by
 have hx:∀b,H b=none->b≠x:=fun b n z=>by subst z;rw[n] at mu;exact mu
 have hb:∀b,H b=none->b≠e:=fun b n z=>by
  subst z
  rcases he with r | r
  . exact hx b n r
  . rw[n] at r;cases r
 have hm:∀b u,H b=some u->¬ Mut (some u)->b≠x:=fun b u q nm z=>by subst z;rw[q] at mu;exact nm mu
 refine⟨fun b u q n _ _=>k b u (hb b n) q,fun b u q n _ _=>⟨u.slots,k b u (hb b n) q⟩,fun b u q n _=>by rw[zY (hx b n)];exact n,fun b u q _=>?_,
  fun b xs q=>by rw[zY (hm b _ q fun z=>z)];exact q,fun b u xs q=>by rw[zY (hm b _ q fun z=>z)];exact q,fun b ps q=>⟨#[],by rw[zY (hm b _ q fun z=>z),q];simp⟩⟩
 by_cases hbe:b=e
 . subst hbe;exact heo
 . exact⟨u,k b u hbe q⟩
end
noncomputable def trk (h:Heap)(H:Hp):List Addr:=(List.range h.objs.size).filter fun a=>(H a).isSome
noncomputable def zJf (h:Heap)(H:Hp):Heap:=PySem.W.hideAll h (trk h H)
theorem zI6 (h:Heap)(H:Hp):(zJf h H).objs.size=h.objs.size:=PySem.W.hideAll_size _ _
theorem zKH {h:Heap}{H:Hp}{b:Addr}{o:Obj}(e:h.get? b=some o)(n:H b=none):(zJf h H).get? b=some o:=
 PySem.W.hideAll_get _ e fun hm=>by
  have q:(H b).isSome=true:=(zAm.mp hm).2
  rw[n] at q;simp at q
theorem zLc {h:Heap}{H:Hp}{b:Addr}{o:Obj}(e:(zJf h H).get? b=some o):h.get? b=some o/\H b=none:=by
 have e':h.get? b=some o:=PySem.W.of_hideAll (trk h H) e
 refine⟨e',?_⟩
 cases q:H b with
 | none=>rfl
 | some x=>
  have hm:b∈trk h H:=zAm.mpr ⟨zBz.mpr (zU e'),by simp[q]⟩
  have z:(zJf h H).get? b=none:=PySem.W.hideAll_none (trk h H) hm
  rw[z] at e;cases e
end L2
namespace L2
open PySem PySem.Spec PyProof.Rows
structure Mod (K:PySem.W.Frag)(mg:Str->Option Value)(base:Heap):Prop where
 kin:K.In base
 glob:base.Ns mainGlobals mg
 blt:∃mb,base.Ns builtinsNs mb/\∀x:Str,x ≠ "__name__" -> mb x=bootBuiltins x
 nolimit:base.NoLimit
structure Cx where
 prog:Program
 w:World
 K:PySem.W.Frag
 mg:Str->Option Value
 base:Heap
 A:Around
 N:List Str
 s₀:Shared
 H₀:Hp
 env:Env
 outer:List Env
 stack:List Env
 ex:List Addr
 fn:Str->Bool
 calm:Bool
 pn:List (Addr×Obj)
 xe:Value->Shared->Prop
noncomputable def frs (l:List Env):List Addr:=l.filterMap (·.frame)
noncomputable abbrev Cx.fs (X:Cx):List Addr:=frs X.outer
noncomputable def Vis (sc:Scope)(x:Str):Prop:=sc.names.lookup x=some .local\/sc.names.lookup x=some .cell\/sc.names.lookup x=some .free
noncomputable def Loc (sc:Scope)(x:Str):Prop:=sc.names.lookup x=some .local\/sc.names.lookup x=some .cell
noncomputable def Look (env:Env)(h:Heap)(m:Str->Option Value)(x:Str)(u:Value):Prop:=
 (env.kindOf x=some .local/\m x=some u)\/((env.kindOf x=some .cell\/env.kindOf x=some .free)/\∃c,env.cells.lookup x=some c/\h.IsCell c (some u))
structure Cx.Ok (X:Cx):Prop where
 mod:Mod X.K X.mg X.base
 kind:X.env.scope.kind = .function
 glob:X.env.globals=mainGlobals
 blt:X.env.builtins=builtinsNs
 above:X.s₀.heap.objs.size<=X.env.locals
 inj:∀x y c,X.env.cells.lookup x=some c->X.env.cells.lookup y=some c->x=y
 has:∀x,(X.env.kindOf x=some .cell\/X.env.kindOf x=some .free)->∃c,X.env.cells.lookup x=some c
 cab:∀x c,X.fn x=true->X.env.cells.lookup x=some c->X.s₀.heap.objs.size<=c
 hd:X.calm=true->X.A.handled=none
 frames:X.A.frames=some X.stack
 stk:X.stack=X.outer\/(X.stack=X.env::X.outer/\X.env.frame=some X.env.locals)
 exf:∀b∈X.ex,b≠X.env.locals/\∀x c,X.env.cells.lookup x=some c->c≠b
 bs:∀b o,X.base.get? b=some o->X.s₀.heap.get? b=some o/\X.H₀ b=none
 bsz:X.base.objs.size<=X.s₀.heap.objs.size
 noex:∀b o,X.base.get? b=some o->b∉X.ex
 exfs:∀b∈X.ex,b∉X.fs
 funs:X.s₀.heap.FunFrames X.base X.outer
 frf:∀b∈X.fs,X.H₀ b=none
structure Inv (X:Cx)(pins:List (Addr×Obj))(σ:List (Option V))(H:Hp)(s:Shared):Prop where
 ok:X.Ok
 os:s.os=X.s₀.os
 bare:AllBare s.gens
 base:Un X.fs X.ex X.H₀ H X.s₀.heap s.heap
 loc:∃m,s.heap.Ns X.env.locals m/\∀(i:Nat)(x:Str)(v:V),X.N[i]? = some x->σ[i]? = some (some v)->Vis X.env.scope x->∃u,zBe v u/\Look X.env s.heap m x u
 cell:∀x c,X.env.cells.lookup x=some c->∃v,s.heap.IsCell c v
 free:H X.env.locals=none
 freeC:∀x c,X.env.cells.lookup x=some c->H c=none
 pin:∀p∈X.pn++pins,s.heap.get? p.1=some p.2/\H p.1=none/\p.1≠X.env.locals/\p.1∉X.fs/\∀v,p.2.data ≠ .cell v
 hok:HOk X.prog X.w H s.heap
 len:σ.length=X.N.length
section
variable {X:Cx}{pins:List (Addr×Obj)}{σ:List (Option V)}{H H':Hp}{s:Shared}{h':Heap}
theorem Cx.Ok.nofr (ok:X.Ok){b:Addr}{o:Obj}(e:X.base.get? b=some o):b∉X.fs:=fun hb=>by
 have:=(ok.funs.mem hb).1
 rw[e] at this;cases this
theorem Inv.bs (I:Inv X pins σ H s):∀b o,X.base.get? b=some o->s.heap.get? b=some o/\H b=none:=fun b o e=>
 ⟨I.base.keep b o (I.ok.bs b o e).1 (I.ok.bs b o e).2 (I.ok.nofr e) (I.ok.noex b o e),I.base.free b o (I.ok.bs b o e).1 (I.ok.bs b o e).2 (I.ok.noex b o e)⟩
theorem Inv.bk (I:Inv X pins σ H s):∀b o,X.base.get? b=some o->s.heap.get? b=some o:=fun b o e=>(I.bs b o e).1
theorem Inv.mod (I:Inv X pins σ H s):Mod X.K X.mg X.base:=I.ok.mod
theorem Inv.kIn (I:Inv X pins σ H s):X.K.In s.heap:=I.ok.mod.kin.keeps I.bk
theorem Inv.nolimit (I:Inv X pins σ H s):s.heap.NoLimit:=I.ok.mod.nolimit.keeps I.bk
theorem Inv.lt (I:Inv X pins σ H s):X.env.locals<s.heap.objs.size:=let ⟨_,hn,_⟩:=I.loc;hn.lt
theorem Inv.sz (I:Inv X pins σ H s):X.s₀.heap.objs.size<=s.heap.objs.size:=zAl I.ok.above (zBQ I.lt)
theorem Inv.nofs (I:Inv X pins σ H s){a:Addr}(h:s.heap.objs.size<=a):a∉X.fs:=fun hb=>by
 obtain⟨_,o,ho,_⟩:=I.ok.funs.mem hb
 exact absurd (zo (zU ho) (zAl I.sz h)) (zBM _)
theorem Inv.cne (I:Inv X pins σ H s):∀x c,X.env.cells.lookup x=some c->c≠X.env.locals:=fun x c e z=>by
 obtain⟨v,o,ho,hd⟩:=I.cell x c e
 obtain⟨m,⟨o',es,ep,ho',hd',_⟩,_⟩:=I.loc
 rw[z,ho'] at ho;cases ho;rw[hd'] at hd;cases hd
theorem Inv.funs (I:Inv X pins σ H s):s.heap.FunFrames X.base X.outer:=by
 have all:∀(l:List Env),(∀b∈frs l,b∈X.fs)->X.s₀.heap.FunFrames X.base l->s.heap.FunFrames X.base l:=by
  intro l
  induction l with
  | nil=>intro _ _;trivial
  | cons env r ih=>
   intro hs hl
   obtain⟨hk,⟨L,o,hf,hn,ho,hd⟩,hr⟩:=hl
   have hL:L∈X.fs:=hs L (by unfold frs;rw[zBr,hf];exact zN)
   obtain⟨sl,e⟩:=I.base.slot L o ho (I.ok.frf L hL) hL fun z=>I.ok.exfs L z hL
   exact⟨hk,⟨L,_,hf,hn,e,hd⟩,ih (fun b hb=>hs b (by unfold frs;rw[zBr,hf];exact zO _ hb)) hr⟩
 exact all X.outer (fun _ hb=>hb) I.ok.funs
theorem Inv.stack (I:Inv X pins σ H s):s.heap.FunFrames X.base X.stack:=by
 rcases I.ok.stk with e | ⟨e,hf⟩
 . rw[e];exact I.funs
 . rw[e]
   obtain⟨m,hn,_⟩:=I.loc
   refine .cons (by rw[I.ok.kind];decide) hf hn ?_ I.funs
   exact Heap.get?_none_of_le (zAl I.ok.bsz I.ok.above)
theorem Inv.stkSub (I:Inv X pins σ H s):∀b∈frs X.stack,b∈X.env.locals::X.fs:=fun b hb=>by
 rcases I.ok.stk with e | ⟨e,hf⟩
 . rw[e] at hb;exact zO _ hb
 . rw[e] at hb
   unfold frs at hb
   rw[zBr,hf] at hb
   exact hb
theorem Inv.stkFree (I:Inv X pins σ H s):∀b∈frs X.stack,H b=none:=fun b hb=>by
 rcases zW.mp (I.stkSub b hb) with e | hb
 . rw[e];exact I.free
 . obtain⟨_,o,ho,_⟩:=I.ok.funs.mem hb
   exact I.base.free b o ho (I.ok.frf b hb) fun z=>I.ok.exfs b z hb
theorem Inv.step {g':Array GenState}{t':Nat}{d':Drawn}{ch:List Addr}(I:Inv X pins σ H s)
 (hch:∀b∈ch,(b∈X.ex\/X.s₀.heap.objs.size<=b)/\b≠X.env.locals/\(∀x c,X.env.cells.lookup x=some c->c≠b)/\∀p∈X.pn++pins,p.1≠b)
 (keep:∀b o,b≠X.env.locals->b∉X.fs->b∉ch->s.heap.get? b=some o->H b=none->h'.get? b=some o)
 (slot:∀b o,b≠X.env.locals->b∈X.fs->b∉ch->s.heap.get? b=some o->H b=none->∃sl,h'.get? b=some { o with slots:=sl })(free:∀b o,b∉ch->s.heap.get? b=some o->H b=none->H' b=none)
 (there:∀b o,b∉ch->s.heap.get? b=some o->∃o',h'.get? b=some o')
 (tups:∀b xs,H b=some (.tup xs)->H' b=some (.tup xs))(frzs:∀b o u,H b=some (.frz o u)->H' b=some (.frz o u))(tbls:∀b ps,H b=some (.tbl ps)->∃more,H' b=some (.tbl (ps++more)))
 (ns:∀m,s.heap.Ns X.env.locals m->h'.Ns X.env.locals m)(hok:HOk X.prog X.w H' h')(hg:AllBare g') :
 Inv X pins σ H' { s with heap:=h',gens:=g',drawn:=d',toks:=t' }:=by
 have neL:∀b o,X.s₀.heap.get? b=some o->b≠X.env.locals:=fun b o e=>zf (zo (zU e) I.ok.above)
 have neC:∀b o,X.s₀.heap.get? b=some o->b∉X.ex->b∉ch:=fun b o e hx hb=>by
  rcases (hch b hb).1 with z | z
  . exact hx z
  . exact absurd (zo (zU e) z) (zBM _)
 have cellK:∀x c,X.env.cells.lookup x=some c->∀v,s.heap.IsCell c v->h'.IsCell c v:=fun x c e v ⟨o,ho,hd⟩=>by
  have nch:c∉ch:=fun z=>(hch c z).2.2.1 x c e rfl
  by_cases hc:c∈X.fs
  . obtain⟨sl,q⟩:=slot c o (I.cne x c e) hc nch ho (I.freeC x c e)
    exact⟨_,q,hd⟩
  . exact⟨o,keep c o (I.cne x c e) hc nch ho (I.freeC x c e),hd⟩
 refine⟨I.ok,I.os,hg,⟨fun b o e n hb hx=>?_,fun b o e n hb hx=>?_,fun b o e n hx=>?_,fun b o e hx=>?_,fun b xs e=>tups b xs (I.base.tups b xs e),fun b o xs e=>frzs b o xs (I.base.frzs b o xs e),fun b ps e=>?_⟩,?_,fun x c e=>?_,?_,fun x c e=>?_,fun p hp=>?_,hok,I.len⟩
 . exact keep b o (neL b o e) hb (neC b o e hx) (I.base.keep b o e n hb hx) (I.base.free b o e n hx)
 . obtain⟨sl,e1⟩:=I.base.slot b o e n hb hx
   obtain⟨sl',e2⟩:=slot b _ (neL b o e) hb (neC b o e hx) e1 (I.base.free b o e n hx)
   exact⟨sl',e2⟩
 . obtain⟨o',e1⟩:=I.base.there b o e hx
   exact free b o' (neC b o e hx) e1 (I.base.free b o e n hx)
 . obtain⟨o',e1⟩:=I.base.there b o e hx
   exact there b o' (neC b o e hx) e1
 . obtain⟨m1,e1⟩:=I.base.tbls b ps e
   obtain⟨m2,e2⟩:=tbls b _ e1
   exact⟨m1++m2,by rw[e2,Array.append_assoc]⟩
 . obtain⟨m,hn,hl⟩:=I.loc
   refine⟨m,ns m hn,fun i x v e1 e2 e3=>?_⟩
   obtain⟨u,r,l⟩:=hl i x v e1 e2 e3
   refine⟨u,r,?_⟩
   rcases l with l | ⟨k,c,e,z⟩
   . exact .inl l
   . exact .inr ⟨k,c,e,cellK x c e _ z⟩
 . obtain⟨v,z⟩:=I.cell x c e
   exact⟨v,cellK x c e v z⟩
 . obtain⟨m,⟨o,_,_,ho,_⟩,_⟩:=I.loc
   exact free _ o (fun z=>(hch _ z).2.1 rfl) ho I.free
 . obtain⟨v,o,ho,hd⟩:=I.cell x c e
   exact free c o (fun z=>(hch c z).2.2.1 x c e rfl) ho (I.freeC x c e)
 . obtain⟨e,n,ne,nf,d⟩:=I.pin p hp
   have nch:p.1∉ch:=fun z=>(hch p.1 z).2.2.2 p hp rfl
   exact⟨keep p.1 p.2 ne nf nch e n,free p.1 p.2 nch e n,ne,nf,d⟩
theorem Inv.un {t':Nat}(I:Inv X pins σ H s)(u:Un X.fs [] H H' s.heap h')(hok:HOk X.prog X.w H' h'):Inv X pins σ H' { s with heap:=h',toks:=t' }:=by
 obtain⟨m,⟨o,es,ep,ho,r⟩,_⟩:=id I.loc
 obtain⟨sl,hL⟩:=u.any ho I.free (by simp)
 exact I.step (g':=s.gens) (d':=s.drawn) (ch:=[]) (fun _ z=>nomatch z) (fun b o _ hb _ e n=>u.keep b o e n hb (by simp)) (fun b o _ hb _ e n=>u.slot b o e n hb (by simp)) (fun b o _ e n=>u.free b o e n (by simp)) (fun b o _ e=>u.there b o e (by simp)) u.tups u.frzs u.tbls (fun m' hm=>by
  obtain⟨o',es',ep',ho',r'⟩:=hm
  rw[ho] at ho';cases ho'
  exact⟨_,es',ep',hL,r'⟩) hok I.bare
theorem Inv.call {g':Array GenState}{t':Nat}{d':Drawn}{ch:List Addr}(I:Inv X pins σ H s)(u:Un (frs X.stack) ch H H' s.heap h')(hok:HOk X.prog X.w H' h')(hg:AllBare g')
 (hch:∀b∈ch,(b∈X.ex\/X.s₀.heap.objs.size<=b)/\b≠X.env.locals/\(∀x c,X.env.cells.lookup x=some c->c≠b)/\∀p∈X.pn++pins,p.1≠b) :
 Inv X pins σ H' { s with heap:=h',gens:=g',drawn:=d',toks:=t' }:=by
 obtain⟨m,⟨o,es,ep,ho,r⟩,_⟩:=id I.loc
 obtain⟨sl,hL⟩:=u.any ho I.free fun z=>(hch _ z).2.1 rfl
 exact I.step (ch:=ch) hch (fun b o hL hb hc e n=>u.keep b o e n (fun z=>(zW.mp (I.stkSub b z)).elim hL hb) hc) (fun b o _ _ hc e n=>u.any e n hc) (fun b o hc e n=>u.free b o e n hc) (fun b o hc e=>u.there b o e hc) u.tups u.frzs u.tbls (fun m' hm=>by
  obtain⟨o',es',ep',ho',r'⟩:=hm
  rw[ho] at ho';cases ho'
  exact⟨_,es',ep',hL,r'⟩) hok hg
theorem Inv.turned {t':Nat}{it:Addr}(I:Inv X pins σ H s)(k:∀b o,b≠it->s.heap.get? b=some o->h'.get? b=some o)(hn:H it=none)(hL:it≠X.env.locals)
 (h1:it∈X.ex\/X.s₀.heap.objs.size<=it)(h2:∀x c,X.env.cells.lookup x=some c->c≠it)(h3:∀p∈X.pn++pins,p.1≠it):Inv X pins σ H { s with heap:=h',toks:=t' }:=by
 have nit:∀b u,H b=some u->b≠it:=fun b u e z=>by rw[z,hn] at e;cases e
 refine I.step (g':=s.gens) (d':=s.drawn) (ch:=[it]) (fun b hb=>?_) (fun b o _ _ hc e _=>k b o (fun z=>hc (by simp[z])) e) (fun b o _ _ hc e _=>⟨o.slots,k b o (fun z=>hc (by simp[z])) e⟩) (fun _ _ _ _ n=>n)
  (fun b o hc e=>⟨o,k b o (fun z=>hc (by simp[z])) e⟩) (fun _ _ e=>e) (fun _ _ _ e=>e) (fun b ps e=>⟨#[],by rw[e];simp⟩) (fun m hm=>?_) (fun b u e=>?_) I.bare
 . have e:b=it:=by simpa using hb
   subst e
   exact⟨h1,hL,h2,h3⟩
 . obtain⟨o,es,ep,ho,r⟩:=hm
   exact⟨o,es,ep,k _ o (Ne.symm hL) ho,r⟩
 . refine (I.hok b u e).stay (fun c v hc q=>k c v ?_ q) (fun _ q=>q) fun _ _ q=>q
   rcases hc with z | z
   . rw[z];exact nit b u e
   . exact nit c _ z
theorem Inv.tok (I:Inv X pins σ H s)(t:Nat):Inv X pins σ H { s with toks:=t }:=I.un (h':=s.heap) (t':=t) Un.refl I.hok
theorem Inv.kept {t':Nat}(I:Inv X pins σ H s)(k:∀b u,s.heap.get? b=some u->h'.get? b=some u):Inv X pins σ H { s with heap:=h',toks:=t' }:=I.un (Un.kept k) (I.hok.kept k)
theorem Inv.laid {a:Addr}{o:HO}{t':Nat}(I:Inv X pins σ H s)(k:∀b u,s.heap.get? b=some u->h'.get? b=some u)(hp:s.heap.objs.size<=a)(new:zBc X.prog X.w (upd H a o) h' a o) :
 Inv X pins σ (upd H a o) { s with heap:=h',toks:=t' }:=I.un (Un.laid k hp (I.hok.fresh hp)) (I.hok.laid k hp new)
theorem Inv.write {x e:Addr}{o:HO}{t':Nat}(I:Inv X pins σ H s)(mu:Mut (H x))(he:e=x\/H e=some (.own x))(k:∀b u,b≠e->s.heap.get? b=some u->h'.get? b=some u)(heo:∃u,h'.get? e=some u)
 (new:zBc X.prog X.w (upd H x o) h' x o):Inv X pins σ (upd H x o) { s with heap:=h',toks:=t' }:=I.un (Un.write mu he k heo) (I.hok.write mu he k heo new)
theorem Inv.weak {σ':List (Option V)}(I:Inv X pins σ H s)(hl:σ'.length=σ.length)(w:∀(i:Nat) v,σ'[i]? = some (some v)->σ[i]? = some (some v)):Inv X pins σ' H s:=
 ⟨I.ok,I.os,I.bare,I.base,let ⟨m,hn,hl'⟩:=I.loc;⟨m,hn,fun i x v e1 e2 e3=>hl' i x v e1 (w i v e2) e3⟩,I.cell,I.free,I.freeC,I.pin,I.hok,hl.trans I.len⟩
theorem Inv.pins_of {pins':List (Addr×Obj)}(I:Inv X pins σ H s)(h:∀p∈pins',s.heap.get? p.1=some p.2/\H p.1=none/\p.1≠X.env.locals/\p.1∉X.fs/\∀v,p.2.data ≠ .cell v):Inv X pins' σ H s:=
 ⟨I.ok,I.os,I.bare,I.base,I.loc,I.cell,I.free,I.freeC,fun p hp=>(zQ.mp hp).elim (fun z=>I.pin p (zu _ z)) (h p),I.hok,I.len⟩
theorem zFC {N:List Str}(hN:N.Nodup){i j:Nat}{x:Str}(a:N[i]? = some x)(b:N[j]? = some x):i=j:=by
 obtain⟨h1,e1⟩:=zJ.mp a
 obtain⟨h2,e2⟩:=zJ.mp b
 exact (List.getElem_inj hN).mp (e1.trans e2.symm)
theorem zIB {M:Model}{A:Around}{E:Value->Shared->Prop}{i:Nat}{x:Str}{v:V}{u:Value}{Q:Unit->Shared->Prop}(I:Inv X pins σ H s)(hN:X.N.Nodup)(hi:X.N[i]? = some x)(hx:Loc X.env.scope x)(r:zBe v u)
 (h:∀s',Inv X pins (σ.set i (some v)) H s'->(∃a,Heap.SameBut a s.heap s'.heap/\(a=X.env.locals\/X.env.cells.lookup x=some a))->Q () s')(hf:X.fn x=true\/X.env.scope.names.lookup x=some .local:=by first | exact .inl rfl | exact .inr rfl | assumption):wpAny M A (storeName X.env x u) Q E s:=by
 obtain⟨m,hn,hl⟩:=id I.loc
 have hcls:(X.env.scope.kind == .class || (X.env.scope.kind == .module && X.env.locals != X.env.globals))=false:=by rw[I.ok.kind];rfl
 have hiσ:i<σ.length:=by rw[I.len];exact (zJ.mp hi).1
 have cne:=I.cne
 have tracked:∀{a:Addr}{h':Heap},(∃o,s.heap.get? a=some o/\H a=none)->Heap.SameBut a s.heap h'->HOk X.prog X.w H h':=fun {a h'} ha hs b ob e=>by
  obtain⟨_,_,hfree⟩:=ha
  refine (I.hok b ob e).stay (fun c w' hc q=>(hs.2 c ?_).trans q) (fun _ q=>q) fun _ _ q=>q
  rintro rfl
  rcases hc with rfl | hc
  . rw[hfree] at e;cases e
  . rw[hfree] at hc;cases hc
 rcases hx with hk | hk
 . refine wpAny_storeName_local hk hn (fun h' hn' hs=>?_) hcls
   obtain⟨oL,_,_,hoL,_⟩:=id hn
   refine h _ ⟨I.ok,I.os,I.bare,⟨fun b o e n hb hx=>?_,fun b o e n hb hx=>?_,I.base.free,fun b o e hx=>?_,I.base.tups,I.base.frzs,I.base.tbls⟩,⟨_,hn',fun j y v' e1 e2 e3=>?_⟩,fun y c e=>?_,I.free,I.freeC,fun p hp=>?_,tracked ⟨oL,hoL,I.free⟩ hs,by simpa using I.len⟩ ⟨_,hs,.inl rfl⟩
   . exact (hs.2 b (zf (zo (zU e) I.ok.above))).trans (I.base.keep b o e n hb hx)
   . obtain⟨sl,e1⟩:=I.base.slot b o e n hb hx
     exact⟨sl,(hs.2 b (zf (zo (zU e) I.ok.above))).trans e1⟩
   . obtain⟨o',e1⟩:=I.base.there b o e hx
     exact⟨o',(hs.2 b (zf (zo (zU e) I.ok.above))).trans e1⟩
   . by_cases hj:j=i
     . subst hj
       rw[hi] at e1;cases e1
       rw[List.getElem?_set_self hiσ] at e2
       cases e2
       exact⟨u,r,.inl ⟨hk,by simp⟩⟩
     . rw[List.getElem?_set_ne (Ne.symm hj)] at e2
       obtain⟨u',r',q⟩:=hl j y v' e1 e2 e3
       refine⟨u',r',?_⟩
       rcases q with ⟨k,e⟩ | ⟨k,c,e,z⟩
       . refine .inl ⟨k,?_⟩
         have:y≠x:=fun e=>hj (zFC hN e1 (e ▸ hi))
         simp[this,e]
       . exact .inr ⟨k,c,e,z.sameBut hs (cne y c e)⟩
   . obtain⟨w',z⟩:=I.cell y c e
     exact⟨w',z.sameBut hs (cne y c e)⟩
   . obtain⟨e,n,ne,nf,d⟩:=I.pin p hp
     exact⟨(hs.2 p.1 ne).trans e,n,ne,nf,d⟩
 . have hfn:X.fn x=true:=by
    rcases hf with z | z
    . exact z
    . rw[z] at hk;cases hk
   obtain⟨c,hc⟩:=I.ok.has x (.inl hk)
   obtain⟨w',z⟩:=I.cell x c hc
   refine wpAny_storeName_cell I.ok.kind hk hc z (fun h' hc' hs=>?_)
   obtain⟨oc,hoc,hocd⟩:=id z
   refine h { s with heap:=h' } ⟨I.ok,I.os,I.bare,⟨fun b o e n hb hx=>?_,fun b o e n hb hx=>?_,I.base.free,fun b o e hx=>?_,I.base.tups,I.base.frzs,I.base.tbls⟩,⟨m,hn.sameBut hs (Ne.symm (cne x c hc)),fun j y v' e1 e2 e3=>?_⟩,fun y c' e=>?_,I.free,I.freeC,fun p hp=>?_,tracked ⟨oc,hoc,I.freeC x c hc⟩ hs,by simpa using I.len⟩ ⟨c,hs,.inr hc⟩
   . exact (hs.2 b (zf (zo (zU e) (I.ok.cab x c hfn hc)))).trans (I.base.keep b o e n hb hx)
   . obtain⟨sl,e1⟩:=I.base.slot b o e n hb hx
     exact⟨sl,(hs.2 b (zf (zo (zU e) (I.ok.cab x c hfn hc)))).trans e1⟩
   . obtain⟨o',e1⟩:=I.base.there b o e hx
     exact⟨o',(hs.2 b (zf (zo (zU e) (I.ok.cab x c hfn hc)))).trans e1⟩
   . by_cases hj:j=i
     . subst hj
       rw[hi] at e1;cases e1
       rw[List.getElem?_set_self hiσ] at e2
       cases e2
       exact⟨u,r,.inr ⟨.inl hk,c,hc,hc'⟩⟩
     . rw[List.getElem?_set_ne (Ne.symm hj)] at e2
       obtain⟨u',r',q⟩:=hl j y v' e1 e2 e3
       refine⟨u',r',?_⟩
       rcases q with q | ⟨k,c',e,z'⟩
       . exact .inl q
       . refine .inr ⟨k,c',e,z'.sameBut hs ?_⟩
         rintro rfl
         exact hj (zFC hN e1 (I.ok.inj _ _ _ e hc ▸ hi))
   . by_cases hcc:c'=c
     . subst hcc;exact⟨_,hc'⟩
     . obtain⟨w2,z2⟩:=I.cell y c' e
       exact⟨w2,z2.sameBut hs hcc⟩
   . obtain⟨e,n,ne,nf,d⟩:=I.pin p hp
     refine⟨(hs.2 p.1 ?_).trans e,n,ne,nf,d⟩
     intro q
     rw[q,hoc] at e
     have q':oc=p.2:=za e
     exact d w' (by rw[<-q'];exact hocd)
theorem zCY {M:Model}{A:Around}{E:Value->Shared->Prop}{i:Nat}{x:Str}{v:V}{u:Value}{Q:Unit->Shared->Prop}(I:Inv X pins σ H s)(hN:X.N.Nodup)(hi:X.N[i]? = some x)(hx:Loc X.env.scope x)(r:zBe v u)
 (h:∀s',Inv X pins (σ.set i (some v)) H s'->Q () s')(hf:X.fn x=true\/X.env.scope.names.lookup x=some .local:=by first | exact .inl rfl | exact .inr rfl | assumption):wpAny M A (storeName X.env x u) Q E s:=
 zIB I hN hi hx r (fun s' I' _=>h s' I') hf
theorem Inv.call' {s':Shared}{ch:List Addr}(I:Inv X pins σ H s)(ho:s'.os=s.os)(u:Un (frs X.stack) ch H H' s.heap s'.heap)(hok:HOk X.prog X.w H' s'.heap)(hg:AllBare s'.gens)
 (hch:∀b∈ch,(b∈X.ex\/X.s₀.heap.objs.size<=b)/\b≠X.env.locals/\(∀x c,X.env.cells.lookup x=some c->c≠b)/\∀p∈X.pn++pins,p.1≠b):Inv X pins σ H' s':=by
 obtain⟨h',g',d',t',o'⟩:=s'
 have e:o'=s.os:=ho
 subst e
 exact I.call (g':=g') (t':=t') (d':=d') u hok hg hch
end
noncomputable abbrev XK:=Value->Option Addr->Hp->Prop
noncomputable abbrev St:=List (Option V)
noncomputable abbrev VK:=V->Hp->Prop
noncomputable abbrev TE:=St->Hp->VK->Prop
noncomputable abbrev TT:=St->Hp->(Bool->Hp->Prop)->Prop
noncomputable abbrev TA:=St->Hp->(List V->Hp->Prop)->Prop
structure zH7 where
 nx:St->Hp->Prop
 rt:VK
 bk:St->Hp->Prop:=fun _ _=>False
 ct:St->Hp->Prop:=fun _ _=>False
noncomputable abbrev TS:=zH7->St->Hp->Prop
noncomputable def EP (X:Cx)(pins:List (Addr×Obj))(σ:St)(Q:VK)(u:Value)(s':Shared):Prop:=∃v H',Inv X pins σ H' s'/\zBe v u/\Q v H'
noncomputable def TP (X:Cx)(pins:List (Addr×Obj))(σ:St)(Q:Bool->Hp->Prop)(b:Bool)(s':Shared):Prop:=∃H',Inv X pins σ H' s'/\Q b H'
noncomputable def AP (X:Cx)(pins:List (Addr×Obj))(σ:St)(Q:List V->Hp->Prop)(us:List Value)(s':Shared):Prop:=∃vs H',Inv X pins σ H' s'/\zBK vs us/\Q vs H'
noncomputable def SP (X:Cx)(pins:List (Addr×Obj))(D:zH7)(f:Flow)(s':Shared):Prop:=
 match f with
 | .next=>∃ σ' H',Inv X pins σ' H' s'/\D.nx σ' H'
 | .brk=>∃ σ' H',Inv X pins σ' H' s'/\D.bk σ' H'
 | .cont=>∃ σ' H',Inv X pins σ' H' s'/\D.ct σ' H'
 | .ret u=>∃v σ' H',Inv X pins σ' H' s'/\zBe v u/\D.rt v H'
noncomputable def PE (X:Cx)(e:Expr)(t:TE):Prop:=
 ∀(pins:List (Addr×Obj))(s:Shared)(σ:St)(H:Hp)(Q:VK),Inv X pins σ H s->t σ H Q->wpAny (model X.prog X.w) X.A (eval e X.env) (EP X pins σ Q) X.xe s
noncomputable def PT (X:Cx)(e:Expr)(t:TT):Prop:=
 ∀(pins:List (Addr×Obj))(s:Shared)(σ:St)(H:Hp)(Q:Bool->Hp->Prop),Inv X pins σ H s->t σ H Q->wpAny (model X.prog X.w) X.A (isTrue e X.env (eval e X.env)) (TP X pins σ Q) X.xe s
noncomputable def PW (X:Cx)(e:Expr)(t:TT):Prop:=
 ∀(whole:Sem Value)(pins:List (Addr×Obj))(s:Shared)(σ:St)(H:Hp)(Q:Bool->Hp->Prop),Inv X pins σ H s->t σ H Q->wpAny (model X.prog X.w) X.A (isTrue e X.env whole) (TP X pins σ Q) X.xe s
theorem PW.pt {X:Cx}{e:Expr}{t:TT}(h:PW X e t):PT X e t:=h _
noncomputable def PA (X:Cx)(es:List Expr)(t:TA):Prop:=
 ∀(pos:Pos)(pins:List (Addr×Obj))(s:Shared)(σ:St)(H:Hp)(Q:List V->Hp->Prop),Inv X pins σ H s->t σ H Q->wpAny (model X.prog X.w) X.A (spliced (backTo pos (starEach es X.env))) (AP X pins σ Q) X.xe s
noncomputable def PS (X:Cx)(st:Stmt)(t:TS):Prop:=
 ∀(pins:List (Addr×Obj))(s:Shared)(σ:St)(H:Hp)(D:zH7),Inv X pins σ H s->t D σ H->wpAny (model X.prog X.w) X.A (exec st X.env) (SP X pins D) X.xe s
noncomputable def PSs (X:Cx)(st:List Stmt)(t:TS):Prop:=
 ∀(pins:List (Addr×Obj))(s:Shared)(σ:St)(H:Hp)(D:zH7),Inv X pins σ H s->t D σ H->wpAny (model X.prog X.w) X.A (execs st X.env) (SP X pins D) X.xe s
theorem thn {α:Type}{t:Sem α}{Q Q':α->Shared->Prop}{M:Model}{A:Around}{E:Value->Shared->Prop}{s:Shared}(h:wpAny M A t Q E s)(hQ:∀a s,Q a s->Q' a s):wpAny M A t Q' E s:=zAM h hQ fun _ _ x=>x
end L2
namespace L2
open PySem PySem.Spec PyProof.Rows
section
variable {X:Cx}
noncomputable def tVar (i:Nat):TE:=fun σ H Q=>∃v,σ[i]? = some (some v)/\Q v H
noncomputable def tC (v:V):TE:=fun _ H Q=>Q v H
theorem pe_var {i:Nat}{x:Str}{pos:Pos}(hN:X.N[i]? = some x)(hv:Vis X.env.scope x)(hd:(x==("__debug__" : Str))=false:=by decide) (hcd:(x==("__classdict__" : Str))=false:=by decide):PE X (.Name x pos) (tVar i):=by
 intro pins s σ H Q I h
 obtain⟨v,e,h⟩:=h
 obtain⟨m,hn,hl⟩:=I.loc
 obtain⟨u,r,l⟩:=hl i x v hN e hv
 have fin:EP X pins σ Q u s:=⟨v,H,I,r,h⟩
 rcases l with ⟨hk,hm⟩ | ⟨hk,c,hc,hcell⟩
 . exact wpAny_Name (wpAny_loadName_local I.ok.kind hk hn hm fin) hd
 . rcases hk with hk | hk
   . exact wpAny_Name (wpAny_loadName_cell I.ok.kind hk hc hcell fin) hd
   . exact wpAny_Name (wpAny_loadName_free I.ok.kind hk hc hcell fin hcd) hd
theorem zm {i j pos}:PE X (.Constant (.int i) j pos) (tC (.int i)):=fun _ _ _ H _ I h=>wpAny_Constant_int ⟨.int i,H,I.tok _,⟨_,rfl⟩,h⟩
theorem zIg {b j pos}:PE X (.Constant (.bool b) j pos) (tC (.bl b)):=fun _ _ _ H _ I h=>Constant_bool ⟨.bl b,H,I,rfl,h⟩
theorem zCv {j pos}:PE X (.Constant .none j pos) (tC .non):=fun _ _ _ H _ I h=>Constant_none ⟨.non,H,I,rfl,h⟩
theorem zDd {x j pos}:PE X (.Constant (.str x) j pos) (tC (.str x)):=fun _ _ _ H _ I h=>Calls.Constant_str ⟨.str x,H,I.tok _,⟨_,rfl⟩,h⟩
noncomputable def Gl (X:Cx)(x:Str):Prop:=X.env.kindOf x=some .globalImplicit
theorem zDX {E:Value->Shared->Prop}{pins:List (Addr×Obj)}{s:Shared}{σ:St}{H:Hp}{x:Str}{u:Value}{pos:Pos}{Q:Value->Shared->Prop}(I:Inv X pins σ H s)(hg:Gl X x)(hm:X.mg x=some u)(h:Q u s)
 (hd:(x==("__debug__" : Str))=false:=by decide):wpAny (model X.prog X.w) X.A (eval (.Name x pos) X.env) Q E s:=
 Calls.Name_function_global I.ok.kind hg (Calls.loadGlobal_global (by rw[I.ok.glob];exact I.mod.glob.keeps I.bk) hm h) hd
theorem zCc {E:Value->Shared->Prop}{pins:List (Addr×Obj)}{s:Shared}{σ:St}{H:Hp}{x:Str}{u:Value}{pos:Pos}{Q:Value->Shared->Prop}(I:Inv X pins σ H s)(hg:Gl X x)(hm:X.mg x=none)(hv:bootBuiltins x=some u)(h:Q u s)
 (hn:x ≠ "__name__" := by decide) (hd:(x==("__debug__" : Str))=false:=by decide):wpAny (model X.prog X.w) X.A (eval (.Name x pos) X.env) Q E s:=by
 obtain⟨mb,h1,h2⟩:=I.mod.blt
 exact Calls.Name_function_global I.ok.kind hg (Calls.loadGlobal_builtin (by rw[I.ok.glob];exact I.mod.glob.keeps I.bk) hm (by rw[I.ok.blt];exact h1.keeps I.bk) ((h2 x hn).trans hv) h) hd
theorem zB4 {x:Str}{v:V}{u:Value}{pos:Pos}(hg:Gl X x)(hm:X.mg x=some u)(r:zBe v u)(hd:(x==("__debug__" : Str))=false:=by decide):PE X (.Name x pos) (tC v):=
 fun _ _ _ H _ I h=>zDX I hg hm ⟨v,H,I,r,h⟩ hd
variable {a b:Expr}{ta tb:TE}{pos:Pos}
noncomputable def PC (X:Cx)(op:CmpOp)(a b:Expr)(t:TE):Prop:=
 ∀(pins:List (Addr×Obj))(s:Shared)(σ:St)(H:Hp)(Q:VK),Inv X pins σ H s->t σ H Q ->
  wpAny (model X.prog X.w) X.A (eval a X.env) (fun v s₁=>wpAny (model X.prog X.w) X.A (eval b X.env) (fun u s₂=>wpAny (model X.prog X.w) X.A (compareOp op v u) (EP X pins σ Q) X.xe s₂) X.xe s₁) X.xe s
noncomputable def tB (t:TE):TT:=fun σ H Q=>t σ H fun x H1=>∃c,x = .bl c/\Q c H1
theorem pt_cmp {op:CmpOp}{t:TE}(h:PC X op a b t)(h1:behindInMarks op b=false:=by first | exact nobehind _ (by decide) (by decide) | rfl):PT X (.Compare a [op] [b] pos) (tB t):=by
 intro pins s σ H Q I hw
 refine wpAny_isTrue_Compare1 (thn (h pins s σ H _ I hw) fun v s1 h1=>thn h1 fun u s2 h2=>thn h2 fun c s3 ⟨x,H1,I1,r1,q1⟩=>?_) h1
 obtain⟨d,rfl,q⟩:=q1
 cases r1
 exact zAq ⟨H1,I1,q⟩
theorem zCb {e:Expr}{t:TE}(h:PE X e t)(he:∀whole,isTrue e X.env whole=(do let v <-whole;standAt e.pos;holding [v] (truthy v)):=by intro _;rfl):PT X e (tB t):=by
 intro pins s σ H Q I hw
 refine isTrue_plain (thn (h pins s σ H _ I hw) fun v s1 ⟨x,H1,I1,r1,q1⟩=>?_) (he _)
 obtain⟨d,rfl,q⟩:=q1
 cases r1
 exact zAq ⟨H1,I1,q⟩
variable {tA tB':TT}{rest:List Expr}
noncomputable def tAnd (t u:TT):TT:=fun σ H Q=>t σ H fun c H1=>if c=true then u σ H1 Q else Q false H1
noncomputable def tOr (t u:TT):TT:=fun σ H Q=>t σ H fun c H1=>if c=true then Q true H1 else u σ H1 Q
noncomputable def tNot (t:TT):TT:=fun σ H Q=>t σ H fun c H1=>Q (!c) H1
theorem zDS (ha:PT X a tA):PW X (.BoolOp .And [a] pos) tA:=by
 intro wh pins s σ H Q I h
 refine isTrue_and (thn (ha pins s σ H Q I h) fun c s1 e=>?_)
 cases c with
 | true=>exact isTrue_and_nil e
 | false=>exact e
theorem zDw (ha:PT X a tA):PW X (.BoolOp .Or [a] pos) tA:=by
 intro wh pins s σ H Q I h
 refine isTrue_or (thn (ha pins s σ H Q I h) fun c s1 e=>?_)
 cases c with
 | false=>exact isTrue_or_nil e
 | true=>exact e
theorem zDx (ha:PT X a tA)(hb:PW X (.BoolOp .And (b::rest) pos) tB'):PW X (.BoolOp .And (a::b::rest) pos) (tAnd tA tB'):=by
 intro wh pins s σ H Q I h
 refine isTrue_and (thn (ha pins s σ H _ I h) fun c s1 ⟨H1,I1,q1⟩=>?_)
 cases c with
 | true=>exact hb wh pins s1 σ H1 Q I1 q1
 | false=>exact⟨H1,I1,q1⟩
theorem zE2 (ha:PT X a tA)(hb:PW X (.BoolOp .Or (b::rest) pos) tB'):PW X (.BoolOp .Or (a::b::rest) pos) (tOr tA tB'):=by
 intro wh pins s σ H Q I h
 refine isTrue_or (thn (ha pins s σ H _ I h) fun c s1 ⟨H1,I1,q1⟩=>?_)
 cases c with
 | true=>exact⟨H1,I1,q1⟩
 | false=>exact hb wh pins s1 σ H1 Q I1 q1
theorem zCt (ha:PT X a tA):PT X (.UnaryOp .Not a pos) (tNot tA):=by
 intro pins s σ H Q I h
 exact isTrue_not (ha pins s σ H (fun c H1=>Q (!c) H1) I h)
noncomputable def tAndV (ta tb:TE):TE:=fun σ H Q=>ta σ H fun x H1=>∃c,x = .bl c/\if c=true then tb σ H1 Q else Q (.bl false) H1
noncomputable def tOrV (ta tb:TE):TE:=fun σ H Q=>ta σ H fun x H1=>∃c,x = .bl c/\if c=true then Q (.bl true) H1 else tb σ H1 Q
noncomputable def tNotV (ta:TE):TE:=fun σ H Q=>ta σ H fun x H1=>∃c,x = .bl c/\Q (.bl (!c)) H1
theorem zCu {op} {t:TE}(h:PE X a t):PE X (.BoolOp op [a] pos) t:=fun pins s σ H Q I hw=>BoolOp_one (h pins s σ H Q I hw)
theorem zCw (ha:PE X a ta)(hb:PE X (.BoolOp .And (b::rest) pos) tb):PE X (.BoolOp .And (a::b::rest) pos) (tAndV ta tb):=by
 intro pins s σ H Q I h
 refine BoolOp_and (thn (ha pins s σ H _ I h) fun v s1 ⟨x,H1,I1,r1,q1⟩=>?_)
 obtain⟨c,rfl,q1⟩:=q1
 cases r1
 refine zAq ?_
 cases c with
 | true=>exact hb pins s1 σ H1 Q I1 q1
 | false=>exact⟨.bl false,H1,I1,rfl,q1⟩
theorem pe_or (ha:PE X a ta)(hb:PE X (.BoolOp .Or (b::rest) pos) tb):PE X (.BoolOp .Or (a::b::rest) pos) (tOrV ta tb):=by
 intro pins s σ H Q I h
 refine BoolOp_or (thn (ha pins s σ H _ I h) fun v s1 ⟨x,H1,I1,r1,q1⟩=>?_)
 obtain⟨c,rfl,q1⟩:=q1
 cases r1
 refine zAq ?_
 cases c with
 | false=>exact hb pins s1 σ H1 Q I1 q1
 | true=>exact⟨.bl true,H1,I1,rfl,q1⟩
theorem pe_not (ha:PE X a ta):PE X (.UnaryOp .Not a pos) (tNotV ta):=by
 intro pins s σ H Q I h
 refine UnaryOp_ (thn (ha pins s σ H _ I h) fun v s1 ⟨x,H1,I1,r1,q1⟩=>?_)
 obtain⟨c,rfl,q1⟩:=q1
 cases r1
 exact not_of (zAq ⟨.bl (!c),H1,I1,rfl,q1⟩)
noncomputable def tIf (t:TT)(ta tb:TE):TE:=fun σ H Q=>t σ H fun c H1=>if c=true then ta σ H1 Q else tb σ H1 Q
theorem zFA {c:Expr}(hc:PT X c tA)(ha:PE X a ta)(hb:PE X b tb):PE X (.IfExp c a b pos) (tIf tA ta tb):=by
 intro pins s σ H Q I h
 refine wpAny_IfExp (thn (hc pins s σ H _ I h) fun d s1 ⟨H1,I1,q1⟩=>?_)
 cases d with
 | true=>exact ha pins s1 σ H1 Q I1 q1
 | false=>exact hb pins s1 σ H1 Q I1 q1
end
end L2
namespace L2
open PySem PySem.Spec PyProof.Rows
noncomputable def SqL (K:PySem.W.Frag)(H:Hp)(a:Addr)(xs:List V):Prop:=
 Rd H a (.lst xs) \/
  ∃(o:Obj)(its:Array Value)(n:Nat),K.lookup a=some o/\o.cls = .type "list" /\ o.dict=none/\o.data = .seq its n/\its.size<=sizeLine/\zBK xs its.toList
noncomputable def SqT (K:PySem.W.Frag)(H:Hp)(a:Addr)(xs:List V):Prop:=
 Rd H a (.tup xs) \/
  ∃(o:Obj)(its:Array Value)(n:Nat),K.lookup a=some o/\o.cls = .type "tuple" /\ o.data = .seq its n/\its.size<=sizeLine/\zBK xs its.toList
noncomputable def absV:Value->Option V
 | .none=>some .non
 | .bool b=>some (.bl b)
 | .int i _=>some (.int i)
 | .str x _=>some (.str x)
 | .bytes b _=>some (.byt b)
 | .float b _=>some (.flt b)
 | .ref a=>some (.ref a)
 | .type n=>some (.ty n)
 | _=>none
theorem zBe.abs {x:V}{u:Value}(r:zBe x u):absV u=some x:=by
 cases x with
 | non=>cases r;rfl
 | bl _=>cases r;rfl
 | int _=>obtain⟨t,rfl⟩:=r;rfl
 | str _=>obtain⟨t,rfl⟩:=r;rfl
 | byt _=>obtain⟨t,rfl⟩:=r;rfl
 | flt _=>obtain⟨t,rfl⟩:=r;rfl
 | ref _=>cases r;rfl
 | ty _=>cases r;rfl
theorem zBe.inj {x y:V}{u:Value}(r:zBe x u)(q:zBe y u):x=y:=za (r.abs.symm.trans q.abs)
theorem zBK.inj:∀{xs ys:List V}{us:List Value},zBK xs us->zBK ys us->xs=ys
 | _,_,_,.nil,.nil=>rfl
 | _,_,_,.cons r t,.cons r' t'=>by rw[r.inj r',zBK.inj t t']
section
variable {X:Cx}{pins:List (Addr×Obj)}{σ:St}{H:Hp}{s:Shared}{a:Addr}{xs ys:List V}
theorem SqL.of {K:PySem.W.Frag}(h:H a=some (.lst xs)):SqL K H a xs:=.inl (.inl h)
theorem SqT.of {K:PySem.W.Frag}(h:H a=some (.tup xs)):SqT K H a xs:=.inl (.inl h)
theorem Inv.list (I:Inv X pins σ H s)(h:SqL X.K H a xs):∃its:List Value,zBK xs its/\PlainL s.heap a its.toArray/\xs.length<=sizeLine:=by
 rcases h with h | ⟨o,its,n,hk,hc,hd,hs,hz,r⟩
 . obtain⟨z,its,n,r,e⟩:=h.ok I.hok
   exact⟨its,r,⟨_,n,e,rfl,rfl,rfl⟩,z⟩
 . refine⟨its.toList,r,⟨o,n,I.kIn a o hk,hc,hd,by simpa using hs⟩,?_⟩
   have e:=r.length
   simp only[Array.length_toList] at e
   omega
theorem Inv.tuple (I:Inv X pins σ H s)(h:SqT X.K H a xs):∃its:List Value,zBK xs its/\IsTup s.heap a its.toArray/\xs.length<=sizeLine:=by
 rcases h with h | ⟨o,its,n,hk,hc,hs,hz,r⟩
 . obtain⟨⟨z,_⟩,its,r,p⟩:=h.ok I.hok
   exact⟨its,r,p,z⟩
 . refine⟨its.toList,r,⟨o,I.kIn a o hk,hc,n,by simpa using hs⟩,?_⟩
   have e:=r.length
   simp only[Array.length_toList] at e
   omega
theorem Inv.list_inj (I:Inv X pins σ H s)(h:SqL X.K H a xs)(h':SqL X.K H a ys):xs=ys:=by
 obtain⟨its,r,⟨o,n,e,_,_,d⟩,_⟩:=I.list h
 obtain⟨its',r',⟨o',n',e',_,_,d'⟩,_⟩:=I.list h'
 rw[e] at e';cases e'
 rw[d] at d'
 injection d' with d1 _
 have:its=its':=by simpa using congrArg Array.toList d1
 subst this
 exact r.inj r'
theorem Inv.tuple_inj (I:Inv X pins σ H s)(h:SqT X.K H a xs)(h':SqT X.K H a ys):xs=ys:=by
 obtain⟨its,r,⟨o,e,_,n,d⟩,_⟩:=I.tuple h
 obtain⟨its',r',⟨o',e',_,n',d'⟩,_⟩:=I.tuple h'
 rw[e] at e';cases e'
 rw[d] at d'
 injection d' with d1 _
 have:its=its':=by simpa using congrArg Array.toList d1
 subst this
 exact r.inj r'
end
noncomputable abbrev Cx.wish (X:Cx)(E:Value->Shared->Prop):Cx:={ X with xe:=E }
noncomputable abbrev Cx.nox (X:Cx):Cx:=X.wish fun _ _=>False
theorem Cx.Ok.wish {X:Cx}(ok:X.Ok)(E:Value->Shared->Prop):(X.wish E).Ok:=
 ⟨ok.mod,ok.kind,ok.glob,ok.blt,ok.above,ok.inj,ok.has,ok.cab,ok.hd,ok.frames,ok.stk,ok.exf,ok.bs,ok.bsz,ok.noex,ok.exfs,ok.funs,ok.frf⟩
theorem Cx.Ok.unwish {X:Cx}{E:Value->Shared->Prop}(ok:(X.wish E).Ok):X.Ok:=
 ⟨ok.mod,ok.kind,ok.glob,ok.blt,ok.above,ok.inj,ok.has,ok.cab,ok.hd,ok.frames,ok.stk,ok.exf,ok.bs,ok.bsz,ok.noex,ok.exfs,ok.funs,ok.frf⟩
section
variable {X:Cx}{pins:List (Addr×Obj)}{σ:St}{H:Hp}{s:Shared}{E:Value->Shared->Prop}
theorem Inv.wish (I:Inv X pins σ H s)(E:Value->Shared->Prop):Inv (X.wish E) pins σ H s:=⟨I.ok.wish E,I.os,I.bare,I.base,I.loc,I.cell,I.free,I.freeC,I.pin,I.hok,I.len⟩
theorem Inv.unwish (I:Inv (X.wish E) pins σ H s):Inv X pins σ H s:=⟨I.ok.unwish,I.os,I.bare,I.base,I.loc,I.cell,I.free,I.freeC,I.pin,I.hok,I.len⟩
theorem SP.unwish {D:zH7}{f:Flow}{s':Shared}(h:SP (X.wish E) pins D f s'):SP X pins D f s':=by
 cases f with
 | next=>obtain⟨σ',H',I,q⟩:=h;exact⟨σ',H',I.unwish,q⟩
 | brk=>obtain⟨σ',H',I,q⟩:=h;exact⟨σ',H',I.unwish,q⟩
 | cont=>obtain⟨σ',H',I,q⟩:=h;exact⟨σ',H',I.unwish,q⟩
 | ret u=>obtain⟨v,σ',H',I,r,q⟩:=h;exact⟨v,σ',H',I.unwish,r,q⟩
theorem PSs.nox {st:List Stmt}{t:TS}(h:PSs X.nox st t):PSs X st t:=fun pins s σ H D I hw=>
 zAM (h pins s σ H D (I.wish _) hw) (fun _ _ q=>q.unwish) fun _ _ z=>False.elim z
end
section
variable {X:Cx}{st:Stmt}{rest:List Stmt}{t u:TS}{e:Expr}{te:TE}{pos:Pos}
noncomputable def tNext:TS:=fun D σ H=>D.nx σ H
noncomputable def tSeq (t u:TS):TS:=fun D σ H=>t { D with nx:=u D } σ H
theorem zBD:PSs X [] tNext:=fun _ _ σ H _ I h=>wpAny_execs_nil ⟨σ,H,I,h⟩
theorem zZ (h1:PS X st t)(h2:PSs X rest u):PSs X (st::rest) (tSeq t u):=by
 intro pins s σ H D I h
 refine wpAny_execs_cons (thn (h1 pins s σ H { D with nx:=u D } I h) fun f s1 q=>?_)
 cases f with
 | next=>
  obtain⟨σ',H',I',q⟩:=q
  exact h2 pins s1 σ' H' D I' q
 | ret v=>exact q
 | brk=>exact q
 | cont=>exact q
theorem zn (h1:PS X st t):PSs X [st] t:=by
 intro pins s σ H D I h
 refine wpAny_execs_cons (thn (h1 pins s σ H D I h) fun f s1 q=>?_)
 cases f with
 | next=>exact wpAny_execs_nil q
 | ret v=>exact q
 | brk=>exact q
 | cont=>exact q
theorem Inv.quiet {pins:List (Addr×Obj)}{σ:St}{H:Hp}{s:Shared}(I:Inv X pins σ H s):interactive X.env=false:=by simp[interactive,I.ok.kind]
noncomputable def tDrop (te:TE):TS:=fun D σ H=>te σ H fun _ H1=>D.nx σ H1
theorem zBp (he:PE X e te)(hs:swapsWith e none pos.line X.env=pure false:=by rfl):PS X (.Expr e pos) (tDrop te):=by
 intro pins s σ H D I h
 exact wpAny_Expr_any (thn (he pins s σ H _ I h) fun v s1 ⟨x,H1,I1,r1,q1⟩=>⟨σ,H1,I1,q1⟩) I.quiet hs
noncomputable def tRet (te:TE):TS:=fun D σ H=>te σ H D.rt
theorem zAd (he:PE X e te):PS X (.Return (some e) pos) (tRet te):=by
 intro pins s σ H D I h
 exact wpAny_Return_some (thn (he pins s σ H _ I h) fun v s1 ⟨x,H1,I1,r1,q1⟩=>⟨x,σ,H1,I1,r1,q1⟩)
noncomputable def tIfS (c:TT)(t u:TS):TS:=fun D σ H=>c σ H fun b H1=>if b=true then t D σ H1 else u D σ H1
theorem zCF {c:Expr}{a b:List Stmt}{tc:TT}(hc:PT X c tc)(ha:PSs X a t)(hb:PSs X b u):PS X (.If c a b pos) (tIfS tc t u):=by
 intro pins s σ H D I h
 refine wpAny_If (thn (hc pins s σ H _ I h) fun d s1 ⟨H1,I1,q1⟩=>?_)
 cases d with
 | true=>exact ha pins s1 σ H1 D I1 q1
 | false=>exact hb pins s1 σ H1 D I1 q1
end
noncomputable abbrev TG:=V->St->Hp->(St->Hp->Prop)->Prop
noncomputable abbrev TGs:=List V->St->Hp->(St->Hp->Prop)->Prop
noncomputable def PG (X:Cx)(target:Expr)(t:TG):Prop:=
 ∀(pins:List (Addr×Obj))(s:Shared)(σ:St)(H:Hp)(v:V)(u:Value)(Q:St->Hp->Prop),Inv X pins σ H s->zBe v u->t v σ H Q ->
  wpAny (model X.prog X.w) X.A (assign target X.env u) (fun _ s'=>∃ σ' H',Inv X pins σ' H' s'/\Q σ' H') X.xe s
noncomputable def PGs (X:Cx)(ts:List Expr)(t:TGs):Prop:=
 ∀(pins:List (Addr×Obj))(s:Shared)(σ:St)(H:Hp)(vs:List V)(us:List Value)(Q:St->Hp->Prop),Inv X pins σ H s->zBK vs us->t vs σ H Q ->
  wpAny (model X.prog X.w) X.A (assignInOrder ((assignEach ts X.env).map (·.2)) us) (fun _ s'=>∃ σ' H',Inv X pins σ' H' s'/\Q σ' H') X.xe s
noncomputable abbrev TSet:=V->V->V->Hp->(Hp->Prop)->Prop
noncomputable def PSet (X:Cx)(t:TSet):Prop:=
 ∀(pins:List (Addr×Obj))(s:Shared)(σ:St)(H:Hp)(o i v:V)(ov iv u:Value)(Q:Hp->Prop),Inv X pins σ H s->zBe o ov->zBe i iv->zBe v u->t o i v H Q ->
  wpAny (model X.prog X.w) X.A (setItem ov iv u) (fun _ s'=>∃H',Inv X pins σ H' s'/\Q H') X.xe s
noncomputable abbrev TIp:=V->V->Hp->VK->Prop
noncomputable def PIp (X:Cx)(op:Operator)(t:TIp):Prop:=
 ∀(pins:List (Addr×Obj))(s:Shared)(σ:St)(H:Hp)(x y:V)(v u:Value)(Q:VK),Inv X pins σ H s->zBe x v->zBe y u->t x y H Q ->
  wpAny (model X.prog X.w) X.A (inplaceOp op v u) (EP X pins σ Q) X.xe s
section
variable {X:Cx}{pos:Pos}
noncomputable def zLq (i:Nat):TG:=fun v σ H Q=>Q (σ.set i (some v)) H
theorem zAP {i:Nat}{x:Str}(hN:X.N.Nodup)(hi:X.N[i]? = some x)(hx:Loc X.env.scope x)(hf:X.fn x=true\/X.env.scope.names.lookup x=some .local:=by first | exact .inl rfl | exact .inr rfl | assumption):PG X (.Name x pos) (zLq i):=by
 intro pins s σ H v u Q I r h
 exact wpAny_assign_Name (zCY I hN hi hx r (fun s' I'=>⟨_,H,I',h⟩) hf)
noncomputable def gNil:TGs:=fun vs σ H Q=>vs=[]/\Q σ H
noncomputable def gCons (t:TG)(u:TGs):TGs:=fun vs σ H Q=>∃v r,vs=v::r/\t v σ H fun σ' H'=>u r σ' H' Q
theorem zE9:PGs X [] gNil:=by
 intro pins s σ H vs us Q I r h
 obtain⟨e,h⟩:=h
 subst e
 cases r
 exact assignInOrder_nil ⟨σ,H,I,h⟩
theorem zBx {e:Expr}{es:List Expr}{t:TG}{u:TGs}(h1:PG X e t)(h2:PGs X es u)
 (hs:(assignEach (e::es) X.env).map (·.2)=assign e X.env::(assignEach es X.env).map (·.2):=by rfl):PGs X (e::es) (gCons t u):=by
 intro pins s σ H vs us Q I r h
 obtain⟨v,vr,e1,h⟩:=h
 subst e1
 cases r with
 | cons r rr=>
  rw[hs]
  refine assignInOrder_cons (thn (h1 pins s σ H _ _ _ I r h) fun _ s1 ⟨σ1,H1,I1,q1⟩=>?_)
  exact h2 pins s1 σ1 H1 _ _ Q I1 rr q1
noncomputable def gTup (K:PySem.W.Frag)(n:Nat)(t:TGs):TG:=fun v σ H Q=>∃a xs,v = .ref a/\SqT K H a xs/\xs.length=n/\t xs σ H Q
theorem zG6 {es:List Expr}{k:Nat}{t:TGs}{n:Nat}(hc:X.calm=true)(h:PGs X es t)
 (hn:(assignEach es X.env).length=n:=by rfl)(hst:(assignEach es X.env).findIdx? (·.1)=none:=by rfl):PG X (.Tuple es k pos) (gTup X.K n t):=by
 intro pins s σ H v u Q I r hw
 obtain⟨a,xs,e1,hq,hl,hw⟩:=hw
 subst e1
 cases r
 obtain⟨its,rv,ht,hz⟩:=I.tuple hq
 refine assign_Tuple_tuple (I.ok.hd hc) ht (by simp[hn,<-hl,rv.length]) hst fun h' hx=>?_
 have I1:Inv X pins σ H { s with heap:=h' }:=I.kept (t':=s.toks) fun b o e=>hx b o (zf (zU e)) e
 exact h pins _ σ H xs _ Q I1 (by simpa using rv) hw
noncomputable def gSub (to ti:TE)(t:TSet):TG:=fun v σ H Q=>to σ H fun o H1=>ti σ H1 fun i H2=>t o i v H2 fun H3=>Q σ H3
theorem zIe {o i:Expr}{to ti:TE}{t:TSet}(ho:PE X o to)(hi:PE X i ti)(hs:PSet X t)
 (ha:∀v,assign (.Subscript o i pos) X.env v=(do
  let ov <-holding [v] (eval o X.env)
  let iv <-holding [v,ov] (eval i X.env)
  standAt pos
  holding [v,ov,iv] (setItem ov iv v)
  release [v,ov,iv] []):=by intro _;rfl):PG X (.Subscript o i pos) (gSub to ti t):=by
 intro pins s σ H v u Q I r h
 rw[ha]
 refine zA (zq (thn (ho pins s σ H _ I h) fun ov s1 ⟨x,H1,I1,r1,q1⟩=>?_))
 refine zA (zq (thn (hi pins s1 σ H1 _ I1 q1) fun iv s2 ⟨y,H2,I2,r2,q2⟩=>?_))
 refine zA (wpAny_standAt (zA (zq (thn (hs pins s2 σ H2 x y v ov iv u _ I2 r1 r2 r q2) fun _ s3 ⟨H3,I3,q3⟩=>?_))))
 exact wpAny_release ⟨σ,H3,I3,q3⟩
noncomputable def tAsg (te:TE)(g:TG):TS:=fun D σ H=>te σ H fun x H1=>g x σ H1 D.nx
theorem zIb {tg e:Expr}{te:TE}{g:TG}(he:PE X e te)(hg:PG X tg g)(hs:swapsWithSole [tg] e pos.line X.env=pure false:=by rfl)(hw:swappedStores [tg] e X.env=pure none:=by rfl)
 (h1:(assignEach [tg] X.env).map (·.2)=[assign tg X.env]:=by rfl):PS X (.Assign [tg] e pos) (tAsg te g):=by
 intro pins s σ H D I h
 refine wpAny_Assign_stores (thn (he pins s σ H _ I h) fun v s1 ⟨x,H1,I1,r1,q1⟩=>?_) hs hw
 rw[h1]
 exact thn (hg pins s1 σ H1 x v _ I1 r1 q1) fun _ s2 q=>q
theorem zAR {i:Nat}{x:Str}{e:Expr}{te:TE}{pos':Pos}(hN:X.N.Nodup)(hi:X.N[i]? = some x)(hx:Loc X.env.scope x)(he:PE X e te)(hs:swapsWith e (some (.Name x pos')) pos.line X.env=pure false:=by rfl)(hf:X.fn x=true\/X.env.scope.names.lookup x=some .local:=by first | exact .inl rfl | exact .inr rfl | assumption) :
 PS X (.Assign [.Name x pos'] e pos) (tAsg te (zLq i)):=by
 intro pins s σ H D I h
 refine wpAny_Assign_Name (thn (he pins s σ H _ I h) fun v s1 ⟨y,H1,I1,r1,q1⟩=>?_) hs
 exact zCY I1 hN hi hx r1 (fun s2 I2=>⟨_,H1,I2,q1⟩) hf
noncomputable def tAug (i:Nat)(te:TE)(ti:TIp):TS:=fun D σ H=>∃x,σ[i]? = some (some x)/\te σ H fun y H1=>ti x y H1 fun z H2=>D.nx (σ.set i (some z)) H2
theorem ps_aug {i:Nat}{x:Str}{e:Expr}{te:TE}{op:Operator}{ti:TIp}{pos':Pos}(hN:X.N.Nodup)(hi:X.N[i]? = some x)(hx:Loc X.env.scope x)(he:PE X e te)(ho:PIp X op ti)(hf:X.fn x=true\/X.env.scope.names.lookup x=some .local:=by first | exact .inl rfl | exact .inr rfl | assumption) :
 PS X (.AugAssign (.Name x pos') op e pos) (tAug i te ti):=by
 intro pins s σ H D I h
 obtain⟨v,e1,h⟩:=h
 obtain⟨m,hn,hl⟩:=I.loc
 have vis:Vis X.env.scope x:=by rcases hx with k | k;exact .inl k;exact .inr (.inl k)
 obtain⟨u,r,l⟩:=hl i x v hi e1 vis
 refine wpAny_AugAssign_Name ?_
 have go:wpAny (model X.prog X.w) X.A (eval e X.env) (fun w s₂=>wpAny (model X.prog X.w) X.A (inplaceOp op u w) (fun r s₃=>wpAny (model X.prog X.w) X.A (storeName X.env x r) (fun _=>SP X pins D .next) X.xe s₃) X.xe s₂) X.xe s:=by
  refine thn (he pins s σ H _ I h) fun w s1 ⟨y,H1,I1,r1,q1⟩=>?_
  refine thn (ho pins s1 σ H1 v y u w _ I1 r r1 q1) fun z s2 ⟨zv,H2,I2,r2,q2⟩=>?_
  exact zCY I2 hN hi hx r2 (fun s3 I3=>⟨_,H2,I3,q2⟩) hf
 rcases l with ⟨hk,hm⟩ | ⟨hk,c,hc,hcell⟩
 . exact wpAny_loadName_local I.ok.kind hk hn hm go
 . rcases hk with hk | hk
   . exact wpAny_loadName_cell I.ok.kind hk hc hcell go
   . rcases hx with k | k
     . have:X.env.scope.names.lookup x=some .free:=hk
       rw[k] at this;cases this
     . have:X.env.scope.names.lookup x=some .free:=hk
       rw[k] at this;cases this
noncomputable def ipI (f:Int->Int->Int):TIp:=fun x y H Q=>∃i j,x = .int i/\y = .int j/\Q (.int (f i j)) H
theorem ip_add:PIp X .Add (ipI fun i j=>i+j):=by
 intro pins s σ H x y v u Q I r1 r2 h
 obtain⟨i,j,e1,e2,q⟩:=h
 subst e1;subst e2
 obtain⟨t,rfl⟩:=r1
 obtain⟨t',rfl⟩:=r2
 exact iadd_int ⟨.int _,H,I.tok _,⟨_,rfl⟩,q⟩
end
section
variable {X:Cx}{pos:Pos}
noncomputable def tWhile (c:TT)(tb:TS):TS:=fun D σ H=>∃W:Nat->St->Hp->Prop,(∃m,W m σ H)/\∀m σ H,W m σ H ->
 c σ H fun b H1=>if b=true then ∃N:St->Hp->Prop,(∀ σ' H',N σ' H'->∃m',m'<m/\W m' σ' H')/\tb { D with nx:=N,ct:=N,bk:=D.nx } σ H1 else D.nx σ H1
theorem zC9 {c:Expr}{body:List Stmt}{tc:TT}{tb:TS}(hp:PassesOwn (model X.prog X.w) X.A X.env X.xe)(hc:PT X c tc)(hb:PSs X body tb):PS X (.While c body [] pos) (tWhile tc tb):=by
 intro pins s σ H D I h
 obtain⟨W,⟨m0,w0⟩,turn⟩:=h
 refine wpAny_While (codeAny_whileLoop (fun n s'=>∃ σ' H',Inv X pins σ' H' s'/\W n σ' H') ?_ m0 ⟨σ,H,I,w0⟩)
 rintro n s1 ⟨σ1,H1,I1,w1⟩
 refine wpAny_passesOwn hp (thn (hc pins s1 σ1 H1 _ I1 (turn n σ1 H1 w1)) fun b s2 ⟨H2,I2,q2⟩=>?_)
 cases b with
 | true=>
  obtain⟨N,hN,q2⟩:=q2
  rw[if_pos rfl]
  refine wpAny_passesOwn hp (thn (hb pins s2 σ1 H2 _ I2 q2) fun f s3 q3=>?_)
  cases f with
  | next=>
   obtain⟨σ3,H3,I3,n3⟩:=q3
   obtain⟨m',hm,w3⟩:=hN σ3 H3 n3
   exact⟨m',hm,σ3,H3,I3,w3⟩
  | cont=>
   obtain⟨σ3,H3,I3,n3⟩:=q3
   obtain⟨m',hm,w3⟩:=hN σ3 H3 n3
   exact⟨m',hm,σ3,H3,I3,w3⟩
  | brk=>exact q3
  | ret v=>exact q3
 | false=>
  rw[if_neg zh]
  exact wpAny_execs_nil ⟨σ1,H2,I2,q2⟩
end
structure It where
 go:Nat->Hp->Prop
 yld:Nat->Hp->V->Hp->Prop
 stop:Nat->Hp->Prop
noncomputable def zEN (X:Cx)(pins:List (Addr×Obj))(H:Hp)(b:Addr):Prop:=
 H b=none/\b≠X.env.locals/\b∉X.fs/\(b∈X.ex\/X.s₀.heap.objs.size<=b)/\(∀x c,X.env.cells.lookup x=some c->c≠b)/\∀p∈X.pn++pins,p.1≠b
theorem Inv.fpOk {X:Cx}{pins:List (Addr×Obj)}{σ:St}{H H':Hp}{s:Shared}{b:Addr}(I:Inv X pins σ H s)(hb:s.heap.objs.size<=b)(hn:H' b=none):zEN X pins H' b:=by
 refine⟨hn,Nat.ne_of_gt (zo I.lt hb),I.nofs hb,.inr (zAl I.sz hb),fun x c e z=>?_,fun p hp z=>?_⟩
 . obtain⟨v,q⟩:=I.cell x c e
   exact absurd (zo q.lt (by rw[z];exact hb)) (zBM _)
 . exact absurd (zo (zU (I.pin p hp).1) (by rw[z];exact hb)) (zBM _)
structure Turn (P:Program)(w:World)(K:PySem.W.Frag)(tg:Expr)(J:It)(fp:List Addr)(it:Addr)(tn:Nat->Heap->Prop):Prop where
 mem:it∈fp
 obj:∀i h,tn i h->∀b∈fp,∃o,h.get? b=some o/\∀v,o.data ≠ .cell v
 keep:∀i h h',tn i h->(∀b∈fp,∀o,h.get? b=some o->h'.get? b=some o)->tn i h'
 item:∀(X:Cx),X.prog=P->X.w=w->X.K=K->X.calm=true->∀(i:Nat)(pins:List (Addr×Obj))(s:Shared)(σ:St)(H:Hp)(E:Value->Shared->Prop),Inv X pins σ H s->(∀b∈fp,zEN X pins H b)->tn i s.heap->J.go i H ->
  wpAny (model P w) X.A (pyNext (.ref it)) (fun r s1=>∃u,r=some u /\
   wpAny (model P w) X.A (letOwnedTupleGo tg (.ref it) u) (fun _ s2=>∃x H',Inv X pins σ H' s2/\zBe x u/\J.yld i H x H'/\tn (i+1) s2.heap/\∀b∈fp,H' b=none) E s1) E s
 done:∀(X:Cx),X.prog=P->X.w=w->X.K=K->X.calm=true->∀(i:Nat)(pins:List (Addr×Obj))(s:Shared)(σ:St)(H:Hp)(E:Value->Shared->Prop),Inv X pins σ H s->(∀b∈fp,zEN X pins H b)->tn i s.heap->J.stop i H ->
  wpAny (model P w) X.A (pyNext (.ref it)) (fun r s1=>r=none/\Inv X pins σ H s1) E s
 self:∀(A:Around)(i:Nat)(s:Shared)(Q:Value->Shared->Prop)(E:Value->Shared->Prop),tn i s.heap->Q (.ref it) s->wpAny (model P w) A (pyIter (.ref it)) Q E s
noncomputable abbrev TI:=St->Hp->(It->Hp->Prop)->Prop
noncomputable def PIE (X:Cx)(pins:List (Addr×Obj))(σ:St)(tg:Expr)(R:It->Hp->Prop)(itv:Value)(s2:Shared):Prop:=
 ∃(it:Addr)(fp:List Addr)(tn:Nat->Heap->Prop)(J:It)(H':Hp),itv = .ref it/\Inv X pins σ H' s2/\Turn X.prog X.w X.K tg J fp it tn/\tn 0 s2.heap/\(∀b∈fp,zEN X pins H' b)/\R J H'
noncomputable def PI (X:Cx)(tg iter:Expr)(wi:TI):Prop:=
 ∀(pins:List (Addr×Obj))(s:Shared)(σ:St)(H:Hp)(R:It->Hp->Prop),Inv X pins σ H s->wi σ H R ->
  wpAny (model X.prog X.w) X.A (eval iter X.env) (fun v s1=>wpAny (model X.prog X.w) X.A (pyIter v) (PIE X pins σ tg R) X.xe s1) X.xe s
theorem zLp {M:Model}{A:Around}{E:Value->Shared->Prop}{s:Shared}{tg:Expr}{it:Addr}{u:Value}{o:Obj}{n:String}{vs:Array Value}{Q:Unit->Shared->Prop}(ho:s.heap.get? it=some o)(hc:o.cls = .type n)(hd:o.data = .fields vs)
 (hn:["enumerate", "zip", "dict_itemiterator", "dict_reverseitemiterator", "odict_iterator", "itertools.zip_longest", "itertools.pairwise"].contains n=false) (hQ:Q () s):wpAny M A (letOwnedTupleGo tg (.ref it) u) Q E s:=by
 unfold letOwnedTupleGo
 cases tg <;> first
  | exact zB hQ
  | (cases u <;> first
   | exact zB hQ
   | (refine zA (wpAny_load ho ?_)
      rw[hc,hd]
      show wpAny M A (if (["enumerate", "zip", "dict_itemiterator", "dict_reverseitemiterator", "odict_iterator", "itertools.zip_longest", "itertools.pairwise"].contains n && vs[0]? == some (rawInt _))=true then _ else _) Q E s
      rw[if_neg (by intro h;rw[hn,Bool.false_and] at h;cases h)]
      exact zB hQ))
noncomputable def Itl (K:PySem.W.Frag)(a:Addr):It:=
 ⟨fun i H=>∃xs x,SqL K H a xs/\xs[i]? = some x,fun i H x H'=>H'=H/\∀xs,SqL K H a xs->xs[i]? = some x,fun i H=>∃xs,SqL K H a xs/\xs.length<=i⟩
noncomputable def Itt (K:PySem.W.Frag)(a:Addr):It:=
 ⟨fun i H=>∃xs x,SqT K H a xs/\xs[i]? = some x,fun i H x H'=>H'=H/\∀xs,SqT K H a xs->xs[i]? = some x,fun i H=>∃xs,SqT K H a xs/\xs.length<=i⟩
noncomputable def Itr (lo:Int)(n:Nat):It:=⟨fun i _=>i<n,fun i H x H'=>H'=H/\x = .int (lo+i),fun i _=>n<=i⟩
theorem zIA {P:Program}{w:World}{K:PySem.W.Frag}{tg:Expr}(a it:Addr):Turn P w K tg (Itl K a) [it] it (fun i h=>h.IsListIter it a i) where
 mem:=by simp
 obj:=fun i h st b hb=>by
  have e:b=it:=by simpa using hb
  subst e
  obtain⟨o,e,c,d⟩:=st
  exact⟨o,e,fun v z=>by rw[d] at z;cases z⟩
 keep:=fun i h h' st k=>st.at fun o e=>k it (by simp) o e
 item:=by
  intro X hP hw hK hc i pins s σ H E I hf st hg
  subst hP hw hK
  obtain⟨xs,x,hq,hx⟩:=hg
  obtain⟨its,rv,p,hz⟩:=I.list hq
  obtain⟨u,hu,ru⟩:=rv.get hx
  obtain⟨f0,f1,f2,f3,f4,f5⟩:=hf it (by simp)
  refine zBX st p.isList (x:=u) (by simpa using hu) fun h' st' sb=>?_
  have I1:Inv X pins σ H { s with heap:=h' }:=I.turned (t':=s.toks) (fun b o hb e=>(sb.2 b hb).trans e) f0 f1 f3 f4 f5
  obtain⟨o,e,c,d⟩:=id st'
  exact⟨u,rfl,zLp (s:={ s with heap:=h' }) e c d (by decide) ⟨x,H,I1,ru,⟨rfl,fun ys hy=>by rw[I.list_inj hy hq];exact hx⟩,st',fun b hb=>(hf b hb).1⟩⟩
 done:=by
  intro X hP hw hK hc i pins s σ H E I hf st hg
  subst hP hw hK
  obtain⟨xs,hq,hx⟩:=hg
  obtain⟨its,rv,p,hz⟩:=I.list hq
  obtain⟨f0,f1,f2,f3,f4,f5⟩:=hf it (by simp)
  have hl:=rv.length
  exact wpAny_pyNext_list_end (I.ok.hd hc) st p.isList (by simp;omega) fun h' eb=>⟨rfl,I.turned (t':=s.toks) (fun b o hb e=>eb b o hb e) f0 f1 f3 f4 f5⟩
 self:=fun _ _ _ _ _ st h=>wpAny_pyIter_listiter st h
theorem zHY {P:Program}{w:World}{K:PySem.W.Frag}{tg:Expr}(a it:Addr):Turn P w K tg (Itt K a) [it] it (fun i h=>h.IsTupleIter it a i) where
 mem:=by simp
 obj:=fun i h st b hb=>by
  have e:b=it:=by simpa using hb
  subst e
  obtain⟨o,e,c,d⟩:=st
  exact⟨o,e,fun v z=>by rw[d] at z;cases z⟩
 keep:=fun i h h' st k=>st.at fun o e=>k it (by simp) o e
 item:=by
  intro X hP hw hK hc i pins s σ H E I hf st hg
  subst hP hw hK
  obtain⟨xs,x,hq,hx⟩:=hg
  obtain⟨its,rv,p,hz⟩:=I.tuple hq
  obtain⟨u,hu,ru⟩:=rv.get hx
  obtain⟨f0,f1,f2,f3,f4,f5⟩:=hf it (by simp)
  refine wpAny_pyNext_tuple_item st (show s.heap.IsTuple a its.toArray from p) (x:=u) (by simpa using hu) fun h' st' sb=>?_
  have I1:Inv X pins σ H { s with heap:=h' }:=I.turned (t':=s.toks) (fun b o hb e=>(sb.2 b hb).trans e) f0 f1 f3 f4 f5
  obtain⟨o,e,c,d⟩:=id st'
  exact⟨u,rfl,zLp (s:={ s with heap:=h' }) e c d (by decide) ⟨x,H,I1,ru,⟨rfl,fun ys hy=>by rw[I.tuple_inj hy hq];exact hx⟩,st',fun b hb=>(hf b hb).1⟩⟩
 done:=by
  intro X hP hw hK hc i pins s σ H E I hf st hg
  subst hP hw hK
  obtain⟨xs,hq,hx⟩:=hg
  obtain⟨its,rv,p,hz⟩:=I.tuple hq
  obtain⟨f0,f1,f2,f3,f4,f5⟩:=hf it (by simp)
  have hl:=rv.length
  exact wpAny_pyNext_tuple_end (I.ok.hd hc) st (show s.heap.IsTuple a its.toArray from p) (by simp;omega) fun h' eb=>⟨rfl,I.turned (t':=s.toks) (fun b o hb e=>eb b o hb e) f0 f1 f3 f4 f5⟩
 self:=fun _ _ _ _ _ st h=>wpAny_pyIter_tupleiter st h
theorem zHZ {P:Program}{w:World}{K:PySem.W.Frag}{tg:Expr}(it:Addr)(lo:Int)(n:Nat):Turn P w K tg (Itr lo n) [it] it (fun i h=>IsRangeIter h it (lo+(i:Nat)*1) ((n:Int)-(i:Nat)) 1) where
 mem:=by simp
 obj:=fun i h st b hb=>by
  have e:b=it:=by simpa using hb
  subst e
  exact⟨_,st,fun v z=>by
   have z':Data.fields _=Data.cell v:=z
   cases z'⟩
 keep:=fun i h h' st k=>k it (by simp) _ st
 item:=by
  intro X hP hw hK hc i pins s σ H E I hf st hg
  subst hP hw hK
  obtain⟨f0,f1,f2,f3,f4,f5⟩:=hf it (by simp)
  have W:=Walks.range (prog:=X.prog) (w:=X.w) (I.ok.hd hc) it lo 1 n
  refine W.item i s _ _ hg st fun v h' tk hv st' kk=>?_
  obtain⟨t,rfl⟩:=hv
  have I1:Inv X pins σ H { s with heap:=h',toks:=tk }:=I.turned (fun b o hb e=>kk b o (by simpa using hb) e) f0 f1 f3 f4 f5
  refine⟨_,rfl,zLp (s:={ s with heap:=h',toks:=tk }) (n := "range_iterator") st' rfl rfl (by decide) ⟨.int (lo+i),H,I1,⟨t,?_⟩,⟨rfl,rfl⟩,st',fun b hb=>(hf b hb).1⟩⟩
  rw[Int.mul_one]
 done:=by
  intro X hP hw hK hc i pins s σ H E I hf st hg
  subst hP hw hK
  obtain⟨f0,f1,f2,f3,f4,f5⟩:=hf it (by simp)
  exact wpAny_pyNext_range_end (I.ok.hd hc) st (by have:n<=i:=hg;omega) fun h' eb=>⟨rfl,I.turned (t':=s.toks) (fun b o hb e=>eb b o hb e) f0 f1 f3 f4 f5⟩
 self:=fun _ _ _ _ _ st h=>wpAny_pyIter_rangeiter st h
end L2
namespace L2
open PySem PySem.Spec PyProof.Rows
section
variable {X:Cx}{tg:Expr}
noncomputable def iList (K:PySem.W.Frag)(tl:TE):TI:=fun σ H R=>tl σ H fun x H1=>∃a,x = .ref a/\(∃xs,SqL K H1 a xs)/\R (Itl K a) H1
noncomputable def iTup (K:PySem.W.Frag)(tl:TE):TI:=fun σ H R=>tl σ H fun x H1=>∃a,x = .ref a/\(∃xs,SqT K H1 a xs)/\R (Itt K a) H1
theorem zB3 {l:Expr}{tl:TE}(hl:PE X l tl):PI X tg l (iList X.K tl):=by
 intro pins s σ H R I h
 refine thn (hl pins s σ H _ I h) fun v s1 ⟨x,H1,I1,r1,q1⟩=>?_
 obtain⟨a,e,⟨xs,hq⟩,q⟩:=q1
 subst e
 cases r1
 obtain⟨its,rv,p,hz⟩:=I1.list hq
 refine wpAny_pyIter_list p.isList ?_
 refine⟨s1.heap.objs.size,[s1.heap.objs.size],_,_,H1,rfl,I1.kept (t':=s1.toks) fun b o e=>zE _ e,zIA a _,⟨_,zK _ rfl,rfl,rfl⟩,fun b hb=>?_,q⟩
 have e:b=s1.heap.objs.size:=by simpa using hb
 subst e
 exact I1.fpOk (zG _) (I1.hok.fresh (zG _))
theorem zCf {l:Expr}{tl:TE}(hl:PE X l tl):PI X tg l (iTup X.K tl):=by
 intro pins s σ H R I h
 refine thn (hl pins s σ H _ I h) fun v s1 ⟨x,H1,I1,r1,q1⟩=>?_
 obtain⟨a,e,⟨xs,hq⟩,q⟩:=q1
 subst e
 cases r1
 obtain⟨its,rv,p,hz⟩:=I1.tuple hq
 refine wpAny_pyIter_tuple (show s1.heap.IsTuple a its.toArray from p) ?_
 refine⟨s1.heap.objs.size,[s1.heap.objs.size],_,_,H1,rfl,I1.kept (t':=s1.toks) fun b o e=>zE _ e,zHY a _,⟨_,zK _ rfl,rfl,rfl⟩,fun b hb=>?_,q⟩
 have e:b=s1.heap.objs.size:=by simpa using hb
 subst e
 exact I1.fpOk (zG _) (I1.hok.fresh (zG _))
theorem zG4 {pins:List (Addr×Obj)}{σ:St}{H:Hp}{s:Shared}{R:It->Hp->Prop}{E:Value->Shared->Prop}{lo hi:Int}{t u v:Tok}{tk:Nat}(I:Inv X pins σ H s)(h1 : -(2 ^ 62)<=lo)(h2:lo<2 ^ 62)(h3 : -(2 ^ 62)<=hi)(h4:hi<2 ^ 62)
 (q:R (Itr lo (hi-lo).toNat) H):wpAny (model X.prog X.w) X.A (pyIter (.ref s.heap.objs.size)) (PIE X pins σ tg R) E { s with heap:=s.heap.push { cls:=.type "range",data:=.fields #[.int lo t,.int hi u,.int 1 v] },toks:=tk }:=by
 refine wpAny_pyIter_range (IsRange.new ..) (small_one h1 h2 h3 h4) ?_
 have I1:Inv X pins σ H { s with heap:=s.heap.push { cls:=.type "range",data:=.fields #[.int lo t,.int hi u,.int 1 v] },toks:=tk }:=I.kept fun b o e=>zE _ e
 refine⟨(s.heap.push { cls:=.type "range",data:=.fields #[.int lo t,.int hi u,.int 1 v] }).objs.size,[(s.heap.push { cls:=.type "range",data:=.fields #[.int lo t,.int hi u,.int 1 v] }).objs.size],_,_,H,rfl,
  I1.kept (t':=tk) fun b o e=>zE _ e,zHZ _ lo (hi-lo).toNat,?_,fun b hb=>?_,q⟩
 . have e1:lo+((0:Nat):Int)*1=lo:=by simp
   have e2:(((hi-lo).toNat:Nat):Int)-((0:Nat):Int)=Builtin.Range.rangeSize lo hi 1:=by rw[rangeSize_one];split <;> omega
   show IsRangeIter _ _ (lo+((0:Nat):Int)*1) ((((hi-lo).toNat:Nat):Int)-((0:Nat):Int)) 1
   rw[e1,e2]
   exact zK _ rfl
 . have e:b=(s.heap.push { cls:=.type "range",data:=.fields #[.int lo t,.int hi u,.int 1 v] }).objs.size:=by simpa using hb
   subst e
   exact I1.fpOk (zG _) (I1.hok.fresh (zG _))
noncomputable def iRng1 (ta:TA):TI:=fun σ H R=>ta σ H fun vs H1=>∃j:Int,vs=[.int j] /\ -(2 ^ 62)<=j/\j<2 ^ 62/\R (Itr 0 j.toNat) H1
noncomputable def iRng2 (ta:TA):TI:=fun σ H R=>ta σ H fun vs H1=>∃i j:Int,vs=[.int i,.int j]/\(-(2 ^ 62)<=i/\i<2 ^ 62 /\ -(2 ^ 62)<=j/\j<2 ^ 62)/\R (Itr i (j-i).toNat) H1
theorem zCU {a:Expr}{ta:TA}{p pos:Pos}(hg:Gl X "range") (hm:X.mg "range" = none) (ha:PA X [a] ta)(hs:starEach [a] X.env=[(false,eval a X.env)]:=by rfl):PI X tg (.Call (.Name "range" p) [a] [] pos) (iRng1 ta):=by
 intro pins s σ H R I h
 refine Call_ (zCc I hg hm boot_range (PyProof.Rows.callWith_type1 (thn (ha pos pins s σ H _ I h) fun us s1 ⟨vs,H1,I1,r1,q1⟩=>?_) hs rfl))
 obtain⟨j,e,q1,q2,q⟩:=q1
 subst e
 cases r1 with
 | cons r rr=>
  cases rr
  obtain⟨t,rfl⟩:=r
  exact call_range_1 (zG4 I1 (by omega) (by omega) q1 q2 (by simpa using q))
theorem zDz {a b:Expr}{ta:TA}{p pos:Pos}(hg:Gl X "range") (hm:X.mg "range" = none) (ha:PA X [a,b] ta)(hs:starEach [a,b] X.env=[(false,eval a X.env),(false,eval b X.env)]:=by rfl)(hs2:starEach [b] X.env=[(false,eval b X.env)]:=by rfl) :
 PI X tg (.Call (.Name "range" p) [a,b] [] pos) (iRng2 ta):=by
 intro pins s σ H R I h
 refine Call_ (zCc I hg hm boot_range (PyProof.Rows.callWith_type1 (thn (ha pos pins s σ H _ I h) fun us s1 ⟨vs,H1,I1,r1,q1⟩=>?_) (by rw[hs,hs2]) (by rw[hs2];rfl)))
 obtain⟨i,j,e,⟨q1,q2,q3,q4⟩,q⟩:=q1
 subst e
 cases r1 with
 | cons r rr=>
  cases rr with
  | cons r' rr=>
   cases rr
   obtain⟨t,rfl⟩:=r
   obtain⟨t',rfl⟩:=r'
   exact call_range_2 (zG4 I1 q1 q2 q3 q4 q)
noncomputable def tFor (wi:TI)(g:TG)(tb:TS):TS:=fun D σ H=>wi σ H fun J H1=>∃W:Nat->Nat->St->Hp->Prop,(∃m,W 0 m σ H1)/\∀i m σ H,W i m σ H ->
 (J.stop i H/\D.nx σ H)\/(J.go i H/\∃N:St->Hp->Prop,(∀ σ' H',N σ' H'->∃m',m'<m/\W (i+1) m' σ' H')/\∀x H',J.yld i H x H'->g x σ H' fun σ2 H2=>tb { D with nx:=N,ct:=N,bk:=D.nx } σ2 H2)
noncomputable def zFk (fp:List Addr)(h:Heap):List (Addr×Obj):=fp.filterMap fun b=>(h.get? b).map fun o=>(b,o)
theorem zCp {fp:List Addr}{h:Heap}{b:Addr}{o:Obj}(hb:b∈fp)(e:h.get? b=some o):(b,o)∈zFk fp h:=List.mem_filterMap.mpr ⟨b,hb,by rw[e];rfl⟩
theorem zIo {fp:List Addr}{h:Heap}{p:Addr×Obj}(hp:p∈zFk fp h):p.1∈fp/\h.get? p.1=some p.2:=by
 obtain⟨b,hb,e⟩:=List.mem_filterMap.mp hp
 cases q:h.get? b with
 | none=>rw[q] at e;cases e
 | some o=>
  rw[q] at e
  have e':(b,o)=p:=za e
  subst e'
  exact⟨hb,q⟩
theorem Inv.pinned {pins:List (Addr×Obj)}{σ:St}{H:Hp}{s:Shared}{fp:List Addr}(I:Inv X pins σ H s)(hf:∀b∈fp,zEN X pins H b)(ho:∀b∈fp,∃o,s.heap.get? b=some o/\∀v,o.data ≠ .cell v):Inv X (pins++zFk fp s.heap) σ H s:=
 I.pins_of fun p hp=>(zQ.mp hp).elim (fun z=>I.pin p (zAE _ z)) fun z=>by
  obtain⟨hb,e⟩:=zIo z
  obtain⟨f0,f1,f2,_⟩:=hf p.1 hb
  obtain⟨o,e',d⟩:=ho p.1 hb
  rw[e] at e';cases e'
  exact⟨e,f0,f1,f2,d⟩
theorem Inv.unpinned {pins pl:List (Addr×Obj)}{σ:St}{H:Hp}{s:Shared}(I:Inv X (pins++pl) σ H s):Inv X pins σ H s:=I.pins_of fun p hp=>I.pin p (zAE _ (zu _ hp))
theorem zCJ {iter:Expr}{body:List Stmt}{wi:TI}{g:TG}{tb:TS}{pos:Pos}(hp:PassesOwn (model X.prog X.w) X.A X.env X.xe)(hc:X.calm=true)(hi:PI X tg iter wi)(hg:PG X tg g)(hb:PSs X body tb)
 (hs:∀x,foldedSetIterable iter X.env x=pure x:=by intro _;rfl):PS X (.For tg iter body [] pos) (tFor wi g tb):=by
 intro pins s σ H D I h
 refine wpAny_For (thn (hi pins s σ H _ I h) fun v s1 h1=>thn h1 fun itv s2 h2=>?_) hs
 obtain⟨it,fp,tn,J,H2,e,I2,T,st2,f2,W,⟨m0,w0⟩,turn⟩:=h2
 subst e
 have stat:∀{H':Hp},(∀b∈fp,H' b=none)->∀b∈fp,zEN X pins H' b:=fun hn b hb=>⟨hn b hb,(f2 b hb).2⟩
 refine codeAny_forLoop_any (fun n s'=>∃i σ' H',Inv X pins σ' H' s'/\tn i s'.heap/\(∀b∈fp,H' b=none)/\W i n σ' H') ?_ m0 ⟨0,σ,H2,I2,st2,fun b hb=>(f2 b hb).1,w0⟩
 rintro n s3 ⟨i,σ3,H3,I3,st3,fr3,w3⟩
 rcases turn i n σ3 H3 w3 with ⟨stop,qn⟩ | ⟨go,N,hN,step⟩
 . refine wpAny_passesOwn hp (thn (T.done X rfl rfl rfl hc i pins s3 σ3 H3 X.xe I3 (stat fr3) st3 stop) fun r s4 ⟨hr,I4⟩=>?_)
   subst hr
   exact wpAny_execs_nil ⟨σ3,H3,I4,qn⟩
 . refine wpAny_passesOwn hp (thn (T.item X rfl rfl rfl hc i pins s3 σ3 H3 X.xe I3 (stat fr3) st3 go) fun r s4 ⟨u,hr,h4⟩=>?_)
   subst hr
   refine wpAny_passesOwn hp (thn h4 fun _ s5 ⟨x,H5,I5,r5,y5,st5,fr5⟩=>?_)
   have I5':=I5.pinned (stat fr5) (T.obj _ _ st5)
   refine wpAny_passesOwn hp (thn (hg _ s5 σ3 H5 x u _ I5' r5 (step x H5 y5)) fun _ s6 ⟨σ6,H6,I6,q6⟩=>?_)
   refine wpAny_passesOwn hp (thn (hb _ s6 σ6 H6 _ I6 q6) fun f s7 q7=>?_)
   have again:∀{σ7:St}{H7:Hp},Inv X (pins++zFk fp s5.heap) σ7 H7 s7->N σ7 H7->∃m,m<n/\∃i σ' H',Inv X pins σ' H' s7/\tn i s7.heap/\(∀b∈fp,H' b=none)/\W i m σ' H':=fun {σ7 H7} I7 n7=>by
    obtain⟨m',hm,w7⟩:=hN σ7 H7 n7
    refine⟨m',hm,i+1,σ7,H7,I7.unpinned,T.keep _ _ _ st5 fun b hb o e=>(I7.pin (b,o) (zAE _ (zAE _ (zCp hb e)))).1,fun b hb=>?_,w7⟩
    obtain⟨o,e,d⟩:=T.obj _ _ st5 b hb
    exact (I7.pin (b,o) (zAE _ (zAE _ (zCp hb e)))).2.1
   cases f with
   | next=>obtain⟨σ7,H7,I7,n7⟩:=q7;exact again I7 n7
   | cont=>obtain⟨σ7,H7,I7,n7⟩:=q7;exact again I7 n7
   | brk=>obtain⟨σ7,H7,I7,q7⟩:=q7;exact⟨σ7,H7,I7.unpinned,q7⟩
   | ret v=>obtain⟨x7,σ7,H7,I7,r7,q7⟩:=q7;exact⟨x7,σ7,H7,I7.unpinned,r7,q7⟩
end
theorem zHE {K:PySem.W.Frag}{a:Addr}{xs:List V}{g:TG}{tb:TS}{D:zH7}{σ:St}{H:Hp}(Pv:Nat->St->Hp->Prop)(h0:Pv 0 σ H)(hl:∀i σ H,i<=xs.length->Pv i σ H->SqL K H a xs)
 (hs:∀i x σ H,xs[i]? = some x->Pv i σ H->g x σ H fun σ2 H2=>tb { D with nx:=Pv (i+1),ct:=Pv (i+1),bk:=D.nx } σ2 H2)(hd:∀ σ H,Pv xs.length σ H->D.nx σ H) :
 ∃W:Nat->Nat->St->Hp->Prop,(∃m,W 0 m σ H)/\∀i m σ H,W i m σ H ->
  ((Itl K a).stop i H/\D.nx σ H)\/((Itl K a).go i H/\∃N:St->Hp->Prop,(∀ σ' H',N σ' H'->∃m',m'<m/\W (i+1) m' σ' H')/\∀x H',(Itl K a).yld i H x H'->g x σ H' fun σ2 H2=>tb { D with nx:=N,ct:=N,bk:=D.nx } σ2 H2):=by
 refine⟨fun i m σ H=>m=xs.length-i/\i<=xs.length/\Pv i σ H,⟨xs.length,by simp,zk _,h0⟩,?_⟩
 rintro i m σ H ⟨rfl,hi,p⟩
 have q:=hl i σ H hi p
 by_cases hlt:i<xs.length
 . refine .inr ⟨⟨xs,xs[i],q,by simp[hlt]⟩,Pv (i+1),fun σ' H' p'=>⟨xs.length-(i+1),by omega,rfl,hlt,p'⟩,fun x H' y=>?_⟩
   obtain⟨e,y⟩:=y
   subst e
   exact hs i x σ _ (y xs q) p
 . have e:i=xs.length:=by omega
   subst e
   exact .inl ⟨⟨xs,q,zG _⟩,hd σ H p⟩
theorem zC5 {K:PySem.W.Frag}{a:Addr}{xs:List V}{g:TG}{tb:TS}{D:zH7}{σ:St}{H:Hp}(Pv:Nat->St->Hp->Prop)(h0:Pv 0 σ H)(hl:∀i σ H,i<=xs.length->Pv i σ H->SqT K H a xs)
 (hs:∀i x σ H,xs[i]? = some x->Pv i σ H->g x σ H fun σ2 H2=>tb { D with nx:=Pv (i+1),ct:=Pv (i+1),bk:=D.nx } σ2 H2)(hd:∀ σ H,Pv xs.length σ H->D.nx σ H) :
 ∃W:Nat->Nat->St->Hp->Prop,(∃m,W 0 m σ H)/\∀i m σ H,W i m σ H ->
  ((Itt K a).stop i H/\D.nx σ H)\/((Itt K a).go i H/\∃N:St->Hp->Prop,(∀ σ' H',N σ' H'->∃m',m'<m/\W (i+1) m' σ' H')/\∀x H',(Itt K a).yld i H x H'->g x σ H' fun σ2 H2=>tb { D with nx:=N,ct:=N,bk:=D.nx } σ2 H2):=by
 refine⟨fun i m σ H=>m=xs.length-i/\i<=xs.length/\Pv i σ H,⟨xs.length,by simp,zk _,h0⟩,?_⟩
 rintro i m σ H ⟨rfl,hi,p⟩
 have q:=hl i σ H hi p
 by_cases hlt:i<xs.length
 . refine .inr ⟨⟨xs,xs[i],q,by simp[hlt]⟩,Pv (i+1),fun σ' H' p'=>⟨xs.length-(i+1),by omega,rfl,hlt,p'⟩,fun x H' y=>?_⟩
   obtain⟨e,y⟩:=y
   subst e
   exact hs i x σ _ (y xs q) p
 . have e:i=xs.length:=by omega
   subst e
   exact .inl ⟨⟨xs,q,zG _⟩,hd σ H p⟩
theorem zCi {lo:Int}{n:Nat}{g:TG}{tb:TS}{D:zH7}{σ:St}{H:Hp}(Pv:Nat->St->Hp->Prop)(h0:Pv 0 σ H)
 (hs:∀i σ H,i<n->Pv i σ H->g (.int (lo+i)) σ H fun σ2 H2=>tb { D with nx:=Pv (i+1),ct:=Pv (i+1),bk:=D.nx } σ2 H2)(hd:∀ σ H,Pv n σ H->D.nx σ H) :
 ∃W:Nat->Nat->St->Hp->Prop,(∃m,W 0 m σ H)/\∀i m σ H,W i m σ H ->
  ((Itr lo n).stop i H/\D.nx σ H)\/((Itr lo n).go i H/\∃N:St->Hp->Prop,(∀ σ' H',N σ' H'->∃m',m'<m/\W (i+1) m' σ' H')/\∀x H',(Itr lo n).yld i H x H'->g x σ H' fun σ2 H2=>tb { D with nx:=N,ct:=N,bk:=D.nx } σ2 H2):=by
 refine⟨fun i m σ H=>m=n-i/\i<=n/\Pv i σ H,⟨n,by simp,zk _,h0⟩,?_⟩
 rintro i m σ H ⟨rfl,hi,p⟩
 by_cases hlt:i<n
 . refine .inr ⟨hlt,Pv (i+1),fun σ' H' p'=>⟨n-(i+1),by omega,rfl,hlt,p'⟩,fun x H' y=>?_⟩
   obtain⟨e,y⟩:=y
   subst e y
   exact hs i σ _ hlt p
 . have e:i=n:=by omega
   subst e
   exact .inl ⟨zG _,hd σ H p⟩
end L2
namespace L2
open PySem PySem.Spec PyProof.Rows
noncomputable abbrev R2:=V->V->Hp->VK->Prop
noncomputable def OpR (X:Cx)(f:Value->Value->Sem Value)(r:R2):Prop:=
 ∀(pins:List (Addr×Obj))(s:Shared)(σ:St)(H:Hp)(x y:V)(v u:Value)(Q:VK),Inv X pins σ H s->zBe x v->zBe y u->r x y H Q ->
  wpAny (model X.prog X.w) X.A (f v u) (EP X pins σ Q) X.xe s
noncomputable def UnR (X:Cx)(f:Value->Sem Value)(r:V->Hp->VK->Prop):Prop:=
 ∀(pins:List (Addr×Obj))(s:Shared)(σ:St)(H:Hp)(x:V)(v:Value)(Q:VK),Inv X pins σ H s->zBe x v->r x H Q ->
  wpAny (model X.prog X.w) X.A (f v) (EP X pins σ Q) X.xe s
noncomputable def zCd (X:Cx)(f:Value)(r:List V->Hp->VK->Prop):Prop:=
 ∀(pins:List (Addr×Obj))(s:Shared)(σ:St)(H:Hp)(xs:List V)(us:List Value)(Q:VK),Inv X pins σ H s->zBK xs us->r xs H Q ->
  wpAny (model X.prog X.w) X.A (call f us) (EP X pins σ Q) X.xe s
noncomputable def TruR (X:Cx)(r:V->Hp->(Bool->Hp->Prop)->Prop):Prop:=
 ∀(pins:List (Addr×Obj))(s:Shared)(σ:St)(H:Hp)(x:V)(v:Value)(Q:Bool->Hp->Prop),Inv X pins σ H s->zBe x v->r x H Q ->
  wpAny (model X.prog X.w) X.A (truthy v) (TP X pins σ Q) X.xe s
noncomputable def tOp (r:R2)(ta tb:TE):TE:=fun σ H Q=>ta σ H fun x H1=>tb σ H1 fun y H2=>r x y H2 Q
noncomputable def tUn (r:V->Hp->VK->Prop)(ta:TE):TE:=fun σ H Q=>ta σ H fun x H1=>r x H1 Q
noncomputable def rI (C:Int->Int->Prop)(g:Int->Int->V):R2:=fun x y H Q=>∃i j,x = .int i/\y = .int j/\C i j/\Q (g i j) H
noncomputable def rI0 (g:Int->Int->V):R2:=fun x y H Q=>∃i j,x = .int i/\y = .int j/\Q (g i j) H
noncomputable def rU (g:Int->V):V->Hp->VK->Prop:=fun x H Q=>∃i,x = .int i/\Q (g i) H
section
variable {X:Cx}{a b c:Expr}{ta tb tc:TE}{pos:Pos}
theorem binT (ha:PE X a ta)(hb:PE X b tb){pins:List (Addr×Obj)}{s:Shared}{σ:St}{H:Hp}{R:V->V->Hp->Prop}(I:Inv X pins σ H s)
 (h:ta σ H fun x H1=>tb σ H1 fun y H2=>R x y H2){Q:Value->Shared->Prop}{f:Value->Value->Sem Value}
 (hf:∀v u s2 x y H2,Inv X pins σ H2 s2->zBe x v->zBe y u->R x y H2->wpAny (model X.prog X.w) X.A (f v u) Q X.xe s2) :
 wpAny (model X.prog X.w) X.A (eval a X.env) (fun v s₁=>wpAny (model X.prog X.w) X.A (eval b X.env) (fun u s₂=>wpAny (model X.prog X.w) X.A (f v u) Q X.xe s₂) X.xe s₁) X.xe s:=by
 refine thn (ha pins s σ H _ I h) fun v s1 ⟨x,H1,I1,r1,q1⟩=>?_
 refine thn (hb pins s1 σ H1 _ I1 q1) fun u s2 ⟨y,H2,I2,r2,q2⟩=>?_
 exact hf v u s2 x y H2 I2 r1 r2 q2
theorem zBP {op:Operator}{r:R2}(ho:OpR X (binaryOp op) r)(ha:PE X a ta)(hb:PE X b tb):PE X (.BinOp a op b pos) (tOp r ta tb):=by
 intro pins s σ H Q I h
 exact wpAny_BinOp (binT ha hb I h fun v u s2 x y H2 I2 rx ry q=>ho pins s2 σ H2 x y v u Q I2 rx ry q)
theorem pe_un {op:UnaryOp}{r:V->Hp->VK->Prop}(ho:UnR X (unaryOp op) r)(ha:PE X a ta):PE X (.UnaryOp op a pos) (tUn r ta):=by
 intro pins s σ H Q I h
 exact UnaryOp_ (thn (ha pins s σ H _ I h) fun v s1 ⟨x,H1,I1,r1,q1⟩=>ho pins s1 σ H1 x v Q I1 r1 q1)
theorem opI {f:Value->Value->Sem Value}{C:Int->Int->Prop}{g:Int->Int->Int}
 (rule:∀(i j:Int)(t u:Tok)(s:Shared)(Q:Value->Shared->Prop)(E:Value->Shared->Prop),C i j->Q (.int (g i j) s.toks) { s with toks:=s.toks+1 }->wpAny (model X.prog X.w) X.A (f (.int i t) (.int j u)) Q E s) :
 OpR X f (rI C fun i j=>.int (g i j)):=by
 intro pins s σ H x y v u Q I rx ry h
 obtain⟨i,j,rfl,rfl,hc,q⟩:=h
 obtain⟨t,rfl⟩:=rx
 obtain⟨t',rfl⟩:=ry
 exact rule i j t t' s _ _ hc ⟨.int (g i j),H,I.tok _,⟨_,rfl⟩,q⟩
theorem opI0 {f:Value->Value->Sem Value}{g:Int->Int->Int}
 (rule:∀(i j:Int)(t u:Tok)(s:Shared)(Q:Value->Shared->Prop)(E:Value->Shared->Prop),Q (.int (g i j) s.toks) { s with toks:=s.toks+1 }->wpAny (model X.prog X.w) X.A (f (.int i t) (.int j u)) Q E s) :
 OpR X f (rI0 fun i j=>.int (g i j)):=by
 intro pins s σ H x y v u Q I rx ry h
 obtain⟨i,j,rfl,rfl,q⟩:=h
 obtain⟨t,rfl⟩:=rx
 obtain⟨t',rfl⟩:=ry
 exact rule i j t t' s _ _ ⟨.int (g i j),H,I.tok _,⟨_,rfl⟩,q⟩
theorem opB0 {f:Value->Value->Sem Value}{g:Int->Int->Bool}
 (rule:∀(i j:Int)(t u:Tok)(s:Shared)(Q:Value->Shared->Prop)(E:Value->Shared->Prop),Q (.bool (g i j)) s->wpAny (model X.prog X.w) X.A (f (.int i t) (.int j u)) Q E s) :
 OpR X f (rI0 fun i j=>.bl (g i j)):=by
 intro pins s σ H x y v u Q I rx ry h
 obtain⟨i,j,rfl,rfl,q⟩:=h
 obtain⟨t,rfl⟩:=rx
 obtain⟨t',rfl⟩:=ry
 exact rule i j t t' s _ _ ⟨.bl (g i j),H,I,rfl,q⟩
noncomputable def CDiv (i j:Int):Prop:=0<j/\j<1073741824
noncomputable def CPow (i j:Int):Prop:=0<=j/\j<=1000000/\i.natAbs<2 ^ 64
noncomputable def CMul (i j:Int):Prop:=(-(2 ^ 64)<i/\i<2 ^ 64)\/(-(2 ^ 64)<j/\j<2 ^ 64)
theorem CMul.ok {i j:Int}(h:CMul i j):IntMulOk i j:=by
 rcases h with ⟨h1,h2⟩ | ⟨h1,h2⟩
 . exact .of_left (intBits_le_64 h1 h2)
 . exact .of_right (intBits_le_64 h1 h2)
theorem zCh:OpR X (binaryOp .Add) (rI0 fun i j=>.int (i+j)):=opI0 fun _ _ _ _ _ _ _ q=>add_int q
theorem zD2:OpR X (binaryOp .Sub) (rI0 fun i j=>.int (i-j)):=opI0 fun _ _ _ _ _ _ _ q=>sub_int q
theorem zFo:OpR X (binaryOp .Mult) (rI CMul fun i j=>.int (i*j)):=opI fun _ _ _ _ _ _ _ hc q=>mul_int q hc.ok
theorem zD5:OpR X (binaryOp .FloorDiv) (rI CDiv fun i j=>.int (i/j)):=opI fun i j _ _ _ _ _ hc q=>by
 have h1:(0:Int)<j:=hc.1
 have h2:j<1073741824:=hc.2
 exact floordiv_int (by omega) (by rw[Int.fdiv_eq_ediv_of_nonneg i (by omega)];exact q) (.inl (PyProof.noPylong_small (by omega)))
theorem zD3:OpR X (binaryOp .Mod) (rI (fun _ j=>0<j) fun i j=>.int (i%j)):=opI fun i j _ _ _ _ _ hc q=>by
 have h1:(0:Int)<j:=hc
 exact mod_int' (by omega) (by rw[Int.fmod_eq_emod_of_nonneg i (by omega)];exact q)
theorem op_pow:OpR X (binaryOp .Pow) (rI CPow fun i j=>.int (i ^ j.toNat)):=opI fun _ _ _ _ _ _ _ hc q=>pow_int_small hc.1 hc.2.1 hc.2.2 q
theorem unI {f:Value->Sem Value}{g:Int->Int}
 (rule:∀(i:Int)(t:Tok)(s:Shared)(Q:Value->Shared->Prop)(E:Value->Shared->Prop),Q (.int (g i) s.toks) { s with toks:=s.toks+1 }->wpAny (model X.prog X.w) X.A (f (.int i t)) Q E s) :
 UnR X f (rU fun i=>.int (g i)):=by
 intro pins s σ H x v Q I rx h
 obtain⟨i,rfl,q⟩:=h
 obtain⟨t,rfl⟩:=rx
 exact rule i t s _ _ ⟨.int (g i),H,I.tok _,⟨_,rfl⟩,q⟩
theorem un_neg:UnR X (unaryOp .USub) (rU fun i=>.int (-i)):=unI fun _ _ _ _ _ q=>neg_int q
end
noncomputable def scal:V->V->Bool
 | .non,.non=>true | .non,.int _=>true | .int _,.non=>true | .non,.bl _=>true | .bl _,.non=>true | .non,.str _=>true | .str _,.non=>true
 | .int _,.int _=>true | .bl _,.bl _=>true | .str _,.str _=>true | .byt _,.byt _=>true
 | .int _,.str _=>true | .str _,.int _=>true | .bl _,.str _=>true | .str _,.bl _=>true
 | _,_=>false
noncomputable def rEq:R2:=fun x y H Q=>scal x y=true/\Q (.bl (decide (x=y))) H
noncomputable def rNe:R2:=fun x y H Q=>scal x y=true/\Q (.bl (!decide (x=y))) H
theorem zJF {i j:Int}:decide (V.int i=V.int j)=(i==j):=by
 rw[Bool.eq_iff_iff]
 simp
theorem zKu {i j:Bool}:decide (V.bl i=V.bl j)=(i==j):=by
 rw[Bool.eq_iff_iff]
 simp
theorem zJE {i j:Str}:decide (V.str i=V.str j)=(i==j):=by
 rw[Bool.eq_iff_iff]
 simp
theorem zJG {i j:Array UInt8}:decide (V.byt i=V.byt j)=(i.toList==j.toList):=by
 rw[Bool.eq_iff_iff]
 cases i
 cases j
 simp
section
variable {X:Cx}{a b c:Expr}{ta tb tc:TE}{pos:Pos}
theorem zA5 {pins:List (Addr×Obj)}{σ:St}{H:Hp}{s:Shared}{Q:VK}{k k':Bool}(I:Inv X pins σ H s)(q:Q (.bl k) H)(e:k=k'):EP X pins σ Q (.bool k') s:=by
 subst e
 exact⟨.bl k,H,I,rfl,q⟩
theorem zD6:OpR X (compareOp .Eq) rEq:=by
 intro pins s σ H x y v u Q I rx ry h
 obtain⟨hs,q⟩:=h
 cases x with
 | non=>
  cases rx
  cases y with
  | non=>cases ry;exact PySem.EqNone.eq_none_none (zA5 I q (by simp))
  | bl j=>cases ry;exact PySem.EqNone.eq_none_bool (zA5 I q (by simp))
  | int j=>obtain⟨t',rfl⟩:=ry;exact PySem.EqNone.eq_none_int (zA5 I q (by simp))
  | str j=>obtain⟨t',rfl⟩:=ry;exact PySem.EqNone.eq_none_str (zA5 I q (by simp))
  | _=>exact absurd (show false=true from hs) zh
 | bl i=>
  cases rx
  cases y with
  | non=>cases ry;exact PySem.EqNone.eq_bool_none (zA5 I q (by simp))
  | bl j=>cases ry;exact eq_bool (zA5 I q zKu)
  | str j=>obtain⟨t',rfl⟩:=ry;exact PySem.EqMixed.eq_bool_str (zA5 I q (by simp))
  | _=>exact absurd (show false=true from hs) zh
 | int i=>
  obtain⟨t,rfl⟩:=rx
  cases y with
  | non=>cases ry;exact PySem.EqNone.eq_int_none (zA5 I q (by simp))
  | int j=>obtain⟨t',rfl⟩:=ry;exact eq_int (zA5 I q zJF)
  | str j=>obtain⟨t',rfl⟩:=ry;exact PySem.EqMixed.eq_int_str (zA5 I q (by simp))
  | _=>exact absurd (show false=true from hs) zh
 | str i=>
  obtain⟨t,rfl⟩:=rx
  cases y with
  | non=>cases ry;exact PySem.EqNone.eq_str_none (zA5 I q (by simp))
  | bl j=>cases ry;exact PySem.EqMixed.eq_str_bool (zA5 I q (by simp))
  | int j=>obtain⟨t',rfl⟩:=ry;exact PySem.EqMixed.eq_str_int (zA5 I q (by simp))
  | str j=>obtain⟨t',rfl⟩:=ry;exact eq_str (zA5 I q zJE)
  | _=>exact absurd (show false=true from hs) zh
 | byt i=>
  obtain⟨t,rfl⟩:=rx
  cases y with
  | byt j=>obtain⟨t',rfl⟩:=ry;exact PySem.W.eq_bytes (zA5 I q zJG)
  | _=>exact absurd (show false=true from hs) zh
 | _=>cases y <;> exact absurd (show false=true from hs) zh
theorem zHi:OpR X (compareOp .NotEq) rNe:=by
 intro pins s σ H x y v u Q I rx ry h
 obtain⟨hs,q⟩:=h
 cases x with
 | non=>
  cases rx
  cases y with
  | non=>cases ry;exact PySem.EqNone.ne_none_none (zA5 I q (by simp))
  | bl j=>cases ry;exact PySem.EqNone.ne_none_bool (zA5 I q (by simp))
  | int j=>obtain⟨t',rfl⟩:=ry;exact PySem.EqNone.ne_none_int (zA5 I q (by simp))
  | str j=>obtain⟨t',rfl⟩:=ry;exact PySem.EqNone.ne_none_str (zA5 I q (by simp))
  | _=>exact absurd (show false=true from hs) zh
 | bl i=>
  cases rx
  cases y with
  | non=>cases ry;exact PySem.EqNone.ne_bool_none (zA5 I q (by simp))
  | bl j=>cases ry;exact ne_bool (zA5 I q (congrArg not zKu))
  | str j=>obtain⟨t',rfl⟩:=ry;exact PySem.EqMixed.ne_bool_str (zA5 I q (by simp))
  | _=>exact absurd (show false=true from hs) zh
 | int i=>
  obtain⟨t,rfl⟩:=rx
  cases y with
  | non=>cases ry;exact PySem.EqNone.ne_int_none (zA5 I q (by simp))
  | int j=>obtain⟨t',rfl⟩:=ry;exact ne_int (zA5 I q (congrArg not zJF))
  | str j=>obtain⟨t',rfl⟩:=ry;exact PySem.EqMixed.ne_int_str (zA5 I q (by simp))
  | _=>exact absurd (show false=true from hs) zh
 | str i=>
  obtain⟨t,rfl⟩:=rx
  cases y with
  | non=>cases ry;exact PySem.EqNone.ne_str_none (zA5 I q (by simp))
  | bl j=>cases ry;exact PySem.EqMixed.ne_str_bool (zA5 I q (by simp))
  | int j=>obtain⟨t',rfl⟩:=ry;exact PySem.EqMixed.ne_str_int (zA5 I q (by simp))
  | str j=>obtain⟨t',rfl⟩:=ry;exact ne_str (zA5 I q (congrArg not zJE))
  | _=>exact absurd (show false=true from hs) zh
 | byt i=>
  obtain⟨t,rfl⟩:=rx
  cases y with
  | byt j=>obtain⟨t',rfl⟩:=ry;exact PySem.W.ne_bytes (zA5 I q (congrArg not zJG))
  | _=>exact absurd (show false=true from hs) zh
 | _=>cases y <;> exact absurd (show false=true from hs) zh
theorem zGX:OpR X (compareOp .Lt) (rI0 fun i j=>.bl (decide (i<j))):=opB0 fun _ _ _ _ _ _ _ q=>lt_int q
theorem zLU:OpR X (compareOp .LtE) (rI0 fun i j=>.bl (decide (i<=j))):=opB0 fun _ _ _ _ _ _ _ q=>le_int q
theorem zJ7:OpR X (compareOp .Gt) (rI0 fun i j=>.bl (decide (j<i))):=opB0 fun _ _ _ _ _ _ _ q=>gt_int q
theorem op_ge:OpR X (compareOp .GtE) (rI0 fun i j=>.bl (decide (j<=i))):=opB0 fun _ _ _ _ _ _ _ q=>ge_int q
theorem op_isN:OpR X (compareOp .Is) (fun x y H Q=>y = .non/\Q (.bl (decide (x = .non))) H):=by
 intro pins s σ H x y v u Q I rx ry h
 obtain⟨rfl,q⟩:=h
 cases ry
 refine is_none_gen (zA5 I q ?_)
 cases x <;> first
  | (cases rx;rfl)
  | (obtain⟨t,rfl⟩:=rx;rfl)
theorem zIi:OpR X (compareOp .IsNot) (fun x y H Q=>y = .non/\Q (.bl (!decide (x = .non))) H):=by
 intro pins s σ H x y v u Q I rx ry h
 obtain⟨rfl,q⟩:=h
 cases ry
 refine isnot_none_gen (zA5 I q ?_)
 cases x <;> first
  | (cases rx;rfl)
  | (obtain⟨t,rfl⟩:=rx;rfl)
theorem zAv (b:Expr){op:CmpOp}(h:op ≠ .In:=by decide)(h2:op ≠ .NotIn:=by decide):behindInMarks op b=false:=by
 have e1:(op==CmpOp.In)=false:=by cases op <;> first | rfl | exact absurd rfl h
 have e2:(op==CmpOp.NotIn)=false:=by cases op <;> first | rfl | exact absurd rfl h2
 cases b <;> simp[behindInMarks,e1,e2]
theorem zCC {op:CmpOp}{r:R2}(ho:OpR X (compareOp op) r)(ha:PE X a ta)(hb:PE X b tb)(hm:behindInMarks op b=false):PE X (.Compare a [op] [b] pos) (tOp r ta tb):=by
 intro pins s σ H Q I h
 exact wpAny_Compare1 (binT ha hb I h fun v u s2 x y H2 I2 rx ry q=>ho pins s2 σ H2 x y v u Q I2 rx ry q) hm
noncomputable def tTest (t:TE):TT:=fun σ H Q=>t σ H fun x H'=>∃k,x = .bl k/\Q k H'
theorem zAS {op:CmpOp}{r:R2}(ho:OpR X (compareOp op) r)(ha:PE X a ta)(hb:PE X b tb)(hm:behindInMarks op b=false):PT X (.Compare a [op] [b] pos) (tTest (tOp r ta tb)):=by
 intro pins s σ H Q I h
 refine wpAny_isTrue_Compare1 (thn (ha pins s σ H _ I h) fun v s1 ⟨x,H1,I1,r1,q1⟩=>thn (hb pins s1 σ H1 _ I1 q1) fun u s2 ⟨y,H2,I2,r2,q2⟩=>
  thn (ho pins s2 σ H2 x y v u _ I2 r1 r2 q2) fun c s3 ⟨z,H3,I3,r3,k,e,q3⟩=>?_) hm
 subst e
 cases r3
 exact zAq ⟨H3,I3,q3⟩
noncomputable def TruV (K:PySem.W.Frag)(x:V)(H:Hp)(k:Bool):Prop:=
 match x with
 | .non=>k=false
 | .bl b=>k=b
 | .int i=>k=(i != 0)
 | .str y=>y.length<=sizeLine/\k=((y.length:Int) != 0)
 | .byt y=>y.size<=sizeLine/\k=((y.size:Int) != 0)
 | .ref p=>(∃xs,SqL K H p xs/\k = !xs.isEmpty)\/(∃xs,SqT K H p xs/\k = !xs.isEmpty)\/∃kvs,H p=some (.dK kvs)/\k = !kvs.isEmpty
 | _=>False
theorem zHs {κ:Type}{kvs:List (κ×V)}{vs:List (κ×Value)}(r:KV kvs vs):(!vs.isEmpty) = !kvs.isEmpty:=by
 cases r <;> rfl
theorem zEj {xs:List V}{its:List Value}(r:zBK xs its):(!its.toArray.isEmpty) = !xs.isEmpty:=by
 cases r <;> simp
theorem zFq:(sizeLine:Nat)<2 ^ 63:=by rw[sizeLine_eq];decide
theorem tru_ok:TruR X (fun x H Q=>∃k,TruV X.K x H k/\Q k H):=by
 intro pins s σ H x v Q I rx h
 obtain⟨k,e,q⟩:=h
 have hl:=zFq
 have hs:sizeLine=16777216:=sizeLine_eq
 cases x with
 | non=>
  cases rx
  have e':k=false:=e
  subst e'
  exact truthy_none ⟨H,I,q⟩
 | bl b=>
  cases rx
  have e':k=b:=e
  subst e'
  exact zAq ⟨H,I,q⟩
 | int i=>
  obtain⟨t,rfl⟩:=rx
  have e':k=(i != 0):=e
  subst e'
  exact PySem.P.truthy_int ⟨H,I,q⟩
 | str y=>
  obtain⟨t,rfl⟩:=rx
  obtain⟨hy,e'⟩:y.length<=sizeLine/\k=((y.length:Int) != 0):=e
  subst e'
  exact PySem.P.truthy_str (by omega) ⟨H,I.tok _,q⟩
 | byt y=>
  obtain⟨t,rfl⟩:=rx
  obtain⟨hy,e'⟩:y.size<=sizeLine/\k=((y.size:Int) != 0):=e
  subst e'
  exact PySem.W.truthy_bytes (by omega) ⟨H,I.tok _,q⟩
 | ref p=>
  cases rx
  have e':(∃xs,SqL X.K H p xs/\k = !xs.isEmpty)\/(∃xs,SqT X.K H p xs/\k = !xs.isEmpty)\/∃kvs,H p=some (.dK kvs)/\k = !kvs.isEmpty:=e
  rcases e' with ⟨xs,hx,e'⟩ | ⟨xs,hx,e'⟩ | ⟨kvs,hx,e'⟩
  . subst e'
    obtain⟨its,r,pl,hz⟩:=I.list hx
    have hlen:=r.length
    exact wpAny_truthy_list pl.isList (by simp only[zS];omega) ⟨H,I.tok _,by rw[zEj r];exact q⟩
  . subst e'
    obtain⟨its,r,pl,hz⟩:=I.tuple hx
    have hlen:=r.length
    exact truthy_tuple pl (by simp only[zS];omega) ⟨H,I.tok _,by rw[zEj r];exact q⟩
  . subst e'
    obtain⟨hz,hS,vs,r,m⟩:kvs.length<=sizeLine/\(p==sysModules)=false/\∃vs,KV kvs vs/\s.heap.DictOf (zBj X.prog X.w) p vs:=I.hok p _ hx
    have hlen:kvs.length=vs.length:=Paired.length r
    exact wpAny_truthy_dict hS m (by omega) ⟨H,I.tok _,by rw[zHs r];exact q⟩
 | _=>exact (show False from e).elim
theorem zJ1 (ha:PE X a ta)(he:∀whole,isTrue a X.env whole=(do let v <-whole;standAt a.pos;holding [v] (truthy v))) :
 PT X a (fun σ H Q=>ta σ H fun x H'=>∃k,TruV X.K x H' k/\Q k H'):=by
 intro pins s σ H Q I h
 exact isTrue_plain (thn (ha pins s σ H _ I h) fun v s1 ⟨x,H1,I1,r1,q1⟩=>tru_ok pins s1 σ H1 x v Q I1 r1 q1) (he _)
theorem zDQ {x:V}{us:List Value}(r:zBK [x] us):∃u,us=[u]/\zBe x u:=by
 cases r with
 | cons r1 r2=>cases r2;exact⟨_,rfl,r1⟩
theorem zHW {x y:V}{us:List Value}(r:zBK [x,y] us):∃u w',us=[u,w']/\zBe x u/\zBe y w':=by
 cases r with
 | cons r1 r2=>
  cases r2 with
  | cons r3 r4=>cases r4;exact⟨_,_,rfl,r1,r3⟩
theorem zJU (hc:X.calm=true):zCd X (.builtin "max") (fun xs H Q=>∃i j,xs=[.int i,.int j]/\Q (.int (if j > i then j else i)) H):=by
 intro pins s σ H xs us Q I r h
 obtain⟨i,j,rfl,q⟩:=h
 obtain⟨u,w',rfl,⟨t,rfl⟩,⟨t',rfl⟩⟩:=zHW r
 refine max_two_ints (I.ok.hd hc) fun h' tk k=>⟨_,H,I.kept k,?_,q⟩
 by_cases hj:j > i
 . rw[if_pos hj,if_pos hj];exact⟨_,rfl⟩
 . rw[if_neg hj,if_neg hj];exact⟨_,rfl⟩
theorem zF9 (hc:X.calm=true):zCd X (.builtin "min") (fun xs H Q=>∃i j,xs=[.int i,.int j]/\Q (.int (if j<i then j else i)) H):=by
 intro pins s σ H xs us Q I r h
 obtain⟨i,j,rfl,q⟩:=h
 obtain⟨u,w',rfl,⟨t,rfl⟩,⟨t',rfl⟩⟩:=zHW r
 refine min_two_ints (I.ok.hd hc) fun h' tk k=>⟨_,H,I.kept k,?_,q⟩
 by_cases hj:j<i
 . rw[if_pos hj,if_pos hj];exact⟨_,rfl⟩
 . rw[if_neg hj,if_neg hj];exact⟨_,rfl⟩
end
end L2
namespace L2
open PySem PySem.Spec PyProof.Rows
structure ObjM (h:Heap)(x dx C:Addr)(mA:Str->Option Value):Prop where
 obj:h.get? x=some (PySem.W.instObj C dx)
 ns:h.Ns1 dx mA
 ne:dx≠x
theorem zIv {h:Heap}{dx:Addr}{mA:Str->Option Value}(n:h.Ns1 dx mA):∃od,h.get? dx=some od/\∀name,PySem.W.lookIn name od=some (mA name):=by
 obtain⟨o,es,ep,ho,hd,hk,_,hm⟩:=n
 refine⟨o,ho,fun name=>?_⟩
 have e:=hm name
 unfold nsFind findBy at e
 rw[<-Array.find?_toList] at e
 unfold PySem.W.lookIn
 rw[hd]
 dsimp only
 split
 . rename_i y q
   rw[q] at e
   exact congrArg some e
 . rename_i q
   rw[q] at e
   have a:es.toList.any (·.refKey)=false:=by
    rw[List.any_eq_false]
    intro y hy
    obtain⟨z,t,hkey⟩:=hk y (Array.mem_toList_iff.mp hy)
    simp[DictEntry.refKey,hkey]
   have a':¬ es.toList.any (·.refKey)=true:=by rw[a];exact zh
   rw[if_neg a']
   exact congrArg some e
theorem ObjM.look {h:Heap}{x dx C:Addr}{mA:Str->Option Value}(I:ObjM h x dx C mA):∃od,PySem.W.InstAt h x (PySem.W.instObj C dx) C (some od)/\∀name,PySem.W.lookIn name od=some (mA name):=
 let ⟨od,ho,hl⟩:=zIv I.ns
 ⟨od,⟨I.obj,rfl,rfl,ho⟩,hl⟩
section
variable {prog:Program}{w:World}{A:Around}{E:Value->Shared->Prop}{s:Shared}{K:PySem.W.Frag}{x dx C f:Addr}{mA:Str->Option Value}{name:Str}{v:Value}
end
noncomputable def zH6 (f:Str)(v:V):List (Str×V)->List (Str×V)
 | []=>[(f,v)]
 | (g,x)::r=>if g=f then (g,v)::r else (g,x)::zH6 f v r
theorem zD8 (f g:Str)(v:V):∀fs:List (Str×V),(zH6 f v fs).lookup g=if g=f then some v else fs.lookup g
 | []=>by
  show List.lookup g [(f,v)]=_
  by_cases h:g=f
  . have hb:(g==f)=true:=beq_iff_eq.mpr h
    simp only[List.lookup,hb,if_pos h]
  . have hb:(g==f)=false:=beq_eq_false_iff_ne.mpr h
    simp only[List.lookup,hb,if_neg h]
 | (k,x)::r=>by
  have ih:=zD8 f g v r
  rw[show zH6 f v ((k,x)::r)=(if k=f then (k,v)::r else (k,x)::zH6 f v r) from rfl]
  by_cases hk:k=f
  . rw[if_pos hk]
    by_cases h:g=k
    . have hb:(g==k)=true:=beq_iff_eq.mpr h
      simp only[List.lookup,hb,if_pos (h.trans hk)]
    . have hb:(g==k)=false:=beq_eq_false_iff_ne.mpr h
      simp only[List.lookup,hb,if_neg (fun e:g=f=>h (e.trans hk.symm))]
  . rw[if_neg hk]
    by_cases h:g=k
    . have hb:(g==k)=true:=beq_iff_eq.mpr h
      simp only[List.lookup,hb,if_neg (fun e:g=f=>hk (h.symm.trans e))]
    . have hb:(g==k)=false:=beq_eq_false_iff_ne.mpr h
      simp only[List.lookup,hb]
      exact ih
theorem zED (f:Str)(v:V):∀fs:List (Str×V),f∈(zH6 f v fs).map (·.1)/\∀g,g∈fs.map (·.1)->g∈(zH6 f v fs).map (·.1)
 | []=>⟨by simp[zH6],fun g h=>by simp at h⟩
 | (k,x)::r=>by
  obtain⟨i1,i2⟩:=zED f v r
  rw[show zH6 f v ((k,x)::r)=(if k=f then (k,v)::r else (k,x)::zH6 f v r) from rfl]
  by_cases hk:k=f
  . rw[if_pos hk]
    subst hk
    exact⟨by simp,fun g h=>by simpa using h⟩
  . rw[if_neg hk]
    refine⟨?_,fun g h=>?_⟩
    . rw[zAU]
      exact zO _ i1
    . rw[zAU] at h ⊢
      rcases zW.mp h with e | e
      . exact zW.mpr (.inl e)
      . exact zO _ (i2 g e)
theorem zGp.some_of {v:V}{o:Option Value}(r:zGp (some v) o):∃u,o=some u/\zBe v u:=by
 cases o with
 | none=>exact (show False from r).elim
 | some u=>exact⟨u,rfl,r⟩
section
variable {P:Program}{w:World}{H H':Hp}{h h':Heap}{a C dx:Addr}{fs fs':List (Str×V)}
theorem zLm (hok:HOk P w H h)(e:H a=some (.ins C dx fs)):∃mA,ObjM h a dx C mA/\(∀f,zGp (fs.lookup f) (mA f))/\PySem.Within mA (fs.map (·.1))/\fs.length<=1000/\H dx=some (.own a):=by
 obtain⟨d,z,ne,ob,mA,n,r,q⟩:=(show zBc P w H h a (.ins C dx fs) from hok a _ e)
 exact⟨mA,⟨ob,n,ne⟩,r,q,z,d⟩
end
structure Cls (K:PySem.W.Frag)(C:Addr):Prop where
 pg:PySem.W.plainGet K C Str.empty=true
 hd:PySem.W.hasDictIn K C=true
 po:PySem.W.plainOver K C=true
 sa:PySem.W.findIn K (.ref C) "__setattr__" = some (some (.builtin "object.__setattr__"))
theorem Cls.get {K:PySem.W.Frag}{C:Addr}(c:Cls K C)(f:Str):PySem.W.plainGet K C f=true:=c.pg
section
variable {X:Cx}{pins:List (Addr×Obj)}{σ:St}{H:Hp}{s:Shared}{a C dx:Addr}{fs:List (Str×V)}{f:Str}{v:V}{A:Around}{E:Value->Shared->Prop}
end
section
variable {X:Cx}{o e value:Expr}{f:Str}{pos pos' tpos:Pos}{ta tv:TE}
end
section
variable {X:Cx}{pins:List (Addr×Obj)}{σ:St}{H:Hp}{s:Shared}{A:Around}{E:Value->Shared->Prop}{Q:Value->Shared->Prop}{c:Value}{b:Bool}
inductive zH2 (K:PySem.W.Frag)(H:Hp):V->Value->Prop where
 | non:zH2 K H .non (.type "NoneType")
 | bl (x:Bool):zH2 K H (.bl x) (.type "bool")
 | int (i:Int):zH2 K H (.int i) (.type "int")
 | str (x:Str):zH2 K H (.str x) (.type "str")
 | flt (x:UInt64):zH2 K H (.flt x) (.type "float")
 | lst {a:Addr}{xs:List V}(e:H a=some (.lst xs)):zH2 K H (.ref a) (.type "list")
 | frz {a:Addr}{o:Obj}{xs:List V}(e:H a=some (.frz o (.lst xs))):zH2 K H (.ref a) (.type "list")
 | tup {a:Addr}{xs:List V}(e:H a=some (.tup xs)):zH2 K H (.ref a) (.type "tuple")
 | dK {a:Addr}{kvs:List (Key×V)}(e:H a=some (.dK kvs)):zH2 K H (.ref a) (.type "dict")
 | dT {a:Addr}{kvs:List (List Key×V)}(e:H a=some (.dT kvs)):zH2 K H (.ref a) (.type "dict")
 | ins {a C dx:Addr}{fs:List (Str×V)}(e:H a=some (.ins C dx fs))(cl:Cls K C)(ha:PySem.W.findIn K (.ref C) "__class__" = some (some (.builtin "object.__class__")))
  (hn:PySem.W.specialIn K (.builtin "object.__class__") "__get__" = some (some (.builtin "getset_descriptor.__get__"))) (htk:PySem.W.takesIn K (.builtin "object.__class__")=some true)
  (hm:PySem.W.mroIn K C (.type "object")=some true):zH2 K H (.ref a) (.ref C)
theorem zI3 {x:V}{u t:Value}(I:Inv X pins σ H s)(rx:zBe x u)(ty:zH2 X.K H x t)(e:PySem.W.kitOne X.K t c=some b)(h:∀tk,Q (.bool b) { s with toks:=tk }) :
 wpAny (model X.prog X.w) A (call (.builtin "isinstance") [u,c]) Q E s:=by
 cases ty with
 | non=>cases (show u=Value.none from rx);exact PySem.W.kia_one PySem.W.kitx_none I.kIn True.intro e (fun z=>nomatch z) h
 | bl y=>cases (show u=Value.bool y from rx);exact PySem.W.kia_one PySem.W.kitx_bool I.kIn True.intro e (fun z=>nomatch z) h
 | int i=>obtain⟨t,q⟩:=(show ∃t,u=Value.int i t from rx);cases q;exact PySem.W.kia_one PySem.W.kitx_int I.kIn True.intro e (fun z=>nomatch z) h
 | str y=>obtain⟨t,q⟩:=(show ∃t,u=Value.str y t from rx);cases q;exact PySem.W.kia_one PySem.W.kitx_str I.kIn True.intro e (fun z=>nomatch z) h
 | flt y=>obtain⟨t,q⟩:=(show ∃t,u=Value.float y t from rx);cases q;exact PySem.W.kia_one PySem.W.kitx_float I.kIn True.intro e (fun z=>nomatch z) h
 | @lst a xs ea=>
  cases (show u=Value.ref a from rx)
  obtain⟨_,_,n,_,h1⟩:=(show zBc X.prog X.w H s.heap a (.lst xs) from I.hok a _ ea)
  exact PySem.W.kia_one PySem.W.kitx_list I.kIn ⟨_,h1,rfl⟩ e (fun z=>nomatch z) h
 | @frz a ob xs ea=>
  cases (show u=Value.ref a from rx)
  obtain⟨_,_,_,n,_,h1⟩:=(show zBc X.prog X.w H s.heap a (.frz ob (.lst xs)) from I.hok a _ ea)
  exact PySem.W.kia_one PySem.W.kitx_list I.kIn ⟨_,h1,rfl⟩ e (fun z=>nomatch z) h
 | @tup a xs ea=>
  cases (show u=Value.ref a from rx)
  obtain⟨_,_,_,p⟩:=(show zBc X.prog X.w H s.heap a (.tup xs) from I.hok a _ ea)
  obtain⟨o,h1,h2,_⟩:=p
  exact PySem.W.kia_one PySem.W.kitx_tuple I.kIn ⟨o,h1,h2⟩ e (fun z=>nomatch z) h
 | @dK a kvs ea=>
  cases (show u=Value.ref a from rx)
  obtain⟨_,_,vs,_,p⟩:=(show zBc X.prog X.w H s.heap a (.dK kvs) from I.hok a _ ea)
  obtain⟨o,es,ep,h1,h2,_⟩:=p
  exact PySem.W.kia_one PySem.W.kitx_dict I.kIn ⟨o,h1,h2.1⟩ e (fun z=>nomatch z) h
 | @dT a kvs ea=>
  cases (show u=Value.ref a from rx)
  obtain⟨_,_,xs,_,o,es,ep,h1,h2,_⟩:=(show zBc X.prog X.w H s.heap a (.dT kvs) from I.hok a _ ea)
  exact PySem.W.kia_one PySem.W.kitx_dict I.kIn ⟨o,h1,h2.1⟩ e (fun z=>nomatch z) h
 | @ins a C dx fs ea cl ha hn htk hm=>
  cases (show u=Value.ref a from rx)
  obtain⟨mA,O,_⟩:=zLm I.hok ea
  obtain⟨od,J,_⟩:=O.look
  exact PySem.W.kia_one (PySem.W.kitx_own (cl.get _) cl.hd ha hn htk hm) I.kIn J e (fun z=>nomatch z) h
end
end L2
namespace L2
open PySem PySem.Spec PyProof.Rows
structure zCm (k:Nat)(A:Around):Prop where
 hd:A.handled=none
 dp:A.depth+3*k+5<recursionLimit
 un:A.units+16*k+200<cLine
 gd:A.guards=some []
theorem zCm.mono {j k:Nat}{A:Around}(r:zCm k A)(h:j<=k):zCm j A:=⟨r.hd,by have:=r.dp;omega,by have:=r.un;omega,r.gd⟩
theorem zCm.deeper {k:Nat}{A:Around}(r:zCm (k+1) A)(env:Env):zCm k (A.deeper env):=
 ⟨r.hd,by have:=r.dp;show A.depth+1+3*k+5<_;omega,by have:=r.un;show A.units+3+16*k+200<_;omega,r.gd⟩
theorem zCm.in1 {k:Nat}{A:Around}(r:zCm (k+1) A):zCm k A.in1:=
 ⟨r.hd,by have:=r.dp;show A.depth+3*k+5<_;omega,by have:=r.un;show A.units+1+16*k+200<_;omega,r.gd⟩
theorem zHo {A:Around}{C:Addr}{us:List Value}{kw:List (Str×Value)}:(A.under (.builtin "type.__call__" ⟨.ref C::us,kw⟩)).depth=A.depth+1:=by
 first | rfl | simp[Around.under,Code.weight,Code.isCreation,Code.isGuard,Code.isCaller,Code.frames,Code.isFrame,guardIds]
theorem zHn {A:Around}{C:Addr}{us:List Value}{kw:List (Str×Value)}:(A.under (.builtin "type.__call__" ⟨.ref C::us,kw⟩)).units=A.units+1:=by
 first | rfl | simp[Around.under,Code.cUnits,Code.frames,Code.isFrame]
theorem zCm.make {k:Nat}{A:Around}(r:zCm (k+1) A)(C:Addr)(us:List Value)(kw:List (Str×Value)):zCm k (A.under (.builtin "type.__call__" ⟨.ref C::us,kw⟩)):=
 ⟨r.hd,by have:=r.dp;rw[zHo];omega,by have:=r.un;rw[zHn];omega,by first | exact r.gd | (simp[Around.under,Code.guards,Code.isGuard,guardIds,pushGuards];exact r.gd)⟩
theorem zCm.depth {k:Nat}{A:Around}(r:zCm k A):A.depth<recursionLimit:=by have:=r.dp;omega
theorem zCm.units {k:Nat}{A:Around}(r:zCm k A):A.units+64<cLine:=by have:=r.un;omega
theorem zCm.units0 {k:Nat}{A:Around}(r:zCm k A):A.units<cLine:=by have:=r.un;omega
noncomputable def tNil:TA:=fun _ H Q=>Q [] H
noncomputable def zK7 (ta:TE)(tr:TA):TA:=fun σ H Q=>ta σ H fun x H1=>tr σ H1 fun xs H2=>Q (x::xs) H2
section
variable {X:Cx}{e:Expr}{es:List Expr}{te:TE}{t:TA}{pos:Pos}
theorem zR:PA X [] tNil:=fun _ _ _ _ H Q I h=>Calls.spliced_nil ⟨[],H,I,.nil,h⟩
theorem zF (ha:PE X e te)(hr:PA X es t)(hs:starEach (e::es) X.env=(false,eval e X.env)::starEach es X.env:=by rfl):PA X (e::es) (zK7 te t):=by
 intro pos pins s σ H Q I h
 rw[hs]
 show wpAny _ _ (spliced ((false,eval e X.env)::backTo pos (starEach es X.env))) _ _ s
 refine Calls.spliced_cons (thn (ha pins s σ H _ I h) fun u s1 ⟨x,H1,I1,r1,q1⟩=>?_)
 exact thn (hr pos pins s1 σ H1 _ I1 q1) fun us s2 ⟨xs,H2,I2,r2,q2⟩=>⟨x::xs,H2,I2,.cons r1 r2,q2⟩
noncomputable def tTup (t:TA):TE:=fun σ H Q=>t σ H fun xs H1=>xs.length<=sizeLine/\∀p,H1 p=none->Q (.ref p) (upd H1 p (.tup xs))
noncomputable def tLst (t:TA):TE:=fun σ H Q=>t σ H fun xs H1=>xs.length<=sizeLine/\∀p,H1 p=none->Q (.ref p) (upd H1 p (.lst xs))
theorem zBY {x1} (h:PA X es t):PE X (.Tuple es x1 pos) (tTup t):=by
 intro pins s σ H Q I hq
 refine wpAny_Tuple_spliced (thn (h pos pins s σ H _ I hq) fun us s1 ⟨xs,H1,I1,r,z,q⟩=>⟨by rw[<-r.length];exact z,?_⟩)
 have hf:H1 s1.heap.objs.size=none:=I1.hok.fresh (zG _)
 refine⟨.ref s1.heap.objs.size,upd H1 s1.heap.objs.size (.tup xs),I1.laid (t':=s1.toks) (fun b u e=>zE _ e) (zG _) ?_,rfl,q _ hf⟩
 exact⟨⟨z,_,zK _ rfl,rfl⟩,us,r,⟨_,zK _ rfl,rfl,_,rfl⟩⟩
theorem zCL (h:PA X es t):PE X (.List es pos) (tLst t):=by
 intro pins s σ H Q I hq
 refine wpAny_List_spliced (thn (h pos pins s σ H _ I hq) fun us s1 ⟨xs,H1,I1,r,z,q⟩=>⟨by rw[<-r.length];exact z,?_⟩)
 have hf:H1 s1.heap.objs.size=none:=I1.hok.fresh (zG _)
 refine⟨.ref s1.heap.objs.size,upd H1 s1.heap.objs.size (.lst xs),I1.laid (t':=s1.toks) (fun b u e=>zE _ e) (zG _) ?_,rfl,q _ hf⟩
 exact⟨z,us,0,r,zK _ rfl⟩
end
noncomputable abbrev Sp:=List V->Hp->VK->XK->Prop
noncomputable abbrev CXT:=List Env->Hp->Shared->XK->Value->Shared->Prop
structure zL2 (P:Program)(w:World)(K:PySem.W.Frag)(mg:Str->Option Value)(base:Heap)(A:Around)(outer:List Env)(s:Shared)(H:Hp):Prop where
 frames:A.frames=some outer
 mod:Mod K mg base
 bs:∀b o,base.get? b=some o->s.heap.get? b=some o/\H b=none
 bsz:base.objs.size<=s.heap.objs.size
 funs:s.heap.FunFrames base outer
 frf:∀b∈frs outer,H b=none
 hok:HOk P w H s.heap
 bare:AllBare s.gens
noncomputable def CE (outer:List Env)(P:Program)(w:World)(H:Hp)(s:Shared)(Q:VK)(u:Value)(s':Shared):Prop:=
 ∃v H',s'.os=s.os/\AllBare s'.gens/\Un (frs outer) [] H H' s.heap s'.heap/\HOk P w H' s'.heap/\zBe v u/\Q v H'
noncomputable def CR (CX:CXT)(outer:List Env)(P:Program)(w:World)(H:Hp)(s:Shared)(Q:VK)(E:XK)(r:Result)(s':Shared):Prop:=
 match r with
 | .ok (.ret u)=>CE outer P w H s Q u s'
 | .ok _=>False
 | .error e=>CX outer H s E e s'
structure zAa (P:Program)(w:World)(K:PySem.W.Frag)(mg:Str->Option Value)(base:Heap)(CX:CXT)(k:Nat)(f:Addr)(fd:FuncData)(ps:List Str)(sp:Sp):Prop where
 len:∀vs H Q E,sp vs H Q E->vs.length=ps.length
 run:∀(A:Around)(outer:List Env)(s:Shared)(H:Hp)(args:Args)(us:List Value)(vs:List V)(Q:VK)(E:XK),zCm k A->zL2 P w K mg base A outer s H->BindsTo s fd args (ps.zip us)->zBK vs us->sp vs H Q E ->
  codeAny (model P w) A (.call (.ref f) args) (CR CX outer P w H s Q E) s
theorem zAa.mono {P:Program}{w:World}{K:PySem.W.Frag}{mg:Str->Option Value}{base:Heap}{CX:CXT}{j k:Nat}{f:Addr}{fd:FuncData}{ps:List Str}{sp:Sp}(F:zAa P w K mg base CX j f fd ps sp)(h:j<=k) :
 zAa P w K mg base CX k f fd ps sp:=⟨F.len,fun A outer s H args us vs Q E hr=>F.run A outer s H args us vs Q E (hr.mono h)⟩
theorem zAa.imp {P:Program}{w:World}{K:PySem.W.Frag}{mg:Str->Option Value}{base:Heap}{CX:CXT}{k:Nat}{f:Addr}{fd:FuncData}{ps:List Str}{sp sp':Sp}(F:zAa P w K mg base CX k f fd ps sp)
 (h:∀vs H Q E,sp' vs H Q E->sp vs H Q E):zAa P w K mg base CX k f fd ps sp':=
 ⟨fun vs H Q E q=>F.len vs H Q E (h _ _ _ _ q),fun A outer s H args us vs Q E hr he hb hv hs=>F.run A outer s H args us vs Q E hr he hb hv (h _ _ _ _ hs)⟩
theorem zL2.make {P:Program}{w:World}{K:PySem.W.Frag}{mg:Str->Option Value}{base:Heap}{A:Around}{outer:List Env}{s:Shared}{H:Hp}(e:zL2 P w K mg base A outer s H)(C:Addr)(us:List Value)(kw:List (Str×Value)) :
 zL2 P w K mg base (A.under (.builtin "type.__call__" ⟨.ref C::us,kw⟩)) outer s H:=⟨by first | exact e.frames | (simpa [Around.under,Code.envs,Code.isFrame,pushEnvs] using e.frames),e.mod,e.bs,e.bsz,e.funs,e.frf,e.hok,e.bare⟩
section
variable {X:Cx}{pins:List (Addr×Obj)}{σ:St}{H:Hp}{s s':Shared}
theorem Inv.env0 (I:Inv X pins σ H s):zL2 X.prog X.w X.K X.mg X.base X.A X.stack s H:=
 ⟨I.ok.frames,I.ok.mod,I.bs,zAl I.ok.bsz I.sz,I.stack,I.stkFree,I.hok,I.bare⟩
theorem Inv.after {Q:VK}{u:Value}(I:Inv X pins σ H s)(h:CE X.stack X.prog X.w H s Q u s'):EP X pins σ Q u s':=by
 obtain⟨v,H',os,bare,un,hok,r,q⟩:=h
 obtain⟨hh,g,d,t,os'⟩:=s'
 obtain rfl:os'=s.os:=os
 exact⟨v,H',I.call (h':=hh) (g':=g) (d':=d) (t':=t) (ch:=[]) un hok bare (fun b z=>absurd z (by simp)),r,q⟩
end
noncomputable def tCall (sp:Sp)(dvs:List V)(E:XK)(t:TA):TE:=fun σ H Q=>t σ H fun vs H1=>sp (vs++dvs) H1 Q E
noncomputable def zAH (K:PySem.W.Frag)(fd:FuncData)(ps:List Str)(ds:List Value):Prop:=
 ∀(s:Shared)(us:List Value),K.In s.heap->(us++ds).length=ps.length->BindsTo s fd ⟨us,[]⟩ (ps.zip (us++ds))
theorem zAH.all {K:PySem.W.Frag}{fd:FuncData}{ps:List Str}(h:∀us:List Value,us.length=ps.length->bindArgs fd ⟨us,[]⟩=pure (ps.zip us)):zAH K fd ps []:=fun s us _ hl=>by
 rw[zw] at hl ⊢
 exact .of_eq (h us hl)
noncomputable def zHS (CX:CXT)(X:Cx)(E:XK):Prop:=∀(pins:List (Addr×Obj))(σ:St)(H:Hp)(s:Shared)(e:Value)(s':Shared),Inv X pins σ H s->CX X.stack H s E e s'->X.xe e s'
section
variable {X:Cx}{CX:CXT}{k:Nat}{f C:Addr}{fd:FuncData}{ps:List Str}{sp:Sp}{dvs:List V}{ds:List Value}{E:XK}{x m:Str}{p pos apos:Pos}{e o:Expr}{es:List Expr}{ta:TE}{t:TA}
theorem run_fn {pins:List (Addr×Obj)}{σ:St}{H:Hp}{s:Shared}{Q:VK}{us:List Value}{vs:List V}(F:zAa X.prog X.w X.K X.mg X.base CX k f fd ps sp)(hr:zCm k X.A)(hb:zAH X.K fd ps ds)(hd:zBK dvs ds)(hx:zHS CX X E)
 (I:Inv X pins σ H s)(r:zBK vs us)(h:sp (vs++dvs) H Q E):wpAny (model X.prog X.w) X.A (call (.ref f) us) (EP X pins σ Q) X.xe s:=by
 have r2:zBK (vs++dvs) (us++ds):=r.append hd
 have hl:(us++ds).length=ps.length:=by rw[<-r2.length];exact F.len _ _ _ _ h
 refine zBS (codeAny_mono (F.run X.A X.stack s H ⟨us,[]⟩ (us++ds) (vs++dvs) Q E hr I.env0 (hb s us I.kIn hl) r2 h) fun r s' hq=>?_)
 cases r with
 | error e=>exact hx pins σ H s e s' I hq
 | ok fl=>
  cases fl with
  | ret u=>exact I.after hq
  | next=>exact False.elim hq
  | brk=>exact False.elim hq
  | cont=>exact False.elim hq
theorem zx (F:zAa X.prog X.w X.K X.mg X.base CX k f fd ps sp)(hr:zCm k X.A)(hg:Gl X x)(hm:X.mg x=some (.ref f))(hk:PySem.W.keepIn X.K (.ref f)=true)(hb:zAH X.K fd ps ds)(hd:zBK dvs ds)(hx:zHS CX X E)
 (ha:PA X (e::es) t)(hdb:(x==("__debug__" : Str))=false:=by decide) (he:starEach (e::es) X.env=(false,eval e X.env)::starEach es X.env:=by rfl)(hpl:(backTo pos (starEach es X.env)).any (·.1)=false:=by rfl) :
 PE X (.Call (.Name x p) (e::es) [] pos) (tCall sp dvs E t):=by
 intro pins s σ H Q I h
 refine zAu (zDX I hg hm ?_ hdb)
 refine PySem.W.callWith_K (h₀:=X.base) I.ok.mod.kin hk (thn (ha pos pins s σ H _ I h) fun us s1 ⟨vs,H1,I1,r,q⟩=>⟨I1.kIn,?_⟩) he hpl
 exact run_fn F hr hb hd hx I1 r q
end
section
variable {X:Cx}{CX:CXT}{k:Nat}{f C:Addr}{fd:FuncData}{ps ks:List Str}{sp:Sp}{E:XK}{x m:Str}{p pos apos kpos:Pos}{e o:Expr}{es:List Expr}{kws:List Keyword}{te ta:TE}{t tk:TA}{nm:Option Str}
variable {g:List Value->List Value->List Value}{gV:List V->List V->List V}
end
structure zAI (N P:List Str)(sc:Scope):Prop where
 kind:sc.kind = .function
 co:sc.isCoroutine=false
 gen:sc.isGenerator=false
 nd:N.Nodup
 pre:N.take P.length=P
 par:∀x∈P,sc.names.lookup x=some .local\/sc.names.lookup x=some .cell
 nofree:∀y∈sc.names,y.2 ≠ .free
theorem zGC {kindOf:Str->Option NameKind}{x:Str}:∀{binds:List (Str×Value)}{m:Str->Option Value},(∀v,(x,v)∉binds)->bindL kindOf binds m x=m x
 | [],_,_=>rfl
 | (n,v)::r,m,h=>by
  unfold bindL
  rw[zGC fun w hw=>h w (zO _ hw)]
  split
  . have:x≠n:=by rintro rfl;exact h v zN
    simp[this]
  . rfl
theorem zGE {kindOf:Str->Option NameKind}{x:Str}:∀{binds:List (Str×Value)}{m:Str->Option Value},(∀v,(x,v)∉binds)->bindC kindOf binds m x=m x
 | [],_,_=>rfl
 | (n,v)::r,m,h=>by
  unfold bindC
  rw[zGE fun w hw=>h w (zO _ hw)]
  split
  . rfl
  . have:x≠n:=by rintro rfl;exact h v zN
    simp[this]
theorem zGD {kindOf:Str->Option NameKind}{x:Str}{v:Value}:∀{P:List Str}{vs:List Value}{i:Nat}{m:Str->Option Value},P.Nodup->P[i]? = some x->vs[i]? = some v->kindOf x=some .local ->
 bindL kindOf (P.zip vs) m x=some v
 | [],_,_,_,_,h,_,_=>by simp at h
 | _::_,[],_,_,_,_,h,_=>by simp at h
 | p::P,w::vs,0,m,nd,h1,h2,hk=>by
  simp at h1 h2;subst h1;subst h2
  show bindL kindOf ((p,w)::P.zip vs) m p=_
  unfold bindL
  rw[zGC fun v hv=>(zAV.mp nd).1 (List.of_mem_zip hv).1,if_pos hk]
  simp
 | p::P,w::vs,i+1,m,nd,h1,h2,hk=>by
  show bindL kindOf ((p,w)::P.zip vs) m x=_
  unfold bindL
  exact zGD (i:=i) (zAV.mp nd).2 (by simpa using h1) (by simpa using h2) hk
theorem zGF {kindOf:Str->Option NameKind}{x:Str}{v:Value}:∀{P:List Str}{vs:List Value}{i:Nat}{m:Str->Option Value},P.Nodup->P[i]? = some x->vs[i]? = some v->kindOf x≠some .local ->
 bindC kindOf (P.zip vs) m x=some v
 | [],_,_,_,_,h,_,_=>by simp at h
 | _::_,[],_,_,_,_,h,_=>by simp at h
 | p::P,w::vs,0,m,nd,h1,h2,hk=>by
  simp at h1 h2;subst h1;subst h2
  show bindC kindOf ((p,w)::P.zip vs) m p=_
  unfold bindC
  rw[zGE fun v hv=>(zAV.mp nd).1 (List.of_mem_zip hv).1,if_neg hk]
  simp
 | p::P,w::vs,i+1,m,nd,h1,h2,hk=>by
  show bindC kindOf ((p,w)::P.zip vs) m x=_
  unfold bindC
  exact zGF (i:=i) (zAV.mp nd).2 (by simpa using h1) (by simpa using h2) hk
noncomputable def start (N:List Str)(vs:List V):St:=vs.map some++List.replicate (N.length-vs.length) none
noncomputable def zF3 (CX:CXT)(P:Program)(w:World)(K:PySem.W.Frag)(mg:Str->Option Value)(base:Heap)(N:List Str)(qual:Str)(scope:Scope)(f:Addr)(cd:Value)(A:Around)(outer:List Env)(s:Shared)(H:Hp)(E:XK):Cx where
 prog:=P
 w:=w
 K:=K
 mg:=mg
 base:=base
 A:=A.deeper (envOfC qual scope s.heap.objs.size f cd)
 N:=N
 s₀:=s
 H₀:=H
 env:=envOfC qual scope s.heap.objs.size f cd
 outer:=outer
 stack:=envOfC qual scope s.heap.objs.size f cd::outer
 ex:=[]
 calm:=true
 fn:=fun _=>true
 pn:=[]
 xe:=fun e s'=>wpAny (model P w) (A.deeper (envOfC qual scope s.heap.objs.size f cd)) (leaving (envOfC qual scope s.heap.objs.size f cd) e) (fun _ s''=>CX outer H s E e s'') (fun e' s''=>CX outer H s E e' s'') s'
theorem zHP {sc:Scope}{n:Nat}{x:Str}(h:sc.names.lookup x=some .cell):∃c,(cellsFrom n sc.names []).lookup x=some c:=by
 have q:=PySem.W.cellsFrom_some sc.names n [] (.inl h)
 exact zBn.mp q
theorem zI4 {CX:CXT}{P:Program}{w:World}{K:PySem.W.Frag}{mg:Str->Option Value}{base:Heap}{N ps:List Str}{qual:Str}{scope:Scope}{f:Addr}{cd:Value}{A:Around}{outer:List Env}{s s1:Shared}{H:Hp}{E:XK}{us:List Value}{vs:List V}
 (S:zAI N ps scope)(hd:A.handled=none)(e0:zL2 P w K mg base A outer s H)(hl:vs.length=ps.length)(r:zBK vs us)
 (x:InCallC s s.heap.objs.size (bindL (envOfC qual scope s.heap.objs.size f cd).kindOf (ps.zip us) fun _=>none) (cellsFrom (s.heap.objs.size+1) scope.names []) (bindC (envOfC qual scope s.heap.objs.size f cd).kindOf (ps.zip us) fun _=>none) s1) :
 Inv (zF3 CX P w K mg base N qual scope f cd A outer s H E) [] (start N vs) H s1:=by
 have hpl:ps.length<=N.length:=by have:=congrArg List.length S.pre;rw[zp] at this;omega
 obtain⟨h1,tk,rfl,hk⟩:=x.done
 have noA:∀b:Addr,b∉(zF3 CX P w K mg base N qual scope f cd A outer s H E).ex:=fun b z=>absurd (show b∈([]:List Addr) from z) (by simp)
 refine⟨⟨e0.mod,S.kind,rfl,rfl,zG _,fun y z c h1 h2=>?_,fun y hy=>?_,fun y c _ h=>?_,fun _=>hd,Around.frames_deeper e0.frames,.inr ⟨rfl,rfl⟩,fun b z=>absurd z (noA b),e0.bs,e0.bsz,fun b _ _=>noA b,fun b z=>absurd z (noA b),e0.funs,e0.frf⟩,
  rfl,e0.bare,Un.kept hk,⟨_,x.toInCall.ns,fun i y v h1 h2 h3=>?_⟩,fun y c h=>⟨_,x.cell y c h⟩,e0.hok.fresh (zG _),fun y c h=>?_,fun p hp=>absurd (show p∈([]:List (Addr×Obj)) from hp) (by simp),e0.hok.kept hk,?_⟩
 . exact name_of_addr x.apart (PySem.mem_of_lookup h1) (PySem.mem_of_lookup h2)
 . have hy:scope.names.lookup y=some .cell\/scope.names.lookup y=some .free:=hy
   rcases hy with hy | hy
   . exact zHP hy
   . exact absurd rfl (S.nofree _ (PySem.mem_of_lookup hy))
 . exact zBQ (x.above y c (PySem.mem_of_lookup h))
 . have hi:i<vs.length:=by
    unfold start at h2
    by_cases hi:i<vs.length
    . exact hi
    . rw[zAs (by simpa using hi)] at h2
      rw[List.getElem?_replicate] at h2
      split at h2 <;> cases h2
   have ha:vs[i]? = some v:=by
    unfold start at h2
    rw[zAK (by simpa using hi),zT] at h2
    cases e:vs[i]? with
    | none=>rw[e] at h2;cases h2
    | some a=>rw[e] at h2;cases h2;rfl
   obtain⟨u,hu,rv⟩:=r.get ha
   have hp:ps[i]? = some y:=by
    rw[<-S.pre,List.getElem?_take_of_lt (by omega)];exact h1
   have ndP:ps.Nodup:=by rw[<-S.pre];exact S.nd.sublist (List.take_sublist _ _)
   refine⟨u,rv,?_⟩
   rcases S.par y (zc hp) with k | k
   . exact .inl ⟨k,zGD ndP hp hu k⟩
   . obtain⟨c,e⟩:=zHP (n:=s.heap.objs.size+1) k
     refine .inr ⟨.inl k,c,e,?_⟩
     have q:=x.cell y c e
     rw[zGF ndP hp hu (by show scope.names.lookup y≠_;rw[k];decide)] at q
     exact q
 . exact e0.hok.fresh (zBQ (x.above y c (PySem.mem_of_lookup h)))
 . unfold start
   show _=N.length
   rw[zH,zC,zBg]
   omega
theorem zKL {CX:CXT}{P:Program}{w:World}{K:PySem.W.Frag}{mg:Str->Option Value}{base:Heap}{k:Nat}{f:Addr}{name qual:Str}{params:Arguments}{body:List Stmt}{scope:Scope}{dV kV doc pm cdv ct oc:Value}{an od:Option Addr}
 {osl:Array (Option Value)}{N ps:List Str}{sp:Sp}(lk:K.lookup f=some ⟨oc,od,.func (PySem.W.fnOf name qual params body scope dV kV doc pm an cdv ct),osl⟩)(hcd:PySem.W.codeIn K cdv qual=true)(S:zAI N ps scope)
 (len:∀vs H Q E,sp vs H Q E->vs.length=ps.length)
 (hbody:∀(A:Around)(outer:List Env)(s:Shared)(H:Hp)(vs:List V)(Q:VK)(E:XK),zCm k (A.deeper (envOfC qual scope s.heap.objs.size f cdv))->sp vs H Q E ->
  ∃t,PSs (zF3 CX P w K mg base N qual scope f cdv A outer s H E) body t/\t { nx:=fun _ H'=>Q .non H',rt:=Q } (start N vs) H) :
 zAa P w K mg base CX (k+1) f (PySem.W.fnOf name qual params body scope dV kV doc pm an cdv ct) ps sp:=by
 refine⟨len,fun A outer s H args us vs Q E hr e0 hb r hsp=>?_⟩
 have hl:=len _ _ _ _ hsp
 have KX:K.In s.heap:=e0.mod.kin.keeps fun b o e=>(e0.bs b o e).1
 have lim:s.heap.NoLimit:=e0.mod.nolimit.keeps fun b o e=>(e0.bs b o e).1
 have hkind:∀y∈ps.zip us,scope.names.lookup y.1=some .local\/(scope.names.lookup y.1=some .cell/\((cellsFrom (s.heap.objs.size+1) scope.names []).lookup y.1).isSome=true):=fun ⟨n,v⟩ hy=>by
  rcases S.par n (List.of_mem_zip hy).1 with q | q
  . exact .inl q
  . exact .inr ⟨q,PySem.W.cellsFrom_some _ _ _ (.inl q)⟩
 refine codeAny_call_function hr.depth (KX _ _ lk) rfl S.co S.gen rfl (PySem.W.codeRec_of KX hcd) (hb _ _ _ _ ?_)
 refine wpAny_newFunctionEnv_cells S.kind hkind fun env he s1 x=>?_
 subst he
 refine⟨lim.keeps x.toInCall.keep,codeAny_func ?_⟩
 obtain⟨t,ht,hq⟩:=hbody A outer s H vs Q E (hr.deeper _) hsp
 have I:Inv (zF3 CX P w K mg base N qual scope f cdv A outer s H E) [] (start N vs) H s1:=zI4 S hr.hd e0 hl r x
 refine zAM (ht [] s1 (start N vs) H _ I hq) (fun fl s' hs=>?_) fun e s' hs=>hs
 have fin:∀{σ':St}{H':Hp}{v:V}{u:Value},Inv (zF3 CX P w K mg base N qual scope f cdv A outer s H E) [] σ' H' s'->zBe v u->Q v H'->CE outer P w H s Q u s':=
  fun {σ' H' v u} J rv q=>⟨v,H',J.os,J.bare,J.base,J.hok,rv,q⟩
 cases fl with
 | ret u=>
  obtain⟨v,σ',H',J,rv,q⟩:=hs
  exact fin J rv q
 | next=>
  obtain⟨σ',H',J,q⟩:=hs
  exact fin (v:=V.non) (u:=Value.none) J rfl q
 | brk=>
  obtain⟨_,_,_,q⟩:=hs
  exact False.elim q
 | cont=>
  obtain⟨_,_,_,q⟩:=hs
  exact False.elim q
end L2
namespace L2
open PySem PySem.Spec PyProof.Rows
section
variable {X:Cx}{x:Str}{p pos:Pos}{e:Expr}{es:List Expr}{t:TA}{id T:String}{r:List V->Hp->VK->Prop}
noncomputable def tCB (r:List V->Hp->VK->Prop)(t:TA):TE:=fun σ H Q=>t σ H fun vs H1=>r vs H1 Q
theorem zAD (hc:zCd X (.builtin id) r)(hg:Gl X x)(hm:X.mg x=none)(hv:bootBuiltins x=some (.builtin id))(ha:PA X (e::es) t)(hn:x ≠ "__name__" := by decide) (hdb:(x==("__debug__" : Str))=false:=by decide)
 (he:starEach (e::es) X.env=(false,eval e X.env)::starEach es X.env:=by rfl)(hpl:(backTo pos (starEach es X.env)).any (·.1)=false:=by rfl):PE X (.Call (.Name x p) (e::es) [] pos) (tCB r t):=by
 intro pins s σ H Q I h
 refine zAu (zCc I hg hm hv ?_ hn hdb)
 exact PyProof.Rows.callWith_builtin1 (thn (ha pos pins s σ H _ I h) fun us s1 ⟨vs,H1,I1,r1,q1⟩=>hc pins s1 σ H1 vs us Q I1 r1 q1) he hpl
theorem zBi (hc:zCd X (.type T) r)(hg:Gl X x)(hm:X.mg x=none)(hv:bootBuiltins x=some (.type T))(ha:PA X (e::es) t)(hn:x ≠ "__name__" := by decide) (hdb:(x==("__debug__" : Str))=false:=by decide)
 (he:starEach (e::es) X.env=(false,eval e X.env)::starEach es X.env:=by rfl)(hpl:(backTo pos (starEach es X.env)).any (·.1)=false:=by rfl):PE X (.Call (.Name x p) (e::es) [] pos) (tCB r t):=by
 intro pins s σ H Q I h
 refine zAu (zCc I hg hm hv ?_ hn hdb)
 exact PyProof.Rows.callWith_type1 (thn (ha pos pins s σ H _ I h) fun us s1 ⟨vs,H1,I1,r1,q1⟩=>hc pins s1 σ H1 vs us Q I1 r1 q1) he hpl
end
end L2
namespace L2
open PySem PySem.Spec PyProof.Rows
section
variable {κ:Type} [DecidableEq κ]
noncomputable def zCs (kvs:List (κ×V))(k:κ):Option V:=(kvs.find? fun kv=>decide (kv.1=k)).map (·.2)
noncomputable def zE5 (kvs:List (κ×V))(k:κ)(v:V):List (κ×V):=
 if (kvs.any fun kv=>decide (kv.1=k))=true then kvs.map (fun kv=>if kv.1=k then (kv.1,v) else kv) else kvs++[(k,v)]
theorem zJl {k:κ}:zCs ([]:List (κ×V)) k=none:=rfl
theorem zBv {p:κ×V}{r:List (κ×V)}{k:κ}(e:p.1=k):zCs (p::r) k=some p.2:=by simp[zCs,List.find?_cons,e]
theorem zBw {p:κ×V}{r:List (κ×V)}{k:κ}(e:¬ p.1=k):zCs (p::r) k=zCs r k:=by simp[zCs,List.find?_cons,e]
theorem zCH (k:κ):∀kvs:List (κ×V),(kvs.any fun kv=>decide (kv.1=k))=(zCs kvs k).isSome
 | []=>rfl
 | p::r=>by
  rw[List.any_cons]
  by_cases e:p.1=k
  . simp only[zBv e,zM e,Bool.true_or,Option.isSome_some]
  . rw[zBw e,zV e,Bool.false_or];exact zCH k r
theorem zGs (k j:κ)(y:V):∀kvs:List (κ×V),zCs (kvs.map fun kv=>if kv.1=k then (kv.1,y) else kv) j=(zCs kvs j).map fun x=>if j=k then y else x
 | []=>rfl
 | p::r=>by
  have ih:=zGs k j y r
  rw[zAU]
  by_cases h:p.1=k
  . rw[if_pos h]
    by_cases e:p.1=j
    . rw[zBv (p:=(p.1,y)) e,zBv e,zBG,if_pos (e.symm.trans h)]
    . rw[zBw (p:=(p.1,y)) e,zBw e,ih]
  . rw[if_neg h]
    by_cases e:p.1=j
    . rw[zBv (p:=p) e,zBv e,zBG,if_neg (fun z=>h (e.trans z))]
    . rw[zBw (p:=p) e,zBw e,ih]
theorem zFQ (k j:κ)(y:V):∀kvs:List (κ×V),zCs kvs k=none->zCs (kvs++[(k,y)]) j=if j=k then some y else zCs kvs j
 | [],_=>by
  by_cases e:k=j
  . rw[if_pos e.symm];exact zBv (p:=(k,y)) e
  . rw[if_neg (fun z=>e z.symm)];exact zBw (p:=(k,y)) e
 | p::r,hn=>by
  rw[List.cons_append]
  have hk:¬ p.1=k:=fun z=>by rw[zBv z] at hn;cases hn
  rw[zBw hk] at hn
  have ih:=zFQ k j y r hn
  by_cases e:p.1=j
  . rw[zBv e,zBv e,if_neg (fun z=>hk (e.trans z))]
  . rw[zBw e,zBw e,ih]
theorem zJj (kvs:List (κ×V))(k j:κ)(y:V):zCs (zE5 kvs k y) j=if j=k then some y else zCs kvs j:=by
 unfold zE5
 by_cases a:(kvs.any fun kv=>decide (kv.1=k))=true
 . rw[if_pos a,zGs]
   rw[zCH] at a
   by_cases e:j=k
   . obtain⟨x,hx⟩:=zBn.mp a
     rw[if_pos e,e,hx,zBG,if_pos rfl]
   . rw[if_neg e]
     cases zCs kvs j with
     | none=>rfl
     | some x=>rw[zBG,if_neg e]
 . rw[if_neg a]
   refine zFQ k j y kvs ?_
   rw[zCH] at a
   cases q:zCs kvs k with
   | none=>rfl
   | some x=>rw[q] at a;exact (a rfl).elim
theorem zC1 (kvs:List (κ×V))(k:κ)(v:V):(zE5 kvs k v).length<=kvs.length+1:=by
 unfold zE5
 split
 . rw[zC];omega
 . rw[zH,zj,List.length_nil];omega
theorem zE4 {kvs:List (κ×V)}{k:κ}(v:V)(h:zCs kvs k=none):zE5 kvs k v=kvs++[(k,v)]:=by
 unfold zE5
 rw[zCH,h]
 exact if_neg (by decide)
theorem zGp.isSome_eq {o:Option V}{u:Option Value}(r:zGp o u):o.isSome=u.isSome:=by
 cases o with
 | none=>cases u with
  | none=>rfl
  | some _=>exact (show False from r).elim
 | some _=>cases u with
  | none=>exact (show False from r).elim
  | some _=>rfl
theorem KV.val {kvs:List (κ×V)}{vs:List (κ×Value)}(r:KV kvs vs)(k:κ):zGp (zCs kvs k) (valueAt vs k):=by
 unfold KV at r
 induction r with
 | nil=>exact True.intro
 | @cons p q ps qs h t ih=>
  obtain⟨h1,h2⟩:=h
  by_cases e:p.1=k
  . have e':q.1=k:=h1.symm.trans e
    have b:valueAt (q::qs) k=some q.2:=by simp[valueAt,List.find?_cons,e']
    rw[zBv e,b];exact h2
  . have e':¬ q.1=k:=fun z=>e (h1.trans z)
    have b:valueAt (q::qs) k=valueAt qs k:=by simp[valueAt,List.find?_cons,e']
    rw[zBw e,b];exact ih
theorem KV.any {kvs:List (κ×V)}{vs:List (κ×Value)}(r:KV kvs vs)(k:κ):(kvs.any fun kv=>decide (kv.1=k))=vs.any fun kv=>decide (kv.1=k):=by
 unfold KV at r
 induction r with
 | nil=>rfl
 | cons h t ih=>rw[List.any_cons,List.any_cons,ih,h.1]
theorem KV.repl {kvs:List (κ×V)}{vs:List (κ×Value)}(r:KV kvs vs)(k:κ){y:V}{u:Value}(ry:zBe y u) :
 KV (kvs.map fun kv=>if kv.1=k then (kv.1,y) else kv) (vs.map fun kv=>if kv.1=k then (kv.1,u) else kv):=by
 unfold KV at r ⊢
 induction r with
 | nil=>exact .nil
 | @cons p q ps qs h t ih=>
  rw[zAU,zAU]
  refine .cons ?_ ih
  obtain⟨h1,h2⟩:=h
  by_cases e:p.1=k
  . rw[if_pos e,if_pos (h1.symm.trans e)];exact⟨h1,ry⟩
  . rw[if_neg e,if_neg (fun z=>e (h1.trans z))];exact⟨h1,h2⟩
theorem KV.put {kvs:List (κ×V)}{vs:List (κ×Value)}(r:KV kvs vs)(k:κ){y:V}{u:Value}(ry:zBe y u):KV (zE5 kvs k y) (stored vs k u):=by
 unfold zE5 stored
 rw[r.any k]
 by_cases e:(vs.any fun kv=>decide (kv.1=k))=true
 . rw[if_pos e,if_pos e];exact r.repl k ry
 . rw[if_neg e,if_neg e];exact Paired.snoc r ⟨rfl,ry⟩
theorem KV.length {kvs:List (κ×V)}{vs:List (κ×Value)}(r:KV kvs vs):kvs.length=vs.length:=Paired.length r
end
theorem zKF {P:Program}{w:World}{k:Key}{u:Value}(r:zBe (kV k) u):(zBj P w).is k u=true:=by
 cases k with
 | inl i=>obtain⟨t,e⟩:=(show ∃t,u=Value.int i t from r);subst e;exact zGa P w i t
 | inr x=>obtain⟨t,e⟩:=(show ∃t,u=Value.str x t from r);subst e;exact zGZ P w x t
theorem zFv {P:Program}{w:World}:∀{ks:List Key}{us:List Value},zBK (ks.map kV) us->ItemsAre (zBj P w) ks us
 | [],_,r=>by rw[List.map_nil] at r;cases r;exact .nil
 | k::ks,_,r=>by
  rw[zAU] at r
  cases r with
  | cons h t=>exact .cons (zKF h) (zFv t)
noncomputable abbrev KT (H:Hp):List (List Key×V)->List (List Key×Addr×Value)->Prop:=Paired fun p q=>p.1=q.1/\H q.2.1=some (.tup (p.1.map kV))/\zBe p.2 q.2.2
theorem KT.val {H:Hp}{kvs:List (List Key×V)}{xs:List (List Key×Addr×Value)}(r:KT H kvs xs)(k:List Key):zGp (zCs kvs k) ((atKey xs k).map (·.2)):=by
 induction r with
 | nil=>exact True.intro
 | @cons p q ps qs h t ih=>
  obtain⟨h1,_,h2⟩:=h
  by_cases e:p.1=k
  . have e':q.1=k:=h1.symm.trans e
    have b:atKey (q::qs) k=some q.2:=by simp[atKey,List.find?_cons,e']
    rw[zBv e,b];exact h2
  . have e':¬ q.1=k:=fun z=>e (h1.trans z)
    have b:atKey (q::qs) k=atKey qs k:=by simp[atKey,List.find?_cons,e']
    rw[zBw e,b];exact ih
theorem KT.repl {H:Hp}{kvs:List (List Key×V)}{xs:List (List Key×Addr×Value)}(r:KT H kvs xs)(k:List Key){y:V}{u:Value}(ry:zBe y u) :
 KT H (kvs.map fun kv=>if kv.1=k then (kv.1,y) else kv) (xs.map (putAt k u)):=by
 induction r with
 | nil=>exact .nil
 | @cons p q ps qs h t ih=>
  rw[zAU,zAU]
  refine .cons ?_ ih
  obtain⟨h1,h2,h3⟩:=h
  unfold putAt
  by_cases e:p.1=k
  . rw[if_pos e,if_pos (h1.symm.trans e)];exact⟨h1,h2,ry⟩
  . rw[if_neg e,if_neg (fun z=>e (h1.trans z))];exact⟨h1,h2,h3⟩
theorem KT.put {H:Hp}{kvs:List (List Key×V)}{xs:List (List Key×Addr×Value)}(r:KT H kvs xs)(k:List Key){b:Addr}{y:V}{u:Value}(hb:H b=some (.tup (k.map kV)))(ry:zBe y u) :
 KT H (zE5 kvs k y) (storedH xs k b u):=by
 have e:(kvs.any fun kv=>decide (kv.1=k))=(atKey xs k).isSome:=by
  rw[zCH,(r.val k).isSome_eq,Option.isSome_map]
 unfold zE5 storedH
 rw[e]
 by_cases q:(atKey xs k).isSome=true
 . rw[if_pos q,if_pos q];exact r.repl k ry
 . rw[if_neg q,if_neg q];exact Paired.snoc r ⟨rfl,hb,ry⟩
theorem KT.keeps {H H':Hp}{kvs:List (List Key×V)}{xs:List (List Key×Addr×Value)}(r:KT H kvs xs)(ht:∀b ys,H b=some (.tup ys)->H' b=some (.tup ys)):KT H' kvs xs:=
 Paired.mapP r fun _ _ z=>⟨z.1,ht _ _ z.2.1,z.2.2⟩
section
variable {P:Program}{w:World}{H:Hp}{h:Heap}{a:Addr}
theorem rd_of {u:HO}(ok:HOk P w H h)(e:Rd H a u):zBc P w H h a u:=e.ok ok
theorem zKS {kvs:List (Key×V)}(ok:HOk P w H h)(e:Rd H a (.dK kvs)):kvs.length<=sizeLine/\(a==sysModules)=false/\∃vs,KV kvs vs/\h.DictOf (zBj P w) a vs:=
 show zBc P w H h a (.dK kvs) from rd_of ok e
theorem dk_of {kvs:List (Key×V)}(ok:HOk P w H h)(e:H a=some (.dK kvs)):kvs.length<=sizeLine/\(a==sysModules)=false/\∃vs,KV kvs vs/\h.DictOf (zBj P w) a vs:=zKS ok (.inl e)
theorem zHA {ks:List Key}(ok:HOk P w H h)(e:H a=some (.tup (ks.map kV))):(tupleKind (zBj P w)).is h ks a:=by
 obtain⟨_,its,r,o,h1,h2,n,h3⟩:=(show zBc P w H h a (.tup (ks.map kV)) from ok a _ e)
 exact⟨o,its.toArray,n,h1,h2,h3,by simpa using zFv r⟩
theorem zKQ {kvs:List (List Key×V)}(ok:HOk P w H h)(e:Rd H a (.dT kvs)):kvs.length<=sizeLine/\(a==sysModules)=false /\
 ∃xs,KT H kvs xs/\h.DictOfH (tupleKind (zBj P w)) a xs:=by
 obtain⟨z,y,xs,r,o,es,ep,h1,h2,h3,h4,h5⟩:=(show zBc P w H h a (.dT kvs) from rd_of ok e)
 refine⟨z,y,xs,r,o,es,ep,h1,h2,h3,h4,fun x hx=>?_,h5⟩
 have all:∀{l:List (List Key×V)}{m:List (List Key×Addr×Value)},KT H l m->∀x∈m,(tupleKind (zBj P w)).is h x.1 x.2.1:=by
  intro l m q
  induction q with
  | nil=>intro x hx;exact nomatch hx
  | @cons p q ps qs hq t ih=>
   intro x hx
   rcases zW.mp hx with e | hx
   . subst e
     exact zHA ok (by rw[<-hq.1];exact hq.2.1)
   . exact ih x hx
 exact all r x hx
theorem dt_of {kvs:List (List Key×V)}(ok:HOk P w H h)(e:H a=some (.dT kvs)):kvs.length<=sizeLine/\(a==sysModules)=false /\
 ∃xs,KT H kvs xs/\h.DictOfH (tupleKind (zBj P w)) a xs:=zKQ ok (.inl e)
end
noncomputable def zJd (H:Hp)(a:Addr)(y:V)(r:Option V):Prop:=
 (∃kvs k,Rd H a (.dK kvs)/\y=kV k/\r=zCs kvs k)\/∃kvs k b,Rd H a (.dT kvs)/\y = .ref b/\H b=some (.tup (k.map kV))/\r=zCs kvs k
noncomputable def DPut (H:Hp)(a:Addr)(y v:V)(H':Hp):Prop:=
 (∃kvs k,H a=some (.dK kvs)/\y=kV k/\kvs.length<sizeLine/\H'=upd H a (.dK (zE5 kvs k v))) \/
 ∃kvs k b,H a=some (.dT kvs)/\y = .ref b/\H b=some (.tup (k.map kV))/\kvs.length<sizeLine/\H'=upd H a (.dT (zE5 kvs k v))
theorem zJd.k {H:Hp}{a:Addr}{kvs:List (Key×V)}{k:Key}(e:H a=some (.dK kvs)):zJd H a (kV k) (zCs kvs k):=.inl ⟨kvs,k,.inl e,rfl,rfl⟩
theorem zJd.t {H:Hp}{a b:Addr}{kvs:List (List Key×V)}{k:List Key}(e:H a=some (.dT kvs))(eb:H b=some (.tup (k.map kV))):zJd H a (.ref b) (zCs kvs k):=.inr ⟨kvs,k,b,.inl e,rfl,eb,rfl⟩
theorem DPut.t {H:Hp}{a b:Addr}{kvs:List (List Key×V)}{k:List Key}{v:V}(e:H a=some (.dT kvs))(eb:H b=some (.tup (k.map kV)))(hl:kvs.length<sizeLine) :
 DPut H a (.ref b) v (upd H a (.dT (zE5 kvs k v))):=.inr ⟨kvs,k,b,e,rfl,eb,hl,rfl⟩
section
variable {X:Cx}{pins:List (Addr×Obj)}{σ:St}{H:Hp}{s:Shared}{a:Addr}{y v:V}{u r:Value}{o:Option V}{A:Around}{E:Value->Shared->Prop}
theorem Inv.big (I:Inv X pins σ H s):sysModules<s.heap.objs.size:=by
 have h:mainGlobals<s.heap.objs.size:=(I.mod.glob.keeps I.bk).lt
 exact Nat.lt_trans (by decide) h
theorem zJJ {Q:Value->Shared->Prop}(hu:A.units+1<cLine)(I:Inv X pins σ H s)(g:zJd H a y (some v))(ry:zBe y u)(h:∀w' s',Inv X pins σ H s'->zBe v w'->Q w' s') :
 wpAny (model X.prog X.w) A (getItem (.ref a) u) Q E s:=by
 rcases g with ⟨kvs,k,e,ey,l⟩ | ⟨kvs,k,b,e,ey,eb,l⟩
 . subst ey
   obtain⟨z,hd,vs,rel,dd⟩:=zKS I.hok e
   obtain⟨w',hw,rw'⟩:=zGp.some_of (v:=v) (o:=valueAt vs k) (by rw[l];exact rel.val k)
   exact wpAny_getItem_of (zKF ry) dd.mapOf hw (h w' _ (I.tok _) rw')
 . subst ey
   cases (show u=Value.ref b from ry)
   obtain⟨z,hd,xs,rel,dd⟩:=zKQ I.hok e
   obtain⟨w',hw,rw'⟩:=zGp.some_of (v:=v) (o:=(atKey xs k).map (·.2)) (by rw[l];exact rel.val k)
   obtain⟨p,hp,hp2⟩:=zBb.mp hw
   refine wpAny_getItem_heap (tupleKind_room_in1 hu) (zHA I.hok eb) dd hp ?_
   rw[hp2]
   exact h w' _ (I.tok _) rw'
theorem d_in {Q:Value->Shared->Prop}(hu:A.units+1<cLine)(I:Inv X pins σ H s)(g:zJd H a y o)(ry:zBe y u)(h:∀s',Inv X pins σ H s'->Q (.bool o.isSome) s') :
 wpAny (model X.prog X.w) A (compareOp .In u (.ref a)) Q E s:=by
 rcases g with ⟨kvs,k,e,ey,l⟩ | ⟨kvs,k,b,e,ey,eb,l⟩
 . subst ey
   obtain⟨z,hd,vs,rel,dd⟩:=zKS I.hok e
   refine wpAny_in_of (zKF ry) hd dd.mapOf ?_
   rw[<-(rel.val k).isSome_eq,<-l]
   exact h _ (I.tok _)
 . subst ey
   cases (show u=Value.ref b from ry)
   obtain⟨z,hd,xs,rel,dd⟩:=zKQ I.hok e
   refine wpAny_in_heap (tupleKind_room_in1 hu) (zHA I.hok eb) hd dd ?_
   have q:=(rel.val k).isSome_eq
   rw[Option.isSome_map] at q
   rw[<-q,<-l]
   exact h _ (I.tok _)
theorem zJH {h':Heap}{t':Nat}{ob:HO}(I:Inv X pins σ H s)(mu:Mut (H a))(hs:Heap.SameBut a s.heap h')(he:∃q,h'.get? a=some q)(new:zBc X.prog X.w (upd H a ob) h' a ob) :
 Inv X pins σ (upd H a ob) { s with heap:=h',toks:=t' }:=
 I.write (x:=a) (e:=a) mu (.inl rfl) (fun b q hb z=>(hs.2 b hb).trans z) he new
theorem dk_new {P:Program}{w:World}{H':Hp}{h':Heap}{kvs:List (Key×V)}{vs:List (Key×Value)}(z:kvs.length<=sizeLine)(hd:(a==sysModules)=false)(rel:KV kvs vs)(dd:h'.DictOf (zBj P w) a vs) :
 zBc P w H' h' a (.dK kvs):=⟨z,hd,vs,rel,dd⟩
theorem zJI {H':Hp}{Q:Unit->Shared->Prop}(hu:A.units+1<cLine)(I:Inv X pins σ H s)(g:DPut H a y v H')(ry:zBe y u)(rv:zBe v r)(h:∀s',Inv X pins σ H' s'->Q () s') :
 wpAny (model X.prog X.w) A (setItem (.ref a) u r) Q E s:=by
 rcases g with ⟨kvs,k,e,ey,l,eH⟩ | ⟨kvs,k,b,e,ey,eb,l,eH⟩
 . subst ey eH
   obtain⟨z,hd,vs,rel,dd⟩:=dk_of I.hok e
   have hz:vs.length<=sizeLine:=by rw[<-rel.length];exact z
   have hl:(zE5 kvs k v).length<=sizeLine:=by have:=zC1 kvs k v;omega
   refine wpAny_setItem_pairs (hsz:=hz) (zKF ry) dd fun h' dd' hs=>h _ ?_
   have he:∃q,h'.get? a=some q:=let ⟨q,_,_,hq,_⟩:=dd';⟨q,hq⟩
   exact zJH I (by rw[e];exact True.intro) hs he (dk_new hl hd (rel.put k rv) dd')
 . subst ey eH
   cases (show u=Value.ref b from ry)
   obtain⟨z,hd,xs,rel,dd⟩:=dt_of I.hok e
   have hz:xs.length<=sizeLine:=by rw[<-Paired.length rel];exact z
   have hl:(zE5 kvs k v).length<=sizeLine:=by have:=zC1 kvs k v;omega
   refine wpAny_setItem_heap (hsz:=hz) (tupleKind_room_in1 hu) (zHA I.hok eb) dd fun h' dd' hs=>h _ ?_
   obtain⟨q,es,ep,hq,h2,h3,h4,_,h5⟩:=dd'
   refine zJH I (by rw[e];exact True.intro) hs ⟨q,hq⟩ ⟨hl,hd,_,(rel.put k eb rv).keeps fun c ys ec=>?_,q,es,ep,hq,h2,h3,h4,h5⟩
   rw[zY (zB5 ec e (fun z=>nomatch z))]
   exact ec
end
section
variable {X:Cx}{pins:List (Addr×Obj)}{σ:St}{H:Hp}{s:Shared}{a:Addr}{kvs:List (Key×V)}{k:Key}{u:Value}{A:Around}{E:Value->Shared->Prop}
end
noncomputable def NoSl (i:Expr):Prop:=∀ov iv,subscripted i false ov iv=operate [ov,iv] (getItem ov iv)
theorem zK9 {prog:Program}{w:World}{A:Around}{E:Value->Shared->Prop}{s:Shared}{env:Env}{value slice:Expr}{pos:Pos}{T id:String}{Q:Value->Shared->Prop}
 (hl:typeLookup (.type T) "__getitem__" = pure (some (.builtin id))) (hs:NoSl slice)
 (h:wpAny (model prog w) A (eval value env) (fun o s₁=>wpAny (model prog w) A (eval slice env) (fun i s₂=>s₂.TypeIs o T/\wpAny (model prog w) A (getItem o i) Q E s₂) E s₁) E s) :
 wpAny (model prog w) A (eval (.Subscript value slice pos) env) Q E s:=by
 refine Subscript_ (zAM h (fun o s₁ h₁=>zAM h₁ (fun i s₂ h₂=>?_) fun _ _ x=>x) fun _ _ x=>x)
 obtain⟨hT,h₂⟩:=h₂
 unfold subscriptTail
 refine zA ?_
 rw[getitemInPython_of_ne hT.not_modules]
 refine zA (wpAny_specialOf hT hl ?_)
 have fin:wpAny (model prog w) A (subscripted slice false o i) (fun r s₃=>wpAny (model prog w) A (letTemporaryGo value o r >>= fun _=>pure r) Q E s₃) E s₂:=by
  rw[hs o i]
  exact wpAny_operating (zAM h₂ (fun r s₃ h₃=>zA (wpAny_letTemporaryGo (zB h₃))) fun _ _ x=>x)
 first
  | exact zB (zA fin)
  | exact zA (zB (zA fin))
  | exact zA fin
theorem zGi {X:Cx}{pins:List (Addr×Obj)}{σ:St}{H:Hp}{s:Shared}{a:Addr}{y:V}{o:Option V}(I:Inv X pins σ H s)(g:zJd H a y o):s.TypeIs (.ref a) "dict" := by
 rcases g with ⟨kvs,k,e,_,_⟩ | ⟨kvs,k,b,e,_,_,_⟩
 . obtain⟨_,_,vs,_,dd⟩:=zKS I.hok e
   exact dd.typeIs
 . obtain⟨_,_,xs,_,dd⟩:=zKQ I.hok e
   exact dd.typeIs
noncomputable def tDGet (td ty:TE):TE:=fun σ H Q=>td σ H fun x H1=>ty σ H1 fun y H2=>∃a v,x = .ref a/\zJd H2 a y (some v)/\Q v H2
noncomputable def tDIn (ty td:TE):TE:=fun σ H Q=>ty σ H fun y H1=>td σ H1 fun x H2=>∃a o,x = .ref a/\zJd H2 a y o/\Q (.bl o.isSome) H2
noncomputable def sDPut (td ty tv:TE):TS:=fun D σ H=>tv σ H fun v H1=>td σ H1 fun x H2=>ty σ H2 fun y H3=>∃a H4,x = .ref a/\DPut H3 a y v H4/\D.nx σ H4
section
variable {X:Cx}{o i e value:Expr}{pos pos' tpos:Pos}{td ty tv:TE}
theorem zLQ (hu:X.A.units+1<cLine)(ho:PE X o td)(hi:PE X i ty)(hs:NoSl i):PE X (.Subscript o i pos) (tDGet td ty):=by
 intro pins s σ H Q I h
 refine zK9 PySem.F.slot_dict_getitem.lookup hs (thn (ho pins s σ H _ I h) fun u s1 ⟨x,H1,I1,rx,q1⟩=>thn (hi pins s1 σ H1 _ I1 q1) fun iv s2 ⟨y,H2,I2,ry,a,v,ex,g,q2⟩=>?_)
 subst ex
 obtain rfl:u=Value.ref a:=rx
 exact⟨zGi I2 g,zJJ hu I2 g ry fun w' s3 I3 rw'=>⟨v,H2,I3,rw',q2⟩⟩
theorem pc_din (hu:X.A.units+1<cLine)(hi:PE X i ty)(ho:PE X o td):PC X .In i o (tDIn ty td):=by
 intro pins s σ H Q I h
 refine thn (hi pins s σ H _ I h) fun iv s1 ⟨y,H1,I1,ry,q1⟩=>thn (ho pins s1 σ H1 _ I1 q1) fun u s2 ⟨x,H2,I2,rx,a,ov,ex,g,q2⟩=>?_
 subst ex
 obtain rfl:u=Value.ref a:=rx
 exact d_in hu I2 g ry fun s3 I3=>⟨.bl ov.isSome,H2,I3,rfl,q2⟩
theorem zGT (hu:X.A.units+1<cLine)(ho:PE X o td)(hi:PE X i ty)(hv:PE X value tv)(hs:swapsWith value (some (.Subscript o i pos')) pos.line X.env=pure false) :
 PS X (.Assign [.Subscript o i pos'] value pos) (sDPut td ty tv):=by
 intro pins s σ H D I h
 refine wpAny_Assign_Subscript (thn (hv pins s σ H _ I h) fun r s1 ⟨v,H1,I1,rv,q1⟩=>thn (ho pins s1 σ H1 _ I1 q1) fun u s2 ⟨x,H2,I2,rx,q2⟩=>thn (hi pins s2 σ H2 _ I2 q2) fun iv s3 ⟨y,H3,I3,ry,a,H4,ex,g,q3⟩=>?_) hs
 subst ex
 obtain rfl:u=Value.ref a:=rx
 exact zJI hu I3 g ry rv fun s4 I4=>⟨σ,H4,I4,q3⟩
end
theorem zKT {P:Program}{w:World}{H:Hp}(h:Heap)(hb:sysModules<h.objs.size):zBc P w H (h.push { cls:=.type "dict",data:=.dict #[] }) h.objs.size (.dK []):=
 ⟨zk _,beq_eq_false_iff_ne.mpr (Ne.symm (zf hb)),[],.nil,Heap.DictOf.new h⟩
theorem zKR {P:Program}{w:World}{H:Hp}(h:Heap)(hb:sysModules<h.objs.size):zBc P w H (h.push { cls:=.type "dict",data:=.dict #[] }) h.objs.size (.dT []):=
 ⟨zk _,beq_eq_false_iff_ne.mpr (Ne.symm (zf hb)),[],.nil,_,#[],0,zK _ rfl,⟨rfl,rfl,rfl⟩,rfl,rfl,List.nodup_nil⟩
noncomputable def tDNewK:TE:=fun _ H Q=>∀p,H p=none->Q (.ref p) (upd H p (.dK []))
noncomputable def tDNewT:TE:=fun _ H Q=>∀p,H p=none->Q (.ref p) (upd H p (.dT []))
section
variable {X:Cx}{pos:Pos}
theorem zJ5:PE X (.Dict [] [] pos) tDNewK:=fun pins s σ H Q I h=>
 wpAny_Dict_empty ⟨.ref s.heap.objs.size,_,I.laid (a:=s.heap.objs.size) (o:=.dK []) (t':=s.toks) (fun _ _ q=>zE _ q) (zG _) (zKT s.heap I.big),rfl,h _ (I.hok.fresh (zG _))⟩
theorem zJ4:PE X (.Dict [] [] pos) tDNewT:=fun pins s σ H Q I h=>
 wpAny_Dict_empty ⟨.ref s.heap.objs.size,_,I.laid (a:=s.heap.objs.size) (o:=.dT []) (t':=s.toks) (fun _ _ q=>zE _ q) (zG _) (zKR s.heap I.big),rfl,h _ (I.hok.fresh (zG _))⟩
end
section
variable {X:Cx}{pins:List (Addr×Obj)}{σ:St}{H:Hp}{s:Shared}{a:Addr}{y d:V}{u r:Value}{o:Option V}{A:Around}{E:Value->Shared->Prop}
end
section
variable {X:Cx}{o e f:Expr}{apos cpos:Pos}{td ty tx:TE}
end
section
variable {X:Cx}{pins:List (Addr×Obj)}{σ:St}{H:Hp}{s:Shared}{a:Addr}{kvs:List (Key×V)}{A:Around}{E:Value->Shared->Prop}
end
section
variable {X:Cx}{pins:List (Addr×Obj)}{σ:St}{H:Hp}{s:Shared}{a:Addr}{y:V}{u:Value}{A:Around}{E:Value->Shared->Prop}
end
end L2
namespace HT
open PySem PyProof.Rows
noncomputable def lexLt:List Int->List Int->Bool
 | [],[]=>false
 | [],_::_=>true
 | _::_,[]=>false
 | x::xs,y::ys=>if x=y then lexLt xs ys else decide (x<y)
theorem lexLt_cons (x y:Int)(xs ys:List Int):lexLt (x::xs) (y::ys)=if x=y then lexLt xs ys else decide (x<y):=rfl
theorem zFD:lexLt [] []=false:=rfl
theorem zES (y:Int)(ys:List Int):lexLt [] (y::ys)=true:=rfl
theorem zET (x:Int)(xs:List Int):lexLt (x::xs) []=false:=rfl
theorem zKP (A:Around)(s:Shared)(a:Int)(t:Tok)(c:Int)(u:Tok):∃e,SeqAt.EqAt A s (.int a t) (.int c u) e/\(e=true↔a=c):=
 ⟨(a==c),SeqAt.EqAt.int_int a t c u,by simp⟩
theorem zJz (A:Around)(s:Shared)(a:Int)(t:Tok)(c:Int)(u:Tok)(prog:Program)(w:World)(E:Value->Shared->Prop)(Q:Value->Shared->Prop)(h:Q (.bool (decide (a<c))) s) :
 wpAny (model prog w) A (richCompare .Lt (.int a t) (.int c u)) Q E s:=
 (PyProof.Rows.lt_int h:wpAny (model prog w) A (compareOp .Lt (.int a t) (.int c u)) Q E s)
section
open PySem.SeqAt
open PySem.AutoSeq1 (wpAny_loadPart')
open PySem.MeetsSeq PySem.MeetsSeq2 PySem.MeetsSeq3
theorem zEp (l b:Addr)(items items2:Array Value)(n n2:Nat)(dd dd2:Option Addr)(sl sl2:Array (Option Value))(ns ms:List Int)(hi:IntsAre items.toList ns)(hj:IntsAre items2.toList ms) :
 Meets (Builtin.«tuple.__lt__» ⟨[.ref l,.ref b],[]⟩)
  (fun _ R s=>s.heap.get? l=some { cls:=.type "tuple",dict:=dd,data:=.seq items n,slots:=sl }/\s.heap.get? b=some { cls:=.type "tuple",dict:=dd2,data:=.seq items2 n2,slots:=sl2 } /\
   R (.ok (.ret (.bool (lexLt ns ms)))) s):=
 .of_wp fun prog w A R s h=>by
  obtain⟨hp,g,d,tk,os⟩:=s;obtain⟨hl,hb,h⟩:=h
  have f2:=AutoSeq1.sub_tuple_tuple
  have z1:items.size=ns.length:=by rw[<-hi.length];simp
  have z2:items2.size=ms.length:=by rw[<-hj.length];simp
  wp_walk using wpAny_loadPart' hl,wpAny_loadPart' hb,wpAny_forIn_list _ (fun rest b s'=>b.1=none/\s'=⟨hp,g,d,tk,os⟩/\∃(vs ws:List Value)(ns' ms':List Int),rest=vs.zip ws /\
   IntsAre vs ns'/\IntsAre ws ms'/\ns'.length+items2.size=ms'.length+items.size/\R (.ok (.ret (.bool (lexLt ns' ms')))) ⟨hp,g,d,tk,os⟩) _
  case turn=>
   rintro ⟨y,x⟩ rest b s' ⟨hb',rfl,vs,ws,ns',ms',hz,hvi,hwi,hlen,hR⟩
   cases hvi with
   | nil=>rw[List.zip_nil_left] at hz;cases hz
   | cons a t hvi'=>
    cases hwi with
    | nil=>rw[List.zip_nil_right] at hz;cases hz
    | cons c u hwi'=>
     rw[List.zip_cons_cons] at hz
     injection hz with hyx hrest
     injection hyx with hy hx
     subst hy hx
     rw[lexLt_cons] at hR
     simp only[zj] at hlen
     obtain⟨e,he,hiff⟩:=zKP A.in1 ⟨hp,g,d,tk,os⟩ a t c u
     refine zA (he prog w _ _ ?_)
     cases e with
     | true=>
      rw[if_pos (hiff.mp rfl)] at hR
      wp_walk
      exact⟨rfl,rfl,_,_,_,_,hrest,hvi',hwi',by omega,hR⟩
     | false=>
      rw[if_neg (fun q=>absurd (hiff.mpr q) zh)] at hR
      have hri:=zJz A.in1 ⟨hp,g,d,tk,os⟩ a t c u prog w
      wp_walk using hri
      exact⟨_,rfl,by simpa using hR⟩
  case fin=>
   rintro ⟨b1,b2⟩ s' ⟨hb',rfl,vs,ws,ns',ms',hz,hvi,hwi,hlen,hR⟩
   simp only at hb'
   subst hb'
   have hv:lexLt ns' ms'=decide (items.size<items2.size):=by
    cases hvi with
    | nil=>
     cases hwi with
     | nil=>
      simp only[List.length_nil] at hlen
      rw[zFD]
      exact (zV (by omega)).symm
     | cons c u hw=>
      simp only[List.length_nil,zj] at hlen
      rw[zES]
      exact (zM (by omega)).symm
    | cons a t hv=>
     cases hwi with
     | nil=>
      simp only[List.length_nil,zj] at hlen
      rw[zET]
      exact (zV (by omega)).symm
     | cons c u hw=>
      rw[List.zip_cons_cons] at hz
      cases hz
   rw[hv] at hR
   wp_walk
   exact⟨_,rfl,by simpa [Builtin.Tuple.tupleCompareSizes] using hR⟩
  case h=>
   exact⟨rfl,rfl,items.toList,items2.toList,ns,ms,rfl,hi,hj,by omega,h⟩
end
section
variable {prog:Program}{w:World}{A:Around}{E:Value->Shared->Prop}{s:Shared}
theorem lt_tupInts {l b:Addr}{items items2:Array Value}{ns ms:List Int}{Q:Value->Shared->Prop}(hl:IsTup s.heap l items)(hb:IsTup s.heap b items2)(hi:IntsAre items.toList ns)(hj:IntsAre items2.toList ms)
 (hu:A.units<cLine)(h:Q (.bool (lexLt ns ms)) s):wpAny (model prog w) A (compareOp .Lt (.ref l) (.ref b)) Q E s:=by
 obtain⟨⟨cls,dd,data,sl⟩,ho,hc,n,hd⟩:=id hl
 obtain⟨⟨cls2,dd2,data2,sl2⟩,ho2,hc2,n2,hd2⟩:=id hb
 simp only at hc hd hc2 hd2
 subst hc hd hc2 hd2
 exact richCompare_meets_room (op:=.Lt) ⟨_,ho,rfl⟩ ⟨_,ho2,rfl⟩ PySem.F.slot_tuple_lt PySem.F.entry_tuple_lt (PySem.F.args_tuple_lt_2 _ _) (zEp l b items items2 n n2 dd dd2 sl sl2 ns ms hi hj)
  ⟨ho,ho2,show Value.bool (lexLt ns ms)≠Value.notImplemented/\Q (.bool (lexLt ns ms)) s from ⟨(fun x=>nomatch x),h⟩⟩ hu
theorem cat_tup {t b:Addr}{vs ws:List Value}{Q:Value->Shared->Prop}(ht:IsTup s.heap t vs.toArray)(hb:IsTup s.heap b ws.toArray)(hv:vs≠[])
 (h1:ws=[]->Q (.ref t) s)(h2:ws≠[]->Q (.ref s.heap.objs.size) { s with heap:=s.heap.push { cls:=.type "tuple",data:=.seq (vs++ws).toArray } })
 (hsz:vs.length+ws.length<=sizeLine):wpAny (model prog w) A (binaryOp .Add (.ref t) (.ref b)) Q E s:=by
 obtain⟨⟨cls,dd,data,sl⟩,ho,hc,n,hd⟩:=id ht
 obtain⟨⟨cls2,dd2,data2,sl2⟩,ho2,hc2,n2,hd2⟩:=id hb
 simp only at hc hd hc2 hd2
 subst hc hd hc2 hd2
 have e:vs.toArray++ws.toArray=(vs++ws).toArray:=by simp
 by_cases hw:ws=[]
 . exact concat_meets ⟨_,ho,rfl⟩ ⟨_,ho2,rfl⟩ noFill_tuple_add seq_tuple_add PySem.F.slot_tuple_add PySem.F.entry_tuple_add (PySem.F.args_tuple_add_2 _ _)
    (tuple_addW1 t b vs.toArray ws.toArray n n2 dd dd2 sl sl2 (by simpa using hv) (by simp[hw])) ⟨ho,ho2,h1 hw⟩
 . refine concat_meets ⟨_,ho,rfl⟩ ⟨_,ho2,rfl⟩ noFill_tuple_add seq_tuple_add PySem.F.slot_tuple_add PySem.F.entry_tuple_add (PySem.F.args_tuple_add_2 _ _)
    (tuple_addW2 t b vs.toArray ws.toArray n n2 dd dd2 sl sl2 (by simpa using hv) (by simpa using hw) (by rw[zS,zS];exact hsz)) ⟨ho,ho2,?_⟩
   rw[e]
   exact h2 hw
noncomputable def sIx (n d:Nat):Option Int->Nat
 | none=>d
 | some v=>if v<0 then (v+(n:Int)).toNat else min v.toNat n
theorem sIx_none (n d:Nat):sIx n d none=d:=rfl
theorem sIx_nat (n d k:Nat):sIx n d (some (k:Int))=min k n:=by
 show (if (k:Int)<0 then ((k:Int)+(n:Int)).toNat else min (k:Int).toNat n)=min k n
 rw[if_neg (by omega),zAX]
theorem sIx_le (n d:Nat)(hd:d<=n)(o:Option Int):sIx n d o<=n:=by
 cases o with
 | none=>exact hd
 | some v=>
  show (if v<0 then (v+(n:Int)).toNat else min v.toNat n)<=n
  by_cases hv:v<0
  . rw[if_pos hv];omega
  . rw[if_neg hv];exact Nat.min_le_right _ _
theorem zJN (v:Int)(n d:Nat):(if v<0 then max (v+(n:Int)) 0 else min v (n:Int))=((sIx n d (some v):Nat):Int):=by
 show (if v<0 then max (v+(n:Int)) 0 else min v (n:Int))=(((if v<0 then (v+(n:Int)).toNat else min v.toNat n):Nat):Int)
 by_cases hv:v<0
 . simp only[if_pos hv];omega
 . simp only[if_neg hv];omega
theorem zH1 (lo hi:Option Int) (n:Nat):Builtin.Slice.sliceAdjust lo hi 1 (n:Int)=(((sIx n 0 lo:Nat):Int),((sIx n n hi:Nat):Int)):=by
 have h1:¬ ((1:Int)<0):=by omega
 unfold Builtin.Slice.sliceAdjust
 simp only[h1,if_false]
 refine Prod.ext ?_ ?_
 . cases lo with
   | none=>rfl
   | some v=>exact zJN v n 0
 . cases hi with
   | none=>rfl
   | some v=>exact zJN v n n
theorem zHg (i j:Nat):Builtin.Slice.slicePlaces (i:Int) (j:Int) 1=j-i:=by
 unfold Builtin.Slice.slicePlaces
 have h1:(1:Int) > 0:=by omega
 simp only[h1,if_true,Int.ediv_one]
 split <;> omega
theorem zEb {v:Value} {o:Option Int} {Q:Option Int->Shared->Prop} (p:IsPart v o) (h:Q o s):wpAny (model prog w) A (Builtin.Slice.slicePartIndex v) Q E s:=by
 cases p with
 | none=>exact slicePart_none h
 | int i t=>exact slicePart_int h
theorem zCa {sl:Addr}{vl vu:Value}{lo hi:Option Int}{n:Nat}{Q:Int×Int×Nat->Shared->Prop}(hs:s.heap.IsSliceOf sl vl vu .none)(pl:IsPart vl lo)(pu:IsPart vu hi)
 (h:Q (((sIx n 0 lo:Nat):Int),1,sIx n n hi-sIx n 0 lo) s):wpAny (model prog w) A (Builtin.Slice.sliceApplied (.ref sl) (pure (n:Int))) Q E s:=by
 obtain⟨os,hos,hcs,hds⟩:=id hs
 unfold Builtin.Slice.sliceApplied Builtin.Slice.sliceFields
 refine zA (zA (wpAny_field hos hds (x:=vl) rfl (zA (wpAny_field hos hds (x:=vu) rfl (zA (wpAny_field hos hds (x:=.none) rfl (zB ?_)))))))
 refine zA (slicePart_none ?_)
 show wpAny _ _ (if ((1:Int)==0)=true then _ else _) _ _ s
 rw[if_neg (by decide)]
 refine zA (zEb pl (zA (zEb pu (zA (zB ?_)))))
 show wpAny _ _ (match Builtin.Slice.sliceAdjust lo hi 1 (n:Int) with | (lo,hi)=>pure (lo,(1:Int),Builtin.Slice.slicePlaces lo hi 1)) _ _ s
 rw[zH1 lo hi n]
 show wpAny _ _ (pure (((sIx n 0 lo:Nat):Int),(1:Int),Builtin.Slice.slicePlaces ((sIx n 0 lo:Nat):Int) ((sIx n n hi:Nat):Int) 1)) _ _ s
 rw[zHg]
 exact zB h
theorem zJ3 (xs:Array Value)(i k:Nat):((List.range k).filterMap fun (m:Nat)=>xs[((i:Int)+(m:Int)*1).toNat]?).toArray=((xs.toList.drop i).take k).toArray:=by
 have e:(fun (m:Nat)=>xs[((i:Int)+(m:Int)*1).toNat]?)=fun m=>xs[i+m]?:=by
  funext m
  have:((i:Int)+(m:Int)*1).toNat=i+m:=by omega
  rw[this]
 rw[e]
 have:=pick_run xs i k
 rw[List.filterMap_map] at this
 have e2:((fun x=>xs[x]?)∘fun x=>i+x)=fun m=>xs[i+m]?:=rfl
 rw[e2] at this
 rw[this]
theorem getItem_tuple_cut {t sl:Addr}{items:Array Value}{vl vu:Value}{lo hi:Option Int}{Q:Value->Shared->Prop}(ht:IsTup s.heap t items)(hs:s.heap.IsSliceOf sl vl vu .none)(pl:IsPart vl lo)(pu:IsPart vu hi)
 (hw:¬ (sIx items.size 0 lo=0/\sIx items.size items.size hi=items.size))
 (h:Q (.ref s.heap.objs.size) { s with heap:=s.heap.push { cls:=.type "tuple",data:=.seq ((items.toList.drop (sIx items.size 0 lo)).take (sIx items.size items.size hi-sIx items.size 0 lo)).toArray } })
 (hsz:items.size<=sizeLine):wpAny (model prog w) A (getItem (.ref t) (.ref sl)) Q E s:=by
 have htake:sizeOk (.seq ((items.toList.drop (sIx items.size 0 lo)).take (sIx items.size items.size hi-sIx items.size 0 lo)).toArray):=by
  show ((items.toList.drop (sIx items.size 0 lo)).take (sIx items.size items.size hi-sIx items.size 0 lo)).toArray.size<=sizeLine
  rw[zS,zp,List.length_drop,Array.length_toList]
  omega
 have hj:sIx items.size items.size hi<=items.size:=sIx_le _ _ (zG _) hi
 obtain⟨os,hos,hcs,hds⟩:=id hs
 have hTs:s.TypeIs (.ref sl) "slice" := ⟨os,hos,hcs⟩
 unfold getItem
 try with_reducible refine zq ?_
 first | refine zA (zB ?_) | skip
 refine zA (wpAny_sequenceKey ht.typeIs (by decide) ?_)
 refine zA (zAr (name:=Str.ofString "__getitem__") ht.typeIs PyProof.Rows.slot_tuple_getitem
  (zAO PyProof.Rows.slot_tuple_getitem ht.typeIs entry_tuple_getitem ?_ (args_tuple_getitem _ _)))
 show wpAny _ _ (Builtin.Tuple.tupleItemsOf (.ref t) >>= _) _ _ s
 refine zA (tupleItemsOf_ ht ?_)
 refine zA (zBf hTs ?_)
 rw[if_pos (by decide)]
 refine zA (zCa hs pl pu ?_)
 have hno:¬ ((((sIx items.size 0 lo:Nat):Int)==0 && (1:Int)==1 && (sIx items.size items.size hi-sIx items.size 0 lo)==items.size)=true):=by
  intro q
  rw[zAz,zAz] at q
  have q1:((sIx items.size 0 lo:Nat):Int)=0:=eq_of_beq q.1.1
  have q2:sIx items.size items.size hi-sIx items.size 0 lo=items.size:=eq_of_beq q.2
  exact hw ⟨by omega,by omega⟩
 show wpAny _ _ (if (((sIx items.size 0 lo:Nat):Int)==0 && (1:Int)==1 && (sIx items.size items.size hi-sIx items.size 0 lo)==items.size)=true then _ else _) _ _ s
 rw[if_neg hno,zJ3]
 first
  | exact zA (m:=Builtin.Tuple.tupleExact _) (zAN (zB ⟨_,rfl,zB h⟩) htake)
  | exact zA (m:=Builtin.Tuple.tupleExact _) (zAN (zA (zB (zB ⟨_,rfl,zB h⟩))) htake)
  | exact zA (zA (m:=Builtin.Tuple.tupleExact _) (zAN (zB (zB ⟨_,rfl,zB h⟩)) htake))
  | exact zA (zA (m:=Builtin.Tuple.tupleExact _) (zAN (zB ⟨_,rfl,zB h⟩) htake))
end
end HT
namespace L2
open PySem PySem.Spec PyProof.Rows
noncomputable abbrev TO:=St->Hp->(Option Int->Hp->Prop)->Prop
noncomputable def PO (X:Cx)(e:Option Expr)(t:TO):Prop:=
 ∀(pins:List (Addr×Obj))(s:Shared)(σ:St)(H:Hp)(Q:Option Int->Hp->Prop),Inv X pins σ H s->t σ H Q ->
  wpAny (model X.prog X.w) X.A (evalPart e X.env) (fun u s'=>∃o H',Inv X pins σ H' s'/\IsPart u o/\Q o H') X.xe s
noncomputable def zK4:TO:=fun _ H Q=>Q none H
noncomputable def tPart (t:TE):TO:=fun σ H Q=>t σ H fun x H1=>∃i,x = .int i/\Q (some i) H1
theorem zBd {ns:List Int}:∀{us:List Value},zBK (ns.map V.int) us->IntsAre us ns:=by
 induction ns with
 | nil=>intro us r;rw[List.map_nil] at r;cases r;exact .nil
 | cons n ns ih=>
  intro us r
  rw[zAU] at r
  cases r with
  | cons r1 r2=>
   obtain⟨t,e⟩:=r1
   subst e
   exact .cons n t (ih r2)
section
variable {X:Cx}{e:Expr}{te:TE}{lo hi:Option Expr}{tl th:TO}{pos p2:Pos}
theorem zDV:PO X none zK4:=by
 intro pins s σ H Q I h
 rw[evalPart_none]
 exact zB ⟨none,H,I,.none,h⟩
theorem zDU (h:PE X e te):PO X (some e) (tPart te):=by
 intro pins s σ H Q I hw
 rw[evalPart_some]
 refine thn (h pins s σ H _ I hw) fun u s1 ⟨x,H1,I1,r1,q1⟩=>?_
 obtain⟨i,rfl,q⟩:=q1
 obtain⟨t,rfl⟩:=r1
 exact⟨some i,H1,I1,.int i t,q⟩
noncomputable def SlR (X:Cx)(r:V->Option Int->Option Int->Hp->VK->Prop):Prop:=
 ∀(pins:List (Addr×Obj))(s:Shared)(σ:St)(H:Hp)(x:V)(v vl vu:Value)(lo hi:Option Int)(sl:Addr)(Q:VK),Inv X pins σ H s->zBe x v->s.heap.IsSliceOf sl vl vu .none->IsPart vl lo->IsPart vu hi->r x lo hi H Q ->
  ∃T id,typeLookup (.type T) "__getitem__" = pure (some (.builtin id))/\s.TypeIs v T/\wpAny (model X.prog X.w) X.A (getItem v (.ref sl)) (EP X pins σ Q) X.xe s
noncomputable def tSl (r:V->Option Int->Option Int->Hp->VK->Prop)(te:TE)(tl th:TO):TE:=fun σ H Q=>te σ H fun x H1=>tl σ H1 fun l H2=>th σ H2 fun u H3=>r x l u H3 Q
theorem zCo {r:V->Option Int->Option Int->Hp->VK->Prop}(hr:SlR X r)(he:PE X e te)(hl:PO X lo tl)(hu:PO X hi th):PE X (.Subscript e (.Slice lo hi none p2) pos) (tSl r te tl th):=by
 intro pins s σ H Q I h
 refine Subscript_ (thn (he pins s σ H _ I h) fun v s1 ⟨x,H1,I1,r1,q1⟩=>?_)
 refine wpAny_Slice (thn (hl pins s1 σ H1 _ I1 q1) fun vl s2 ⟨l,H2,I2,pl,q2⟩=>thn (hu pins s2 σ H2 _ I2 q2) fun vu s3 ⟨u,H3,I3,pu,q3⟩=>?_)
 rw[evalPart_none]
 refine zB ?_
 have I4:Inv X pins σ H3 { s3 with heap:=s3.heap.push { cls:=.type "slice",data:=.fields #[vl,vu,.none] } }:=I3.kept (t':=s3.toks) fun b ob q=>zE _ q
 obtain⟨T,id,hT,ht,hg⟩:=hr pins { s3 with heap:=s3.heap.push { cls:=.type "slice",data:=.fields #[vl,vu,.none] } } σ H3 x v vl vu l u s3.heap.objs.size Q I4 r1 (Heap.IsSliceOf.new ..) pl pu q3
 show wpAny (model X.prog X.w) X.A (subscriptTail e (.Slice lo hi none p2) v (.ref s3.heap.objs.size)) (EP X pins σ Q) X.xe { s3 with heap:=s3.heap.push { cls:=.type "slice",data:=.fields #[vl,vu,.none] } }
 exact tail_any (ops:=[.ref s3.heap.objs.size,v]) ht hT hg (by with_unfolding_all rfl)
noncomputable def zFO (xs:List V)(lo hi:Option Int):List V:=(xs.drop (HT.sIx xs.length 0 lo)).take (HT.sIx xs.length xs.length hi-HT.sIx xs.length 0 lo)
theorem zC6 (xs:List V)(lo hi:Option Int):(zFO xs lo hi).length<=xs.length:=by
 unfold zFO
 rw[zp,List.length_drop]
 omega
noncomputable def rSlT (K:PySem.W.Frag):V->Option Int->Option Int->Hp->VK->Prop:=fun x lo hi H Q=>∃a xs,x = .ref a/\SqT K H a xs /\
 ¬ (HT.sIx xs.length 0 lo=0/\HT.sIx xs.length xs.length hi=xs.length)/\∀p,H p=none->Q (.ref p) (upd H p (.tup (zFO xs lo hi)))
theorem sl_tup:SlR X (rSlT X.K):=by
 intro pins s σ H x v vl vu lo hi sl Q I rx hs pl pu h
 obtain⟨a,xs,rfl,hx,hw,q⟩:=h
 cases rx
 obtain⟨its,r,ht,hz⟩:=I.tuple hx
 have hlen:its.toArray.size=xs.length:=by rw[zS];exact r.length.symm
 refine⟨"tuple",_,PyProof.Rows.slot_tuple_getitem.lookup,ht.typeIs,?_⟩
 refine HT.getItem_tuple_cut ht hs pl pu (by rw[hlen];exact hw) ?_ (by rw[hlen];exact hz)
 rw[hlen]
 refine⟨.ref s.heap.objs.size,_,I.laid (t':=s.toks) (o:=.tup (zFO xs lo hi)) (fun b ob q=>zE _ q) (zG _) ?_,rfl,q _ (I.hok.fresh (zG _))⟩
 exact⟨⟨zAl (zC6 xs lo hi) hz,_,zK _ rfl,rfl⟩,_,(r.drop (HT.sIx xs.length 0 lo)).take (HT.sIx xs.length xs.length hi-HT.sIx xs.length 0 lo),IsTup.new _ _⟩
noncomputable def rCatT (K:PySem.W.Frag):R2:=fun x y H Q=>∃a b xs ys,x = .ref a/\y = .ref b/\SqT K H a xs/\SqT K H b ys/\xs≠[]/\xs.length+ys.length<=sizeLine /\
 (ys=[]->Q (.ref a) H)/\(ys≠[]->∀p,H p=none->Q (.ref p) (upd H p (.tup (xs++ys))))
theorem zBK.nil_iff {xs:List V}{us:List Value}(r:zBK xs us):us=[]↔xs=[]:=by
 cases r with
 | nil=>simp
 | cons _ _=>simp
theorem zLV:OpR X (binaryOp .Add) (rCatT X.K):=by
 intro pins s σ H x y v u Q I rx ry h
 obtain⟨a,b,xs,ys,rfl,rfl,ha,hb,hx,hz,q1,q2⟩:=h
 cases rx
 cases ry
 obtain⟨its,r1,p1,_⟩:=I.tuple ha
 obtain⟨its2,r2,p2,_⟩:=I.tuple hb
 refine HT.cat_tup p1 p2 (fun z=>hx (r1.nil_iff.mp z)) (fun z=>⟨.ref a,H,I,rfl,q1 (r2.nil_iff.mp z)⟩) (fun z=>?_) (by rw[<-r1.length,<-r2.length];exact hz)
 refine⟨.ref s.heap.objs.size,_,I.laid (t':=s.toks) (o:=.tup (xs++ys)) (fun b ob q=>zE _ q) (zG _) ?_,rfl,q2 (fun w=>z (r2.nil_iff.mpr w)) _ (I.hok.fresh (zG _))⟩
 exact⟨⟨by rw[zH];exact hz,_,zK _ rfl,rfl⟩,_,r1.append r2,IsTup.new _ _⟩
end
end L2
namespace L2
open PySem PySem.Spec PyProof.Rows
noncomputable def ixN (n:Nat)(i:Int):Option Nat:=if 0<=i then (if i<n then some i.toNat else none) else if -(n:Int)<=i then some (i+n).toNat else none
noncomputable def atI {α:Type}(xs:List α)(i:Int):Option α:=(ixN xs.length i).bind fun j=>xs[j]?
theorem zI2 {n:Nat}{i:Int}{j:Nat}(h:ixN n i=some j):seqIndex? i n=some j/\j<n /\ -(n:Int)<=i/\i<n:=by
 unfold ixN at h
 by_cases h0:0<=i
 . rw[if_pos h0] at h
   by_cases h1:i<n
   . rw[if_pos h1] at h
     have e:i.toNat=j:=za h
     exact⟨by rw[seqIndex_of h0 h1,e],by omega,by omega,h1⟩
   . rw[if_neg h1] at h;cases h
 . rw[if_neg h0] at h
   by_cases h1 : -(n:Int)<=i
   . rw[if_pos h1] at h
     have e:(i+n).toNat=j:=za h
     exact⟨by rw[seqIndex_neg (by omega) h1,e],by omega,h1,by omega⟩
   . rw[if_neg h1] at h;cases h
theorem zJZ {α:Type}{xs:List α}{i:Int}{v:α}(h:atI xs i=some v):∃j,seqIndex? i xs.length=some j/\xs[j]? = some v/\j<xs.length /\ -(xs.length:Int)<=i/\i<xs.length:=by
 unfold atI at h
 cases e:ixN xs.length i with
 | none=>rw[e] at h;cases h
 | some j=>
  rw[e] at h
  obtain⟨h1,h2,h3,h4⟩:=zI2 e
  exact⟨j,h1,h,h2,h3,h4⟩
theorem zB8 {α:Type}{xs:List α}{j:Nat}{v:α}(h:xs[j]? = some v):atI xs (j:Int)=some v:=by
 have hj:j<xs.length:=(zJ.mp h).1
 have e:ixN xs.length (j:Int)=some j:=by
  unfold ixN
  rw[if_pos (by omega),if_pos (by omega)];simp
 unfold atI;rw[e];exact h
noncomputable def zL0 (b:Expr):Prop:=∀o i,subscripted b false o i=operate [o,i] (getItem o i)
noncomputable def IxR (X:Cx)(r:R2):Prop:=
 ∀(value slice:Expr)(pins:List (Addr×Obj))(s:Shared)(σ:St)(H:Hp)(x y:V)(v u:Value)(Q:VK),Inv X pins σ H s->zBe x v->zBe y u->r x y H Q ->
  subscripted slice false v u=operate [v,u] (getItem v u)->wpAny (model X.prog X.w) X.A (subscriptTail value slice v u) (EP X pins σ Q) X.xe s
noncomputable def MtR (X:Cx)(id:String)(r:V->List V->Hp->VK->Prop):Prop:=
 ∀(pins:List (Addr×Obj))(s:Shared)(σ:St)(H:Hp)(x:V)(xs:List V)(v:Value)(us:List Value)(Q:VK),Inv X pins σ H s->zBe x v->zBK xs us->r x xs H Q ->
  wpAny (model X.prog X.w) X.A (call (.builtin id) (v::us)) (EP X pins σ Q) X.xe s
section
variable {X:Cx}{a b:Expr}{ta tb:TE}{pos:Pos}
theorem zAj {r:R2}(hr:IxR X r)(ha:PE X a ta)(hb:PE X b tb)(hs:zL0 b):PE X (.Subscript a b pos) (tOp r ta tb):=by
 intro pins s σ H Q I h
 exact Subscript_ (binT ha hb I h fun v u s2 x y H2 I2 rx ry q=>hr a b pins s2 σ H2 x y v u Q I2 rx ry q (hs _ _))
noncomputable def rIxL (K:PySem.W.Frag):R2:=fun x y H Q=>∃p xs i v,x = .ref p/\y = .int i/\SqL K H p xs/\atI xs i=some v/\Q v H
noncomputable def rIxT (K:PySem.W.Frag):R2:=fun x y H Q=>∃p xs i v,x = .ref p/\y = .int i/\SqT K H p xs/\atI xs i=some v/\Q v H
theorem zBE:IxR X (rIxL X.K):=by
 intro value slice pins s σ H x y v u Q I rx ry h hs
 obtain⟨p,xs,i,z,rfl,rfl,hq,he,q⟩:=h
 cases rx
 obtain⟨t,rfl⟩:=ry
 obtain⟨its,r,pl,hz⟩:=I.list hq
 obtain⟨j,h1,h2,h3,h4,h5⟩:=zJZ he
 obtain⟨w,ew,rw'⟩:=r.get h2
 have hl:=r.length
 have hn:=zFq
 have fin:EP X pins σ Q w s:=⟨z,H,I,rw',q⟩
 by_cases h0:0<=i
 . have hj:i.toNat=j:=by
    rw[seqIndex_of h0 h5] at h1
    exact za h1
   exact item_listR pl.isList h0 (by omega) (by rw[hj];simpa using ew) fin hs
 . have hj:(i+(its.toArray.size:Int)).toNat=j:=by
    rw[seqIndex_neg (by omega) h4] at h1
    rw[zS,<-hl]
    exact za h1
   exact subscriptTail_builtinR (x:=w) pl.isList.typeIs slot_list_getitem.lookup
    (wpAny_getItem_list_neg (Q:=fun r s'=>r=w/\EP X pins σ Q r s') pl.isList (by omega) (by rw[zS] <;> omega) (by omega) (by rw[hj];simpa using ew) ⟨rfl,fin⟩) hs
theorem zAp:IxR X (rIxT X.K):=by
 intro value slice pins s σ H x y v u Q I rx ry h hs
 obtain⟨p,xs,i,z,rfl,rfl,hq,he,q⟩:=h
 cases rx
 obtain⟨t,rfl⟩:=ry
 obtain⟨its,r,pl,hz⟩:=I.tuple hq
 obtain⟨j,h1,h2,h3,h4,h5⟩:=zJZ he
 obtain⟨w,ew,rw'⟩:=r.get h2
 have hl:=r.length
 have hn:=zFq
 have fin:EP X pins σ Q w s:=⟨z,H,I,rw',q⟩
 exact subscriptTail_builtinR (x:=w) pl.typeIs slot_tuple_getitem.lookup
  (getItem_tuple (j:=j) (Q:=fun r s'=>r=w/\EP X pins σ Q r s') pl (by omega) (by omega) (by rw[zS,<-hl];exact h1) (by simpa using ew) ⟨rfl,fin⟩) hs
theorem zHm (its:List Value)(n j:Nat)(u:Value):Obj.mapSeq (·.setIfInBounds j u) { cls:=.type "list",data:=.seq its.toArray n }={ cls:=.type "list",data:=.seq (its.set j u).toArray n }:=by
 simp[Obj.mapSeq]
theorem Inv.lst {pins:List (Addr×Obj)}{σ:St}{H:Hp}{s:Shared}{p:Addr}{xs:List V}(I:Inv X pins σ H s)(h:H p=some (.lst xs)) :
 ∃(its:List Value)(n:Nat),zBK xs its/\s.heap.get? p=some { cls:=.type "list",data:=.seq its.toArray n }/\xs.length<=sizeLine:=by
 obtain⟨z,its,n,r,e⟩:=I.hok p _ h
 exact⟨its,n,r,e,z⟩
theorem Inv.lstUpd {pins:List (Addr×Obj)}{σ:St}{H:Hp}{s:Shared}{p:Addr}{xs ys:List V}{its its':List Value}{n n':Nat}{f:Obj->Obj}(I:Inv X pins σ H s)(h:H p=some (.lst xs))
 (ho:s.heap.get? p=some { cls:=.type "list",data:=.seq its.toArray n }) (hf:f { cls:=.type "list",data:=.seq its.toArray n }={ cls:=.type "list",data:=.seq its'.toArray n' }) (r:zBK ys its')(hz:ys.length<=sizeLine)(t:Nat) :
 Inv X pins σ (upd H p (.lst ys)) { s with heap:=s.heap.update p f,toks:=t }:=by
 have e:(s.heap.update p f).get? p=some { cls:=.type "list",data:=.seq its'.toArray n' }:=by
  rw[zi f ho (by rw[hf] <;> rfl),hf]
 refine I.write (x:=p) (e:=p) (by rw[h];trivial) (.inl rfl) (fun b u hb q=>(zAi _ _ (Ne.symm hb)).trans q) ⟨_,e⟩ ?_
 exact⟨hz,its',n',r,e⟩
noncomputable def rSetL:V->V->V->Hp->(Hp->Prop)->Prop:=fun o i v H Q=>∃p xs k j,o = .ref p/\i = .int k/\H p=some (.lst xs)/\ixN xs.length k=some j/\Q (upd H p (.lst (xs.set j v)))
theorem zEx:PSet X rSetL:=by
 intro pins s σ H o i v ov iv u Q I ro ri rv h
 obtain⟨p,xs,k,j,rfl,rfl,hp,hj,q⟩:=h
 cases ro
 obtain⟨t,rfl⟩:=ri
 obtain⟨its,n,r,ho,hz⟩:=I.lst hp
 obtain⟨h1,h2,h3,h4⟩:=zI2 hj
 have hl:=r.length
 have hn:=zFq
 have I':Inv X pins σ (upd H p (.lst (xs.set j v))) { s with heap:=s.heap.update p (Obj.mapSeq (·.setIfInBounds j u)) }:=
  I.lstUpd hp ho (zHm its n j u) (r.set rv j) (by rw[List.length_set];exact hz) s.toks
 by_cases h0:0<=k
 . have hk:k.toNat=j:=by
    rw[seqIndex_of h0 h4] at h1
    exact za h1
   exact PySem.W.ki_setAt ho h0 (by omega) (by rw[zS,<-hl];exact h4) (by rw[hk];exact⟨_,I',q⟩)
 . have hk:(k+(its.toArray.size:Int)).toNat=j:=by
    rw[seqIndex_neg (by omega) h3] at h1
    rw[zS,<-hl]
    exact za h1
   exact PySem.W.ki_setBack ho (by omega) (by rw[zS,<-hl];exact h3) (by omega) (by rw[hk];exact⟨_,I',q⟩)
theorem zFX (lo hi:Option Int)(n:Nat):(sliceBounds lo hi none n).1=((HT.sIx n 0 lo:Nat):Int)/\(sliceBounds lo hi none n).2.1=((HT.sIx n n hi:Nat):Int)/\(sliceBounds lo hi none n).2.2=1:=by
 refine⟨?_,?_,rfl⟩
 . cases lo with
   | none=>simp[sliceBounds,HT.sIx]
   | some i=>
    simp only[sliceBounds,HT.sIx,Option.getD_none,show (1:Int) > 0 by decide,if_true]
    by_cases h:i<0
    . simp only[h,if_true] <;> omega
    . simp only[h,if_false] <;> omega
 . cases hi with
   | none=>simp[sliceBounds,HT.sIx]
   | some i=>
    simp only[sliceBounds,HT.sIx,Option.getD_none,show (1:Int) > 0 by decide,if_true]
    by_cases h:i<0
    . simp only[h,if_true] <;> omega
    . simp only[h,if_false] <;> omega
theorem zEt (its:List Value)(lo hi:Option Int):slicePick its.toArray lo hi none=((its.drop (HT.sIx its.length 0 lo)).take (HT.sIx its.length its.length hi-HT.sIx its.length 0 lo)).toArray:=by
 obtain⟨h1,h2,h3⟩:=zFX lo hi its.toArray.size
 unfold slicePick
 rw[h1,h2,h3]
 simp only[sliceRange_one,pick_run,zS] <;> rfl
noncomputable def rSlL (K:PySem.W.Frag):V->Option Int->Option Int->Hp->VK->Prop:=fun x lo hi H Q=>∃a xs,x = .ref a/\SqL K H a xs/\∀p,H p=none->Q (.ref p) (upd H p (.lst (zFO xs lo hi)))
theorem zIK:SlR X (rSlL X.K):=by
 intro pins s σ H x v vl vu lo hi sl Q I rx hs pl pu h
 obtain⟨a,xs,rfl,hx,q⟩:=h
 cases rx
 obtain⟨its,r,ht,hz⟩:=I.list hx
 have hlen:=r.length
 refine⟨"list",_,slot_list_getitem.lookup,ht.isList.typeIs,?_⟩
 refine wpAny_getItem_list_slice ht.isList hs pl pu .none (by simp) ?_ (by rw[zS] <;> omega)
 rw[zEt,<-hlen]
 refine⟨.ref s.heap.objs.size,_,I.laid (t':=s.toks) (o:=.lst (zFO xs lo hi)) (fun b ob q=>zE _ q) (zG _) ?_,rfl,q _ (I.hok.fresh (zG _))⟩
 exact⟨zAl (zC6 xs lo hi) hz,_,0,(r.drop (HT.sIx xs.length 0 lo)).take (HT.sIx xs.length xs.length hi-HT.sIx xs.length 0 lo),zK _ rfl⟩
noncomputable def zFI:V->Bool
 | .non=>true
 | .bl _=>true
 | .int _=>true
 | .str _=>true
 | _=>false
noncomputable def eqV:V->V->Bool
 | .non,.non=>true
 | .bl a,.bl b=>a==b
 | .bl a,.int b=>(if a then 1 else 0)==b
 | .int a,.bl b=>a==(if b then 1 else 0)
 | .int a,.int b=>a==b
 | .str a,.str b=>a==b
 | _,_=>false
theorem eqAt_V {A:Around}{s:Shared}{y x:V}{u v:Value}(ry:zBe y u)(rx:zBe x v)(fy:zFI y=true)(fx:zFI x=true):SeqAt.EqAt A s u v (eqV y x):=by
 cases y with
 | non=>
  cases ry
  cases x with
  | non=>cases rx;exact SeqAt.EqAt.same _
  | bl b=>cases rx;exact SeqAt.EqAt.none_bool b
  | int b=>obtain⟨t,rfl⟩:=rx;exact SeqAt.EqAt.none_int b t
  | str b=>obtain⟨t,rfl⟩:=rx;exact SeqAt.EqAt.none_str b t
  | _=>exact absurd (show false=true from fx) zh
 | bl a=>
  cases ry
  cases x with
  | non=>cases rx;exact SeqAt.EqAt.bool_none a
  | bl b=>cases rx;exact SeqAt.EqAt.bool_bool a b
  | int b=>obtain⟨t,rfl⟩:=rx;exact SeqAt.EqAt.bool_int a b t
  | str b=>obtain⟨t,rfl⟩:=rx;exact SeqAt.EqAt.bool_str a b t
  | _=>exact absurd (show false=true from fx) zh
 | int a=>
  obtain⟨t',rfl⟩:=ry
  cases x with
  | non=>cases rx;exact SeqAt.EqAt.int_none a t'
  | bl b=>cases rx;exact SeqAt.EqAt.int_bool a t' b
  | int b=>obtain⟨t,rfl⟩:=rx;exact SeqAt.EqAt.int_int a t' b t
  | str b=>obtain⟨t,rfl⟩:=rx;exact SeqAt.EqAt.int_str a t' b t
  | _=>exact absurd (show false=true from fx) zh
 | str a=>
  obtain⟨t',rfl⟩:=ry
  cases x with
  | non=>cases rx;exact SeqAt.EqAt.str_none a t'
  | bl b=>cases rx;exact SeqAt.EqAt.str_bool a t' b
  | int b=>obtain⟨t,rfl⟩:=rx;exact SeqAt.EqAt.str_int a t' b t
  | str b=>obtain⟨t,rfl⟩:=rx;exact SeqAt.EqAt.str_str a t' b t
  | _=>exact absurd (show false=true from fx) zh
 | _=>exact absurd (show false=true from fy) zh
noncomputable def eqU (x:V)(u:Value):Bool:=match u with
 | .none=>eqV .non x
 | .bool b=>eqV (.bl b) x
 | .int i _=>eqV (.int i) x
 | .str z _=>eqV (.str z) x
 | _=>false
theorem zKt {x y:V}{u:Value}(r:zBe y u)(f:zFI y=true):eqU x u=eqV y x:=by
 cases y with
 | non=>cases r;rfl
 | bl b=>cases r;rfl
 | int i=>obtain⟨t,rfl⟩:=r;rfl
 | str z=>obtain⟨t,rfl⟩:=r;rfl
 | _=>exact absurd (show false=true from f) zh
theorem zEM {x:V}:∀{xs:List V}{us:List Value},zBK xs us->xs.all zFI=true->us.any (eqU x)=xs.any fun y=>eqV y x
 | _,_,.nil,_=>rfl
 | y::xs,u::us,.cons r t,f=>by
  rw[List.all_cons,zAz] at f
  rw[List.any_cons,List.any_cons,zKt r f.1,zEM t f.2]
theorem zDC {A:Around}{s:Shared}{x:V}{v:Value}(rx:zBe x v)(fx:zFI x=true):∀{xs:List V}{us:List Value},zBK xs us->xs.all zFI=true->∀u∈us,SeqAt.EqAt A s u v (eqU x u)
 | _,_,.nil,_=>fun u hu=>by cases hu
 | y::xs,u::us,.cons r t,f=>fun u' hu=>by
  rw[List.all_cons,zAz] at f
  rcases zW.mp hu with rfl | hu
  . rw[zKt r f.1];exact eqAt_V r rx f.1 fx
  . exact zDC rx fx t f.2 u' hu
noncomputable def inV (x:V)(xs:List V):Bool:=xs.any fun y=>eqV y x
noncomputable def rIn (K:PySem.W.Frag)(neg:Bool):R2:=fun x y H Q=>∃p xs,y = .ref p/\(SqL K H p xs\/SqT K H p xs)/\zFI x=true/\xs.all zFI=true/\Q (.bl (if neg then !inV x xs else inV x xs)) H
theorem zD4:OpR X (compareOp .In) (rIn X.K false):=by
 intro pins s σ H x y v u Q I rx ry h
 obtain⟨p,xs,rfl,hq,fx,fs,q⟩:=h
 cases ry
 rcases hq with hq | hq
 . obtain⟨its,r,pl,hz⟩:=I.list hq
   refine SeqAt.in_listAt (eqU x) pl.isList (fun w hw=>zDC rx fx r fs w (by simpa using hw)) ⟨.bl _,H,I,rfl,?_⟩
   rw[show its.toArray.any (eqU x)=its.any (eqU x) by simp,zEM r fs]
   exact q
 . obtain⟨its,r,pl,hz⟩:=I.tuple hq
   refine SeqAt.in_tupleAt (eqU x) pl (fun w hw=>zDC rx fx r fs w (by simpa using hw)) ⟨.bl _,H,I,rfl,?_⟩
   rw[show its.toArray.any (eqU x)=its.any (eqU x) by simp,zEM r fs]
   exact q
theorem zCM:OpR X (compareOp .NotIn) (rIn X.K true):=by
 intro pins s σ H x y v u Q I rx ry h
 obtain⟨p,xs,rfl,hq,fx,fs,q⟩:=h
 cases ry
 rcases hq with hq | hq
 . obtain⟨its,r,pl,hz⟩:=I.list hq
   refine SeqAt.notIn_listAt (eqU x) pl.isList (fun w hw=>zDC rx fx r fs w (by simpa using hw)) ⟨.bl _,H,I,rfl,?_⟩
   rw[show its.toArray.any (eqU x)=its.any (eqU x) by simp,zEM r fs]
   exact q
 . obtain⟨its,r,pl,hz⟩:=I.tuple hq
   refine SeqAt.notIn_tupleAt (eqU x) pl (fun w hw=>zDC rx fx r fs w (by simpa using hw)) ⟨.bl _,H,I,rfl,?_⟩
   rw[show its.toArray.any (eqU x)=its.any (eqU x) by simp,zEM r fs]
   exact q
theorem zAe:zCd X (.builtin "len") (fun xs H Q=>∃p ys,xs=[.ref p]/\(SqL X.K H p ys\/SqT X.K H p ys)/\Q (.int ys.length) H):=by
 intro pins s σ H xs us Q I r h
 obtain⟨p,ys,rfl,hq,q⟩:=h
 obtain⟨u,rfl,rx⟩:=zDQ r
 cases rx
 have hn:=zFq
 rcases hq with hq | hq
 . obtain⟨its,r',pl,hz⟩:=I.list hq
   have hlen:=r'.length
   exact Calls.call_len_list pl.isList (by simp only[zS] <;> omega) ⟨.int ys.length,H,I.tok _,⟨s.toks+1,by rw[zS,hlen]⟩,q⟩
 . obtain⟨its,r',pl,hz⟩:=I.tuple hq
   have hlen:=r'.length
   exact len_tuple pl (by simp only[zS] <;> omega) ⟨.int ys.length,H,I.tok _,⟨s.toks+1,by rw[zS,hlen]⟩,q⟩
theorem zGA:zCd X (.type "list") (fun xs H Q=>∃p ys,xs=[.ref p]/\(SqL X.K H p ys\/SqT X.K H p ys)/\∀l,H l=none->Q (.ref l) (upd H l (.lst ys))):=by
 intro pins s σ H xs us Q I r h
 obtain⟨p,ys,rfl,hq,q⟩:=h
 obtain⟨u,rfl,rx⟩:=zDQ r
 cases rx
 have fin:∀(its:List Value),zBK ys its->ys.length<=sizeLine->∀(h':Heap)(c':Nat),(∀b o',s.heap.get? b=some o'->h'.get? b=some o') ->
  h'.get? s.heap.objs.size=some { cls:=.type "list",dict:=none,data:=.seq its.toArray c',slots:=#[] }->EP X pins σ Q (.ref s.heap.objs.size) { s with heap:=h' }:=fun its r' hz h' c' kp e=>
  ⟨.ref s.heap.objs.size,_,I.laid (t':=s.toks) kp (zG _) (show zBc X.prog X.w _ h' _ (.lst ys) from ⟨hz,its,c',r',e⟩),rfl,q _ (I.hok.fresh (zG _))⟩
 rcases hq with hq | hq
 . obtain⟨its,r',pl,hz⟩:=I.list hq
   have hlen:=r'.length
   obtain⟨o,ho,hc,n,hd⟩:=pl.isList
   exact call_list_seq p (.inl rfl) ho hc hd (fun h' c' kp e=>fin its r' hz h' c' kp e) (by simp only[zS] <;> omega)
 . obtain⟨its,r',pl,hz⟩:=I.tuple hq
   have hlen:=r'.length
   obtain⟨o,ho,hc,n,hd⟩:=pl
   exact call_list_seq p (.inr rfl) ho hc hd (fun h' c' kp e=>fin its r' hz h' c' kp e) (by simp only[zS] <;> omega)
theorem zA0:zCd X (.type "tuple") (fun xs H Q=>∃p ys,xs=[.ref p]/\((SqL X.K H p ys/\∀l,H l=none->Q (.ref l) (upd H l (.tup ys)))\/(SqT X.K H p ys/\Q (.ref p) H))):=by
 intro pins s σ H xs us Q I r h
 obtain⟨p,ys,rfl,h⟩:=h
 obtain⟨u,rfl,rx⟩:=zDQ r
 cases rx
 rcases h with ⟨hq,q⟩ | ⟨hq,q⟩
 . obtain⟨its,r',pl,hz⟩:=I.list hq
   have hlen:=r'.length
   refine call_tuple_list pl.isList (fun h' kp=>?_) (by simp only[zS] <;> omega)
   have I1:Inv X pins σ H { s with heap:=h' }:=I.kept (t':=s.toks) kp
   have I2:Inv X pins σ (upd H h'.objs.size (.tup ys)) { s with heap:=h'.push { cls:=.type "tuple",data:=.seq its.toArray } }:=
    I1.laid (t':=s.toks) (fun b o e=>zE _ e) (zG _) (show zBc X.prog X.w _ _ _ (.tup ys) from ⟨⟨hz,_,zK _ rfl,rfl⟩,its,r',IsTup.new _ _⟩)
   exact⟨.ref h'.objs.size,_,I2,rfl,q _ (I1.hok.fresh (zG _))⟩
 . obtain⟨its,r',pl,hz⟩:=I.tuple hq
   exact call_tuple_same pl ⟨.ref p,H,I,rfl,q⟩
noncomputable def tyV (K:PySem.W.Frag)(T:String)(x:V)(H:Hp):Prop:=match x with
 | .str _=>T = "str"
 | .int _=>T = "int"
 | .ref p=>(T = "list" /\ ∃xs,SqL K H p xs)\/(T = "tuple" /\ ∃o,K.lookup p=some o/\o.cls = .type "tuple" /\ o.dict=none) \/
  (T = "dict" /\ ((∃kvs,H p=some (.dK kvs))\/∃kvs,H p=some (.dT kvs)))\/(T = "set" /\ ∃S n,H p=some (.set S n))
 | _=>False
theorem tyV_is {pins:List (Addr×Obj)}{σ:St}{H:Hp}{s:Shared}{T:String}{x:V}{v:Value}(I:Inv X pins σ H s)(r:zBe x v)(ty:tyV X.K T x H) :
 s.TypeIs v T/\∀a,v = .ref a->∃ob,s.heap.get? a=some ob/\ob.dict=none:=by
 cases x with
 | str z=>
  obtain⟨t,rfl⟩:=r
  cases (show T = "str" from ty)
  exact⟨typeIs_str s z t,fun _ e=>nomatch e⟩
 | int i=>
  obtain⟨t,rfl⟩:=r
  cases (show T = "int" from ty)
  exact⟨typeIs_int s i t,fun _ e=>nomatch e⟩
 | ref p=>
  cases r
  rcases ty with ⟨rfl,xs,hq⟩ | ⟨rfl,o,hk,hc,hd⟩ | ⟨rfl,hk⟩ | ⟨rfl,S,n,hk⟩
  . obtain⟨its,_,pl,_⟩:=I.list hq
    refine⟨pl.isList.typeIs,fun a e=>?_⟩
    cases e
    obtain⟨o,n,e,c,hd,_⟩:=pl
    exact⟨o,e,hd⟩
  . refine⟨⟨o,I.kIn p o hk,hc⟩,fun a e=>?_⟩
    cases e
    exact⟨o,I.kIn _ o hk,hd⟩
  . have z:∃o,s.heap.get? p=some o/\o.ExactDict:=by
     rcases hk with ⟨kvs,hk⟩ | ⟨kvs,hk⟩
     . obtain⟨_,_,_,_,o,_,_,e,ex,_⟩:=I.hok p _ hk
       exact⟨o,e,ex⟩
     . obtain⟨_,_,_,_,o,_,_,e,ex,_⟩:=I.hok p _ hk
       exact⟨o,e,ex⟩
    obtain⟨o,e,ex⟩:=z
    refine⟨⟨o,e,ex.1⟩,fun a e2=>?_⟩
    cases e2
    exact⟨o,e,ex.2.1⟩
  . obtain⟨o,_,_,_,e,ex,_⟩:=I.hok p _ hk
    refine⟨⟨o,e,ex.1⟩,fun a e2=>?_⟩
    cases e2
    exact⟨o,e,ex.2.1⟩
 | _=>exact False.elim ty
noncomputable def tBM (K:PySem.W.Frag)(T:String)(r:V->List V->Hp->VK->Prop)(to:TE)(t:TA):TE:=fun σ H Q=>to σ H fun x H1=>tyV K T x H1/\t σ H1 fun xs H2=>r x xs H2 Q
variable {o e:Expr}{es:List Expr}{to:TE}{t:TA}{name:Str}{apos cpos:Pos}{T id:String}{r:V->List V->Hp->VK->Prop}
theorem zDW (pa:PlainAttrs T)(slot:Slot T name id)(hty:typeOf (.builtin id)=pure (.type "method_descriptor")) (hm:MtR X id r)(ho:PE X o to)(ha:PA X (e::es) t)
 (hbase:attributeBase o name X.env (eval o X.env)=eval o X.env:=by rfl)
 (hfew:((backTo cpos (starEach (e::es) X.env)).all (fun x=>!x.1) && (backToKw cpos (keywordEach [] X.env)).all (fun x=>x.1.isSome)
  && decide ((e::es).length+([]:List Keyword).length+(if ([]:List Keyword).isEmpty then 0 else 1)<30))=true:=by rfl)
 (hline:(apos.endLine==cpos.line)=true:=by rfl)(hs:starEach (e::es) X.env=(false,eval e X.env)::starEach es X.env:=by rfl)(hplain:(backTo cpos (starEach es X.env)).any (·.1)=false:=by rfl) :
 PE X (.Call (.Attribute o name apos) (e::es) [] cpos) (tBM X.K T r to t):=by
 intro pins s σ H Q I h
 refine wpAny_Call_method_late hbase hfew hline rfl (thn (ho pins s σ H _ I h) fun v s1 ⟨x,H1,I1,r1,ty,q1⟩=>?_)
 obtain⟨h1,h2⟩:=tyV_is I1 r1 ty
 refine⟨T,id,pa,slot,hty,h1,h2,?_⟩
 have hA:=ha cpos pins s1 σ H1 _ I1 q1
 rw[hs] at hA ⊢
 refine Calls.callWith_builtin (by show (false || (backTo cpos (starEach es X.env)).any (·.1))=false;rw[hplain] <;> rfl) (Calls.evalArgs_plain ?_)
 exact thn hA fun us s2 ⟨vs,H2,I2,r2,q2⟩=>hm pins s2 σ H2 x vs v us Q I2 r1 r2 q2
end
end L2
namespace L2
open PySem PySem.Spec PyProof.Rows
noncomputable def MtM (X:Cx)(id:String)(r:V->List V->Hp->VK->Prop):Prop:=
 ∀(pins:List (Addr×Obj))(s:Shared)(σ:St)(H:Hp)(x:V)(xs:List V)(v:Value)(us:List Value)(Q:VK),Inv X pins σ H s->zBe x v->zBK xs us->r x xs H Q ->
  wpAny (model X.prog X.w) X.A (call (.builtin id) (v::us)) (EP X pins σ Q) X.xe s
theorem zBK.one:∀{x:V}{us:List Value},zBK [x] us->∃u,us=[u]/\zBe x u
 | _,_,.cons r .nil=>⟨_,rfl,r⟩
theorem zBK.eraseIdx:∀{xs:List V}{us:List Value}(i:Nat),zBK xs us->zBK (xs.eraseIdx i) (us.eraseIdx i)
 | _,_,_,.nil=>.nil
 | _,_,0,.cons _ t=>t
 | _,_,i+1,.cons r t=>.cons r (zBK.eraseIdx i t)
theorem zFr {α:Type}:∀(l:List α)(i:Nat),(l.eraseIdx i).length<=l.length
 | [],_=>zG _
 | _::_,0=>zBA _
 | _::r,i+1=>Nat.succ_le_succ (zFr r i)
section
variable {X:Cx}{pins:List (Addr×Obj)}{σ:St}{H:Hp}{s:Shared}{l b:Addr}{xs ys zs:List V}
theorem Inv.lset {its its':List Value}{n:Nat}{f:Array Value->Array Value}{t':Nat}(I:Inv X pins σ H s)(hH:H l=some (.lst xs))
 (e:s.heap.get? l=some { cls:=.type "list",data:=.seq its.toArray n }) (hf:f its.toArray=its'.toArray)(hv:zBK ys its')(hz:ys.length<=sizeLine) :
 Inv X pins σ (upd H l (.lst ys)) { s with heap:=s.heap.update l (Obj.mapSeq f),toks:=t' }:=by
 have q:=PySem.IsL.update e f
 rw[hf] at q
 refine I.write (x:=l) (e:=l) (by rw[hH];exact trivial) (.inl rfl) (fun b' u hb hu=>(zAi s.heap (Obj.mapSeq f) (Ne.symm hb)).trans hu) ⟨_,q⟩ ?_
 exact⟨hz,its',_,hv,q⟩
theorem Inv.lnew {its:List Value}{t':Nat}(I:Inv X pins σ H s)(hv:zBK ys its)(hz:ys.length<=sizeLine) :
 Inv X pins σ (upd H s.heap.objs.size (.lst ys)) { s with heap:=s.heap.push { cls:=.type "list",data:=.seq its.toArray },toks:=t' }:=
 I.laid (fun _ _ q=>zE _ q) (zG _) ⟨hz,its,0,hv,zK _ rfl⟩
theorem Inv.fresh (I:Inv X pins σ H s):H s.heap.objs.size=none:=I.hok.fresh (zG _)
theorem Inv.lstM (I:Inv X pins σ H s)(hH:H l=some (.lst xs)):xs.length<=sizeLine/\∃(its:List Value)(n:Nat),zBK xs its/\xs.length=its.length/\s.heap.get? l=some { cls:=.type "list",data:=.seq its.toArray n }:=by
 obtain⟨z,its,n,r,e⟩:=I.hok l _ hH
 exact⟨z,its,n,r,r.length,e⟩
theorem zKA {n:Nat}(h:n<=sizeLine):Builtin.List.listTooLong n=false:=by
 unfold Builtin.List.listTooLong
 exact zV (by omega)
end
section
variable {X:Cx}
noncomputable def zLM:V->List V->Hp->VK->Prop:=fun x vs H Q=>∃l xs y,x = .ref l/\vs=[y]/\H l=some (.lst xs)/\xs.length<sizeLine/\Q .non (upd H l (.lst (xs++[y])))
theorem zBZ:MtM X "list.append" zLM:=by
 intro pins s σ H x vs v us Q I rx rv h
 obtain⟨l,xs,y,rfl,rfl,hH,hz,q⟩:=h
 cases rx
 obtain⟨u,rfl,ru⟩:=rv.one
 obtain⟨z,its,n,r,hl,e⟩:=I.lstM hH
 refine call_meets F.slot_list_append ⟨_,e,rfl⟩ F.entry_list_append (F.args_list_append_2 _ _) (PySem.list_append l its.toArray n u (by rw[zS];omega)) ⟨e,?_⟩
 refine⟨.non,_,I.lset (its':=its++[u]) hH e (by simp) (r.append (.cons ru .nil)) ?_,rfl,q⟩
 rw[zH,zAc]
 omega
noncomputable def rPopAt:V->List V->Hp->VK->Prop:=fun x vs H Q=>∃l xs i k y,x = .ref l/\vs=[.int i]/\H l=some (.lst xs) /\ -(2 ^ 63)<=i/\i<2 ^ 63/\seqIndex? i xs.length=some k/\xs[k]? = some y/\Q y (upd H l (.lst (xs.eraseIdx k)))
theorem zKB:MtM X "list.pop" rPopAt:=by
 intro pins s σ H x vs v us Q I rx rv h
 obtain⟨l,xs,i,k,y,rfl,rfl,hH,h1,h2,hk,hy,q⟩:=h
 cases rx
 obtain⟨u,rfl,ru⟩:=rv.one
 obtain⟨t,rfl⟩:=ru
 obtain⟨z,its,n,r,hl,e⟩:=I.lstM hH
 obtain⟨w,hw,rw'⟩:=r.get hy
 refine call_meets F.slot_list_pop ⟨_,e,rfl⟩ F.entry_list_pop (F.args_list_pop_2 _ _)
  (MeetsSeq.list_pop_at l its.toArray n i t k w (fitsIndex_both h1 h2) (by rw[zS,<-hl];exact hk) (by rw[<-Array.getElem?_toList];exact hw) (by rw[zS];omega)) ⟨e,?_⟩
 refine⟨y,_,I.lset (its':=its.eraseIdx k) hH e ?_ (r.eraseIdx k) ?_,rw',q⟩
 . show its.toArray.eraseIdxIfInBounds k=(its.eraseIdx k).toArray
   rw[List.eraseIdxIfInBounds_toArray]
 . have:=zFr xs k
   omega
noncomputable def rCat:R2:=fun x y H Q=>∃l b xs zs,x = .ref l/\y = .ref b/\H l=some (.lst xs)/\H b=some (.lst zs)/\xs.length+zs.length<=sizeLine/\∀p,H p=none->Q (.ref p) (upd H p (.lst (xs++zs)))
theorem op_cat:OpR X (binaryOp .Add) rCat:=by
 intro pins s σ H x y v u Q I rx ry h
 obtain⟨l,b,xs,zs,rfl,rfl,hH,hB,hz,q⟩:=h
 cases rx
 cases ry
 obtain⟨z,its,n,r,hl,e⟩:=I.lstM hH
 obtain⟨z2,its2,n2,r2,hl2,e2⟩:=I.lstM hB
 refine PySem.P.add_list e e2 ?_ (by rw[zS,zS];omega)
 have ea:its.toArray++its2.toArray=(its++its2).toArray:=by simp
 rw[ea]
 exact⟨.ref _,_,I.lnew (t':=s.toks) (r.append r2) (by rw[zH];omega),rfl,q _ I.fresh⟩
end
section
variable {prog:Program}{w:World}{A:Around}{E:Value->Shared->Prop}{s:Shared}
set_option maxRecDepth 100000 in
end
section
variable {X:Cx}
end
end L2
namespace Att
open PySem PySem.W PySem.Calls PyProof.Rows
theorem zEF {P:Params}{h:Heap}:∀(ns:List Int)(vs:List Value),WellAll P h vs (ns.map WData.int)->IntsAre vs ns:=by
 intro ns
 induction ns with
 | nil=>
  intro vs w
  rw[List.map_nil] at w
  cases w
  exact .nil
 | cons n ns ih=>
  intro vs w
  rw[zAU] at w
  cases w with
  | cons a b=>
   cases a
   exact .cons _ _ (ih _ b)
theorem zIP {l:OpenLaw}{n:Nat}(hn:l.most=some n){P:Params}{h:Heap}{args:List WData}{vals:List Value}
 (hpre:l.row.toRowW.claim.pre args=true)(hwl:WellAll P h vals args) :
 ∃a vs ns,vals=[Value.ref a]/\args=[WData.list (ns.map WData.int)]/\h.get? a=some { cls:=.type "list",data:=.seq vs.toArray }/\IntsAre vs ns/\ns.length<=n:=by
 have hsh:WShape.hasAll [] args [.list .int]=true:=(pre_splitW hpre).1
 have hc:l.pre.holds [] { args:=args }=true:=(pre_splitW hpre).2
 obtain⟨d,r,rfl,h1,h2⟩:=hasAllW_cons hsh
 obtain rfl:=hasAllW_nil h2
 obtain⟨xs,rfl,h3⟩:=hasW_list h1
 obtain⟨ns,rfl⟩:=items_int h3
 have hlen:ns.length<=n:=by
  unfold OpenLaw.pre at hc
  have h4:(WTm.not (.lt (.lit (.int (n:Int))) (.len (.arg 0)))).holds [] { args:=[.list (ns.map .int)] }=true:=by
   have h4:=(holds_andW hc).1
   rw[hn] at h4
   exact h4
  have h5:=condW_of h4 (w_not (w_lt w_lit (w_len_list (w_arg rfl))))
  rw[zC] at h5
  refine Nat.le_of_not_lt fun q=>?_
  have q':(n:Int)<((ns.length:Nat):Int):=by omega
  first
   | (rw[zM q'] at h5;exact absurd h5 (by decide))
   | (simp at h5;omega)
 cases hwl with
 | cons w1 w2=>
  cases w2
  cases w1 with
  | list ho hall=>exact⟨_,_,ns,rfl,rfl,ho,zEF ns _ hall,hlen⟩
theorem zIc (l:OpenLaw)(args:List WData):l.row.toRowW.claim.post args (.bool true) args=true:=
 postW_of (r:=l.row.toRowW) (X:=(true==true))
  (show WShape.has [] (.bool true) .bool=true by first | rfl | decide | simp[WShape.has,WShape.arms,WShape.armsAll])
  (show (WTm.eq .res (.lit (.bool true))).value [] { args:=args,res:=some (.bool true),after:=args }=some (.bool (true==true)) from w_eq_bool (w_res rfl) w_lit) rfl
theorem attach_call {l:OpenLaw}{n:Nat}{q:Program}{loose:List Str}{XP:(Str->Option Value)->Heap->Prop}{YP:World->Heap->Prop}{d:DefRec}
 (hn:l.most=some n)(hdf:d.params.defaults=[])
 (call:∀(w:World)(s₀ s₁:Shared)(mg mb:Str->Option Value)(fa:Addr)(o:Obj)(pm cd doc:Value)(a:Addr)(vs:List Value)(ns:List Int),
  Ground q loose [] XP w s₀ mg mb s₁.heap->YP w s₁.heap ->
  s₁.heap.get? fa=some o->o.data = .func (docDef d.name d.params d.body d.scope pm cd doc)->s₁.heap.CodeRec cd d.name->mg d.name=some (.ref fa) ->
  s₁.heap.get? a=some { cls:=.type "list",data:=.seq vs.toArray }->IntsAre vs ns->ns.length<=n->s₁.gens = #[] ->
  codeAny (model l.prog w) callerA (.call (.ref fa) ⟨[.ref a],[]⟩) (fun r s'=>r = .ok (.ret (.bool true))/\OldK s₁.heap s'.heap/\s'.os=s₁.os/\AllBare s'.gens) s₁) :
 WalkO q loose XP YP l.row.toRowW d [] (fun f vs=>PySem.call f vs):=by
 intro w s₀ s₁ mg mb G Y fa o pm cd doc dV kV ho hd hcd hD hmg hg args vals as hpre hlay hrd hwl hlo
 obtain rfl:dV = .none:=Dflts.none hD hdf
 obtain rfl:kV = .none:=Dflts.noKw hD
 obtain⟨a,vs,ns,rfl,rfl,hobj,hints,hlen⟩:=zIP hn hpre hwl
 refine enter_call (codeAny_mono (call w s₀ s₁ mg mb fa o pm cd doc a vs ns G Y ho (fd_plain hd) hcd hmg hobj hints hlen hg) fun r s' hq=>?_)
 obtain⟨rfl,h2,h3,h4⟩:=hq
 exact⟨.inl ⟨.bool true,.bool true,[],rfl,fun _=>rfl,.bool true,zIc l _,fun _=>⟨List.Pairwise.nil,fun _ hm=>(nomatch hm)⟩⟩,h2,h3,h4⟩
section
variable {prog:Program}{w:World}{A:Around}{E:Value->Shared->Prop}{s:Shared}{K:Frag}
end
end Att
namespace L2
open PySem PySem.Spec PyProof.Rows
theorem zFP:∀{vs:List Value}{ns:List Int},IntsAre vs ns->zBK (ns.map V.int) vs
 | _,_,.nil=>.nil
 | _,_,.cons n t h=>.cons ⟨t,rfl⟩ (zFP h)
end L2
namespace L2
open PySem PySem.Spec PyProof.Rows
end L2
namespace L2
open PySem PySem.Spec PyProof.Rows
noncomputable def defArgs (s:Stmt):Arguments:=match s with
 | .FunctionDef _ a _ _ _ _ _ _ _ _=>a
 | _=>{ posonlyargs:=[],args:=[],vararg:=none,kwonlyargs:=[],kw_defaults:=[],kwarg:=none,defaults:=[] }
noncomputable def defBody (s:Stmt):List Stmt:=match s with
 | .FunctionDef _ _ b _ _ _ _ _ _ _=>b
 | _=>[]
noncomputable def defScope (s:Stmt):Scope:=match s with
 | .FunctionDef _ _ _ _ _ _ sc _ _ _=>sc
 | _=>{ kind:=.function,names:=[],isGenerator:=false,isCoroutine:=false }
noncomputable abbrev CX0:CXT:=fun _ _ _ _ _ _=>False
noncomputable abbrev E0:XK:=fun _ _ _=>False
theorem zAk {X:Cx}:zHS CX0 X E0:=fun _ _ _ _ _ _ _ h=>h.elim
structure Fun (K:PySem.W.Frag)(x qual:Str)(st:Stmt)(f:Addr)(fd:FuncData):Prop where
 ex:∃(oc:Value)(od:Option Addr)(kV doc pm:Value)(an:Option Addr)(cdv ct:Value)(osl:Array (Option Value)),
  fd=PySem.W.fnOf x qual (defArgs st) (defBody st) (defScope st) .none kV doc pm an cdv ct/\K.lookup f=some ⟨oc,od,.func fd,osl⟩/\PySem.W.codeIn K cdv qual=true
 kp:PySem.W.keepIn K (.ref f)=true
section
variable {P:Program}{w:World}{K:PySem.W.Frag}{mg:Str->Option Value}{base:Heap}
theorem Fun.ok {x qual:Str}{st:Stmt}{f:Addr}{fd:FuncData}{N ps:List Str}{k:Nat}{sp:Sp}(F:Fun K x qual st f fd)(S:zAI N ps (defScope st))(len:∀vs H Q E,sp vs H Q E->vs.length=ps.length)
 (hbody:∀(cdv:Value)(A:Around)(outer:List Env)(s:Shared)(H:Hp)(vs:List V)(Q:VK)(E:XK),zCm k (A.deeper (envOfC qual (defScope st) s.heap.objs.size f cdv))->sp vs H Q E ->
  ∃t,PSs (zF3 CX0 P w K mg base N qual (defScope st) f cdv A outer s H E).nox (defBody st) t/\t { nx:=fun _ H'=>Q .non H',rt:=Q } (start N vs) H):zAa P w K mg base CX0 (k+1) f fd ps sp:=by
 obtain⟨oc,od,kV,doc,pm,an,cdv,ct,osl,rfl,lk,hcd⟩:=F.ex
 refine zKL lk hcd S len fun A outer s H vs Q E hr hsp=>?_
 obtain⟨t,h,q⟩:=hbody cdv A outer s H vs Q E hr hsp
 exact⟨t,h.nox,q⟩
theorem Fun.binds {x qual:Str}{st:Stmt}{f:Addr}{fd:FuncData}{ps:List Str}(F:Fun K x qual st f fd)
 (h:∀(kV doc pm:Value)(an:Option Addr)(cdv ct:Value)(us:List Value),us.length=ps.length->bindArgs (PySem.W.fnOf x qual (defArgs st) (defBody st) (defScope st) .none kV doc pm an cdv ct) ⟨us,[]⟩=pure (ps.zip us)):zAH K fd ps []:=by
 obtain⟨oc,od,kV,doc,pm,an,cdv,ct,osl,rfl,lk,hcd⟩:=F.ex
 exact .all (h kV doc pm an cdv ct)
theorem zKq {x qual:Str}{st:Stmt}{f:Addr}{oc:Value}{od an:Option Addr}{osl:Array (Option Value)}{kV doc pm cdv ct:Value}(l:K.lookup f=some ⟨oc,od,.func (PySem.W.fnOf x qual (defArgs st) (defBody st) (defScope st) .none kV doc pm an cdv ct),osl⟩)
 (c:PySem.W.codeIn K cdv qual=true)(k:PySem.W.keepIn K (.ref f)=true):Fun K x qual st f (PySem.W.fnOf x qual (defArgs st) (defBody st) (defScope st) .none kV doc pm an cdv ct):=⟨⟨oc,od,kV,doc,pm,an,cdv,ct,osl,rfl,l,c⟩,k⟩
end
theorem zGe {A:Around}{k:Nat}(hr:zCm k A):A.units+1<cLine:=zAQ (Nat.add_le_add_left (by decide:1<=64) _) hr.units
section
variable {X:Cx}
theorem pv (i:Nat){x:Str}{pos:Pos}(hN:X.N[i]? = some x:=by rfl)(hv:Vis X.env.scope x:=by first | exact Or.inl rfl | exact Or.inr (Or.inl rfl) | exact Or.inr (Or.inr rfl))(hd:(x==("__debug__" : Str))=false:=by decide)
 (hcd:(x==("__classdict__" : Str))=false:=by decide):PE X (.Name x pos) (tVar i):=pe_var hN hv hd hcd
end
theorem zDY {A B:Prop}(h:B):if false=true then A else B:=by
 rw[if_neg zh]
 exact h
theorem zC3 {A B:Prop}(h:A):if true=true then A else B:=by
 rw[if_pos rfl]
 exact h
theorem zGK {c A B:Prop} [Decidable c] (h1:c->A)(h2:¬ c->B):if c then A else B:=by
 by_cases h:c
 . rw[if_pos h]
   exact h1 h
 . rw[if_neg h]
   exact h2 h
noncomputable def zA3 (H H':Hp):Prop:=∀b o,H b=some o->H' b=some o
theorem zA3.refl (H:Hp):zA3 H H:=fun _ _ h=>h
theorem zA3.trans {H H1 H2:Hp}(a:zA3 H H1)(b:zA3 H1 H2):zA3 H H2:=fun c o h=>b c o (a c o h)
end L2
namespace L2
open PySem PySem.Spec PyProof.Rows
section
variable {κ:Type} [DecidableEq κ]
theorem zJk {kvs:List (κ×V)}{k:κ}(h:zCs kvs k=none):¬ k∈kvs.map (·.1):=by
 intro m
 obtain⟨p,hp,e⟩:=zAT.mp m
 have q:(kvs.any fun kv=>decide (kv.1=k))=true:=List.any_eq_true.mpr ⟨p,hp,zM e⟩
 rw[zCH,h] at q
 exact absurd q (by simp)
theorem zGY:∀{l:List κ}{k:κ},l.Nodup->¬ k∈l->(l++[k]).Nodup
 | [],k,_,_=>by simp
 | a::r,k,h,hk=>by
  obtain⟨h1,h2⟩:=zAV.mp h
  show (a::(r++[k])).Nodup
  refine zAV.mpr ⟨fun m=>?_,zGY h2 fun m=>hk (zW.mpr (Or.inr m))⟩
  rcases zQ.mp m with q | q
  . exact h1 q
  . exact hk (zW.mpr (Or.inl (zX.mp q).symm))
theorem zLe {kvs:List (κ×V)}{k:κ}(v:V)(hn:(kvs.map (·.1)).Nodup)(h:zCs kvs k=none):((zE5 kvs k v).map (·.1)).Nodup:=by
 rw[zE4 v h,ze]
 exact zGY hn (zJk h)
end
end L2
namespace L2
open PySem PySem.Spec PyProof.Rows
section
variable {X:Cx}
end
end L2
set_option Elab.async false
set_option linter.all false
set_option maxRecDepth 100000
set_option maxHeartbeats 4000000
namespace L2
open PySem PySem.Spec PyProof.Rows
theorem zF6 {prog:Program}{w:World}{A:Around}{R:Result->Shared->Prop}{s:Shared}{elt target iter:Expr}{ifs:List Expr}{scope:Scope}{pos:Pos}{it acc:Value}{env:Env}(I:Nat->Shared->Prop)
 (turn:∀n s,I n s->wpAny (model prog w) A (pyNext it) (fun r s₁=>match r with
  | none=>R (.ok .next) s₁
  | some v=>wpAny (model prog w) A (letOwnedTupleGo target it v) (fun _ s₁'=>wpAny (model prog w) A (assign target env v) (fun _ s₂=>
   wpAny (model prog w) A (forIn ifs true fun c r=>if r=true then do let ok <-isTrue c env (eval c env);pure (ForInStep.yield ok) else pure (ForInStep.yield r)) (fun ok s₃=>
    if ok=true then wpAny (model prog w) A (eval elt env) (fun x s₄=>
     wpAny (model prog w) A (call (.builtin "list.append") [acc,x]) (fun _ s₅=>∃m,m<n/\I m s₅) (fun _ _=>False) s₄) (fun _ _=>False) s₃
    else ∃m,m<n/\I m s₃) (fun _ _=>False) s₂) (fun _ _=>False) s₁') (fun _ _=>False) s₁) (fun _ _=>False) s)
 (n:Nat)(h:I n s):codeAny (model prog w) A (.compLoop (.ListComp elt [⟨target,iter,ifs,0⟩] scope pos) 0 it acc env) R s:=by
 refine codeAny_loop rfl I (fun n s hI=>?_) n h
 show wpAny _ A ((compTurn (.ListComp elt [⟨target,iter,ifs,0⟩] scope pos) 0 it acc env).onRaise (fun x=>do noteFrame x env;theTreesLotGoes x)) _ _ s
 refine wpAny_noted ?_
 rw[compTurn_list]
 refine zA (wpAny_standAt (zA (zAM (turn n s hI) (fun r s₁ h₁=>?_) fun _ _ h'=>h'.elim)))
 cases r with
 | none=>exact zB h₁
 | some v=>
  refine zA (zAM h₁ (fun _ s₁' h₁'=>?_) fun _ _ h'=>h'.elim)
  refine zA (zAM h₁' (fun _ s₂ h₂=>zA (zAM h₂ (fun ok s₃ h₃=>?_) fun _ _ h'=>h'.elim)) fun _ _ h'=>h'.elim)
  cases ok with
  | false=>exact zB ⟨rfl,h₃⟩
  | true=>
   exact zA (zA (zAM h₃ (fun x s₄ h₄=>zA (zAM h₄ (fun _ s₅ h₅=>zB (zB ⟨rfl,h₅⟩)) fun _ _ h'=>h'.elim)) fun _ _ h'=>h'.elim))
noncomputable def PTs (X:Cx)(ifs:List Expr)(t:TT):Prop:=
 ∀(pins:List (Addr×Obj))(s:Shared)(σ:St)(H:Hp)(Q:Bool->Hp->Prop),Inv X pins σ H s->t σ H Q ->
  wpAny (model X.prog X.w) X.A (forIn ifs true fun c r=>if r=true then do let ok <-isTrue c X.env (eval c X.env);pure (ForInStep.yield ok) else pure (ForInStep.yield r)) (TP X pins σ Q) X.xe s
noncomputable def tYes:TT:=fun _ H Q=>Q true H
theorem zHX {σ:St}{H:Hp}{A B:Hp->Prop}(h:A H):tYes σ H (fun b H3=>if b=true then A H3 else B H3):=by
 show (if true=true then A H else B H)
 exact zC3 h
theorem zB2 {X:Cx}:PTs X [] tYes:=fun _ _ _ H _ I h=>wpAny_tests_nil ⟨H,I,h⟩
theorem zDT {X:Cx}{c:Expr}{t:TT}(h:PT X c t):PTs X [c] t:=fun pins s σ H Q I q=>wpAny_tests_one (h pins s σ H Q I q)
noncomputable def zDL (cells:List (Str×Addr)):List (Str×NameKind)->List (Str×Addr)->List (Str×Addr)
 | [],acc=>acc
 | (n,k)::r,acc=>if (k == .free)=true then (match cells.lookup n with | some c=>zDL cells r ((n,c)::acc) | none=>zDL cells r acc) else zDL cells r acc
theorem zDq {cells:List (Str×Addr)}{x:Str}{c:Addr}:∀(names:List (Str×NameKind))(acc:List (Str×Addr)),(zDL cells names acc).lookup x=some c->acc.lookup x=some c\/cells.lookup x=some c
 | [],acc,h=>.inl h
 | (n,k)::r,acc,h=>by
  unfold zDL at h
  split at h
  . cases hc:cells.lookup n with
    | none=>rw[hc] at h;exact zDq r acc h
    | some c'=>
     rw[hc] at h
     rcases zDq r _ h with q | q
     . rw[zBJ] at q
       cases hx:x==n with
       | true=>
        rw[hx] at q
        have e:x=n:=by simpa using hx
        have e2:c'=c:=by simpa using q
        rw[e,hc,e2]
        exact .inr rfl
       | false=>rw[hx] at q;exact .inl q
     . exact .inr q
  . exact zDq r acc h
theorem zDr {cells:List (Str×Addr)}{x:Str}:∀(names:List (Str×NameKind))(acc:List (Str×Addr)),(∃c,acc.lookup x=some c)->∃c,(zDL cells names acc).lookup x=some c
 | [],acc,h=>h
 | (n,k)::r,acc,h=>by
  unfold zDL
  split
  . cases hc:cells.lookup n with
    | none=>exact zDr r acc h
    | some c'=>
     refine zDr r _ ?_
     rw[zBJ]
     cases hx:x==n with
     | true=>exact⟨c',rfl⟩
     | false=>exact h
  . exact zDr r acc h
theorem zDK {cells:List (Str×Addr)}{x:Str}(hx:∃c,cells.lookup x=some c):∀(names:List (Str×NameKind))(acc:List (Str×Addr)),(x,NameKind.free)∈names->∃c,(zDL cells names acc).lookup x=some c
 | [],acc,h=>by simp at h
 | (n,k)::r,acc,h=>by
  rcases zW.mp h with e | h
  . cases e
    obtain⟨c,hc⟩:=hx
    unfold zDL
    rw[if_pos (by rfl),hc]
    exact zDr r _ ⟨c,by rw[zBJ];simp⟩
  . unfold zDL
    split
    . cases hc:cells.lookup n with
      | none=>exact zDK hx r acc h
      | some c'=>exact zDK hx r _ h
    . exact zDK hx r acc h
theorem zDa {env:Env}:∀(names:List (Str×NameKind))(acc:List (Str×Addr)),(∀y∈names,y.2 = .free->∃c,env.cells.lookup y.1=some c) ->
 (forIn names acc fun (x:Str×NameKind)(cs:List (Str×Addr))=>(if (x.2 == .free)=true then (do let a <-cellOf env x.1;pure (ForInStep.yield ((x.1,a)::cs))) else pure (ForInStep.yield cs):Sem (ForInStep (List (Str×Addr)))))=pure (zDL env.cells names acc)
 | [],acc,_=>rfl
 | (n,k)::r,acc,h=>by
  rw[List.forIn_cons]
  have hr:∀y∈r,y.2 = .free->∃c,env.cells.lookup y.1=some c:=fun y hy=>h y (zO _ hy)
  unfold zDL
  cases hk:(k==NameKind.free) with
  | true=>
   obtain⟨c,hc⟩:=h (n,k) zN (by simpa using hk)
   simp only[hk,if_true,cellOf,hc,pure_bind]
   exact zDa r _ hr
  | false=>
   simp only[hk,zBh,if_false,pure_bind]
   exact zDa r _ hr
theorem zDJ {scope:Scope}{env:Env}(h:∀y∈scope.names,y.2 = .free->∃c,env.cells.lookup y.1=some c):closureFor scope env=pure (zDL env.cells scope.names []):=by
 have e:=zDa scope.names [] h
 simp only[closureFor]
 simp only[bind_pure]
 exact e
theorem zCQ {env:Env}{x:Str}:∀(names:List (Str×NameKind)),
 (names.map fun (n,k)=>if (k==NameKind.free && env.scope.kind == .function && env.kindOf n==some .cell) then (n,NameKind.cell) else (n,k)).lookup x =
  (names.lookup x).map fun k=>if (k==NameKind.free && env.scope.kind == .function && env.kindOf x==some .cell)=true then NameKind.cell else k
 | []=>rfl
 | (n,k)::r=>by
  have ih:=zCQ (env:=env) (x:=x) r
  rw[zAU]
  show List.lookup x ((if (k==NameKind.free && env.scope.kind == .function && env.kindOf n==some .cell)=true then (n,NameKind.cell) else (n,k))::_)=_
  by_cases c:(k==NameKind.free && env.scope.kind == .function && env.kindOf n==some .cell)=true
  . rw[if_pos c,zBJ,zBJ]
    cases hx:x==n with
    | true=>
     have e:x=n:=by simpa using hx
     subst e
     show some NameKind.cell=Option.map _ (some k)
     rw[zBG,if_pos c]
    | false=>exact ih
  . rw[if_neg c,zBJ,zBJ]
    cases hx:x==n with
    | true=>
     have e:x=n:=by simpa using hx
     subst e
     show some k=Option.map _ (some k)
     rw[zBG,if_neg c]
    | false=>exact ih
noncomputable def zBo (X:Cx)(pl:List (Addr×Obj))(N':List Str)(scope:Scope)(fp:List Addr)(s3:Shared)(H3:Hp):Cx where
 prog:=X.prog
 w:=X.w
 K:=X.K
 mg:=X.mg
 base:=X.base
 A:=X.A
 N:=N'
 s₀:=s3
 H₀:=H3
 env:=compEnvC scope (zDL X.env.cells scope.names []) s3.heap.objs.size X.env
 outer:=X.stack
 stack:=X.stack
 ex:=fp
 fn:=fun _=>false
 calm:=X.calm
 pn:=pl
 xe:=fun _ _=>False
noncomputable def zEO (X:Cx)(scope:Scope):List Str->List Nat->Prop
 | [],[]=>True
 | x::cn,j::ci=>X.N[j]? = some x/\X.env.kindOf x=some .cell/\scope.names.lookup x=some .free/\zEO X scope cn ci
 | _,_=>False
theorem zEO.get {X:Cx}{scope:Scope}:∀{cn:List Str}{ci:List Nat}{k:Nat}{x:Str},zEO X scope cn ci->cn[k]? = some x->∃j,ci[k]? = some j/\X.N[j]? = some x/\X.env.kindOf x=some .cell/\scope.names.lookup x=some .free
 | [],_,_,_,_,h=>by simp at h
 | _::_,[],_,_,c,_=>c.elim
 | y::cn,j::ci,0,x,c,h=>by
  obtain⟨a,b,b',_⟩:=c
  have e:y=x:=by simpa using h
  subst e
  exact⟨j,rfl,a,b,b'⟩
 | y::cn,j::ci,k+1,x,c,h=>by
  obtain⟨j',h1,h2⟩:=zEO.get (k:=k) c.2.2.2 (by simpa using h)
  exact⟨j',by simpa using h1,h2⟩
structure zCy (X:Cx)(scope:Scope):Prop where
 kind:scope.kind = .function
 nocell:∀y∈scope.names,y.2 ≠ .cell
 names:∀y∈scope.names,y.2 = .local->scope.names.lookup y.1=some .local
 free:∀y∈scope.names,y.2 = .free->X.env.kindOf y.1=some .cell
section
variable {X:Cx}{pins:List (Addr×Obj)}{σ:St}{H3:Hp}{s3:Shared}{scope:Scope}{fp:List Addr}{N' own cn:List Str}{ci:List Nat}{cv:List V}
theorem zHL (ok:X.Ok)(S:zCy X scope){x:Str}(h:(relabel scope X.env).names.lookup x=some .cell\/(relabel scope X.env).names.lookup x=some .free) :
 ∃c,(zDL X.env.cells scope.names []).lookup x=some c:=by
 have e:(relabel scope X.env).names.lookup x=(scope.names.lookup x).map fun k=>if (k==NameKind.free && X.env.scope.kind == .function && X.env.kindOf x==some .cell)=true then NameKind.cell else k:=zCQ scope.names
 have hf:scope.names.lookup x=some .free:=by
  cases q:scope.names.lookup x with
  | none=>rw[e,q] at h;simp at h
  | some k=>
   by_cases hk:k = .free
   . rw[hk]
   . have hb:(k==NameKind.free)=false:=by simpa using hk
     rw[e,q] at h
     simp only[zBG,hb,Bool.false_and,zBh,if_false,Option.some.injEq] at h
     rcases h with h | h
     . exact absurd h (S.nocell _ (PySem.mem_of_lookup q))
     . exact absurd h hk
 exact zDK (ok.has x (.inl (S.free _ (PySem.mem_of_lookup hf) rfl))) scope.names [] (PySem.mem_of_lookup hf)
theorem zCE {x:Str}{c:Addr}(h:(zDL X.env.cells scope.names []).lookup x=some c):X.env.cells.lookup x=some c:=by
 rcases zDq _ _ h with q | q
 . simp at q
 . exact q
theorem zLt (I:Inv X pins σ H3 s3)(S:zCy X scope)(f:∀b∈fp,zEN X pins H3 b)(fz:∀b∈fp,b<s3.heap.objs.size):(zBo X (X.pn++pins) N' scope fp s3 H3).Ok where
 mod:=I.ok.mod
 kind:=S.kind
 glob:=I.ok.glob
 blt:=I.ok.blt
 above:=zG _
 inj:=fun x y c h1 h2=>I.ok.inj x y c (zCE h1) (zCE h2)
 has:=fun x h=>zHL I.ok S h
 cab:=fun x c h=>by cases h
 hd:=I.ok.hd
 frames:=I.ok.frames
 stk:=.inl rfl
 exf:=fun b hb=>⟨zf (fz b hb),fun x c h=>(f b hb).2.2.2.2.1 x c (zCE h)⟩
 bs:=I.bs
 bsz:=zAl I.ok.bsz I.sz
 noex:=fun b o e hb=>by
  rcases (f b hb).2.2.2.1 with z | z
  . exact I.ok.noex b o e z
  . exact absurd (zo (zU e) (zAl I.ok.bsz z)) (zBM _)
 exfs:=fun b hb z=>by
  rcases zW.mp (I.stkSub b z) with q | q
  . exact (f b hb).2.1 q
  . exact (f b hb).2.2.1 q
 funs:=I.stack
 frf:=I.stkFree
theorem zKV {h1:Heap}{t:Nat}(I:Inv X pins σ H3 s3)(S:zCy X scope)(f:∀b∈fp,zEN X pins H3 b)(fz:∀b∈fp,b<s3.heap.objs.size)
 (hN:N'=own++cn)(hc:zEO X scope cn ci)(hv:ci.map (fun j=>σ[j]?)=cv.map fun v=>some (some v))(hl:cn.length=ci.length)
 (hns:h1.Ns s3.heap.objs.size (fun _=>none))(hk:∀b o,s3.heap.get? b=some o->h1.get? b=some o) :
 Inv (zBo X (X.pn++pins) N' scope fp s3 H3) [] (List.replicate own.length none++cv.map some) H3 { s3 with heap:=h1,toks:=t }:=by
 have lenv:cv.length=ci.length:=by
  have:=congrArg List.length hv
  simpa using this.symm
 refine⟨zLt I S f fz,rfl,I.bare,Un.kept hk,⟨_,hns,fun i x v e1 e2 e3=>?_⟩,fun x c e=>?_,I.hok.fresh (zG _),fun x c e=>I.freeC x c (zCE e),fun p hp=>?_,I.hok.kept hk,?_⟩
 . -- a captured name
   have hi:own.length<=i:=by
    by_cases hi:own.length<=i
    . exact hi
    . rw[zAK (by simpa using hi),List.getElem?_replicate] at e2
      split at e2 <;> cases e2
   rw[zAs (by simpa using hi),zBg,zT] at e2
   have e1':(own++cn)[i]? = some x:=by rw[<-hN];exact e1
   rw[zAs hi] at e1'
   obtain⟨j,hj,hNj,hkx,hfr⟩:=hc.get e1'
   have hcv:cv[i-own.length]? = some v:=by
    cases q:cv[i-own.length]? with
    | none=>rw[q] at e2;cases e2
    | some v'=>rw[q] at e2;cases e2;rfl
   have hσ:σ[j]? = some (some v):=by
    have:=congrArg (fun l:List (Option (Option V))=>l[i-own.length]?) hv
    simp only[zT,hj,hcv,zBG,Option.some.injEq] at this
    exact this
   obtain⟨m,_,hl'⟩:=I.loc
   obtain⟨u,r,q⟩:=hl' j x v hNj hσ (.inr (.inl hkx))
   have hkd:(relabel scope X.env).names.lookup x=some .cell\/(relabel scope X.env).names.lookup x=some .free:=by
    have e:(relabel scope X.env).names.lookup x=(scope.names.lookup x).map fun k=>if (k==NameKind.free && X.env.scope.kind == .function && X.env.kindOf x==some .cell)=true then NameKind.cell else k:=zCQ scope.names
    rw[e,hfr,zBG]
    by_cases cc:(NameKind.free==NameKind.free && X.env.scope.kind == .function && X.env.kindOf x==some .cell)=true
    . rw[if_pos cc];exact .inl rfl
    . rw[if_neg cc];exact .inr rfl
   obtain⟨c',hc'⟩:=zHL I.ok S hkd
   refine⟨u,r,.inr ⟨hkd,c',hc',?_⟩⟩
   rcases q with ⟨z,_⟩ | ⟨_,c,hcc,o,ho,hd⟩
   . rw[hkx] at z;cases z
   . have e:c=c':=za (hcc.symm.trans (zCE hc'))
     subst e
     exact⟨o,hk c o ho,hd⟩
 . obtain⟨v,o,ho,hd⟩:=I.cell x c (zCE e)
   exact⟨v,o,hk c o ho,hd⟩
 . have hp':p∈X.pn++pins:=by rw[zw] at hp;exact hp
   obtain⟨e,n,ne,nf,d⟩:=I.pin p hp'
   refine⟨hk _ _ e,n,zf (zU e),fun z=>?_,d⟩
   rcases zW.mp (I.stkSub p.1 z) with q | q
   . exact ne q
   . exact nf q
 . show (List.replicate own.length none++cv.map some).length=N'.length
   rw[hN,zH,zH,zBg,zC,lenv,hl]
noncomputable def zHU (J:It)(own:Nat)(cv:List V)(g:TG)(ti:TT)(te:TE)(D:Addr)(H1:Hp)(Q:VK):Prop:=∃W:Nat->Nat->List V->Hp->Prop,(∃m,W 0 m [] (upd H1 D (.lst [])))/\∀i m ys H,W i m ys H ->
 (J.stop i H/\Q (.ref D) H)\/(J.go i H/\ys.length<sizeLine/\∃N:List V->Hp->Prop,(∀ys' H',N ys' H'->∃m',m'<m/\W (i+1) m' ys' H') /\
  ∀x H',J.yld i H x H'->g x (List.replicate own none++cv.map some) H' fun σ2 H2=>(σ2.length=own+cv.length/\σ2.drop own=cv.map some) /\
   ti σ2 H2 fun b H3=>if b=true then te σ2 H3 fun y H4=>H4 D=some (.lst ys)/\N (ys++[y]) (upd H4 D (.lst (ys++[y]))) else N ys H3)
noncomputable def zK8 (own:Nat)(ci:List Nat)(wi:TI)(g:TG)(ti:TT)(te:TE):TE:=fun σ H Q=>wi σ H fun J H1=>∃cv:List V,ci.map (fun j=>σ[j]?)=cv.map (fun v=>some (some v)) /\
 ∀D,H1 D=none->zHU J own cv g ti te D H1 Q
theorem zF5 {elt target iter:Expr}{ifs:List Expr}{pos cpos:Pos}{wi:TI}{g:TG}{ti:TT}{te:TE}{use:Option (Value->Sem Unit)}{Q0:Value->Shared->Prop}{s:Shared}{H:Hp}{Q:VK}(hcalm:X.calm=true)(S:zCy X scope)(hc:zEO X scope cn ci)(hl:cn.length=ci.length)
 (hi:PI X target iter wi)(hg:∀pl fp s3 H3,PG (zBo X pl (own++cn) scope fp s3 H3) target g)(ht:∀pl fp s3 H3,PTs (zBo X pl (own++cn) scope fp s3 H3) ifs ti)
 (he:∀pl fp s3 H3,PE (zBo X pl (own++cn) scope fp s3 H3) elt te)(hs:∀x,foldedSetIterable iter X.env x=pure x)(I:Inv X pins σ H s)(h:zK8 own.length ci wi g ti te σ H Q)
 (fin:∀(D C:Addr)(H5:Hp)(s6:Shared)(m6:Str->Option Value),Inv X pins σ H5 s6->s6.heap.Ns C m6->H5 C=none->C≠X.env.locals->X.s₀.heap.objs.size<=C->(∀x c,X.env.cells.lookup x=some c->c≠C) ->
  (∀p∈X.pn++pins,p.1≠C)->Q (.ref D) H5->compPost (model X.prog X.w) X.A X.xe use Q0 (.ref D) C (.ok .next) s6) :
 wpAny (model X.prog X.w) X.A (comprehension (.ListComp elt [⟨target,iter,ifs,0⟩] scope pos) scope X.env cpos (newList []) false (eval iter X.env) use) Q0 X.xe s:=by
 have hcl:closureFor scope X.env=pure (zDL X.env.cells scope.names []):=zDJ fun y hy hf=>I.ok.has y.1 (.inl (S.free y hy hf))
 refine wpAny_comprehension_free (use:=use) rfl hs hcl S.kind S.names ?_
 refine thn (hi pins s σ H _ I h) fun v s1 h1=>thn h1 fun itv s2 h2=>?_
 obtain⟨it,fp,tn,J,H2,e,I2,T,st2,f2,cv,hv,hD⟩:=h2
 subst e
 have lenv:cv.length=ci.length:=by
  have:=congrArg List.length hv
  simpa using this.symm
 have I3:=I2.lnew (ys:=[]) (its:=[]) (t':=s2.toks) .nil (zk _)
 obtain⟨W,⟨m0,w0⟩,turn⟩:=hD s2.heap.objs.size I2.fresh
 have fz:∀b∈fp,b<s2.heap.objs.size:=fun b hb=>by
  obtain⟨o,ho,_⟩:=T.obj _ _ st2 b hb
  exact zU ho
 refine zAN ?_
 refine wpAny_newFunctionEnv S.nocell (by intro y hy;simp at hy) (fun h4 hns4 hsb4=>?_) S.kind
 generalize hs3:({ s2 with heap:=s2.heap.push { cls:=.type "list",dict:=none,data:=.seq ([]:List Value).toArray } }:Shared)=s3 at hns4 hsb4 ⊢
 have I3':Inv X pins σ (upd H2 s2.heap.objs.size (.lst [])) s3:=by rw[<-hs3];exact I3
 have hsz3:s3.heap.objs.size=s2.heap.objs.size+1:=by rw[<-hs3];exact zAg ..
 have k23:∀b o,s2.heap.get? b=some o->s3.heap.get? b=some o:=fun b o e=>by rw[<-hs3];exact zE _ e
 have k34:∀b o,s3.heap.get? b=some o->h4.get? b=some o:=fun b o e=>hsb4.extBut b o (zf (zU e)) (zE _ e)
 have nD:∀b∈fp,b≠s2.heap.objs.size:=fun b hb=>zf (fz b hb)
 have f3:∀b∈fp,zEN X pins (upd H2 s2.heap.objs.size (.lst [])) b:=fun b hb=>⟨by rw[zY (nD b hb)];exact (f2 b hb).1,(f2 b hb).2⟩
 have fz3:∀b∈fp,b<s3.heap.objs.size:=fun b hb=>by rw[hsz3];exact zA1 (fz b hb)
 have I4:Inv (zBo X (X.pn++pins) (own++cn) scope fp s3 (upd H2 s2.heap.objs.size (.lst []))) [] (List.replicate own.length none++cv.map some) (upd H2 s2.heap.objs.size (.lst [])) { s3 with heap:=h4,toks:=s3.toks+([]:List (Str×Value)).length }:=
  zKV I3' S f3 fz3 rfl hc hv hl hns4 k34
 have st4:tn 0 h4:=T.keep _ _ _ st2 fun b hb o e=>k34 b o (k23 b o e)
 generalize hX:zBo X (X.pn++pins) (own++cn) scope fp s3 (upd H2 s2.heap.objs.size (.lst []))=X' at I4
 have hg':PG X' target g:=by rw[<-hX];exact hg _ _ _ _
 have ht':PTs X' ifs ti:=by rw[<-hX];exact ht _ _ _ _
 have he':PE X' elt te:=by rw[<-hX];exact he _ _ _ _
 have ePr:X'.prog=X.prog:=by rw[<-hX];rfl
 have eW:X'.w=X.w:=by rw[<-hX];rfl
 have eK:X'.K=X.K:=by rw[<-hX];rfl
 have eA:X'.A=X.A:=by rw[<-hX];rfl
 have eE:X'.env=compEnvC scope (zDL X.env.cells scope.names []) s3.heap.objs.size X.env:=by rw[<-hX];rfl
 have eXe:X'.xe=fun _ _=>False:=by rw[<-hX];rfl
 have eC:X'.calm=true:=by rw[<-hX];exact hcalm
 have eex:X'.ex=fp:=by rw[<-hX];rfl
 have epn:X'.pn=X.pn++pins:=by rw[<-hX];rfl
 have es0:X'.s₀=s3:=by rw[<-hX];rfl
 have eH0:X'.H₀=upd H2 s2.heap.objs.size (.lst []):=by rw[<-hX];rfl
 have efs:X'.fs=frs X.stack:=by rw[<-hX];rfl
 have ok':=I4.ok
 have stat:∀{H':Hp},(∀b∈fp,H' b=none)->∀b∈fp,zEN X' [] H' b:=fun hn b hb=>by
  have hb':b∈X'.ex:=by rw[eex];exact hb
  refine⟨hn b hb,(ok'.exf b hb').1,ok'.exfs b hb',.inl hb',(ok'.exf b hb').2,fun p hp=>?_⟩
  rw[epn,zw] at hp
  exact (f2 b hb).2.2.2.2.2 p hp
 have wk:∀(σ2:St),(σ2.length=own.length+cv.length/\σ2.drop own.length=cv.map some)->∀{pl:List (Addr×Obj)}{H':Hp}{s':Shared},Inv X' pl σ2 H' s'->Inv X' pl (List.replicate own.length none++cv.map some) H' s':=fun σ2 hq pl H' s' I'=>by
  refine I'.weak (by rw[hq.1,zH,zBg,zC]) fun i v hi=>?_
  by_cases hlt:i<own.length
  . rw[zAK (by simpa using hlt),List.getElem?_replicate] at hi
    split at hi <;> cases hi
  . rw[zAs (by simpa using hlt),zBg,<-hq.2,List.getElem?_drop] at hi
    rw[show own.length+(i-own.length)=i by omega] at hi
    exact hi
 have loop:codeAny (model X.prog X.w) X.A (.compLoop (.ListComp elt [⟨target,iter,ifs,0⟩] scope pos) 0 (.ref it) (.ref s2.heap.objs.size) (compEnvC scope (zDL X.env.cells scope.names []) s3.heap.objs.size X.env))
  (compPost (model X.prog X.w) X.A X.xe use Q0 (.ref s2.heap.objs.size) s3.heap.objs.size) { s3 with heap:=h4,toks:=s3.toks+([]:List (Str×Value)).length }:=by
  refine zF6 (fun n s'=>∃i ys H',Inv X' [] (List.replicate own.length none++cv.map some) H' s'/\tn i s'.heap/\(∀b∈fp,H' b=none)/\W i n ys H') ?_ m0
   ⟨0,[],_,I4,st4,fun b hb=>(f3 b hb).1,w0⟩
  rintro n s5 ⟨i,ys,H5,I5,st5,fr5,w5⟩
  rcases turn i n ys H5 w5 with ⟨stop,qn⟩ | ⟨go,hsz,N,hN,step⟩
  . have d:=T.done X' ePr eW eK eC i [] s5 _ H5 (fun _ _=>False) I5 (stat fr5) st5 stop
    rw[eA] at d
    refine thn d fun r s6 ⟨hr,I6⟩=>?_
    subst hr
    obtain⟨m6,hn6,_⟩:=I6.loc
    rw[eE] at hn6
    have hn6':s6.heap.Ns s3.heap.objs.size m6:=hn6
    have un6:Un (frs X.stack) fp (upd H2 s2.heap.objs.size (.lst [])) H5 s3.heap s6.heap:=by
     have b6:=I6.base
     rw[efs,eex,eH0,es0] at b6
     exact b6
    have os6:s6.os=s3.os:=by have o6:=I6.os;rw[es0] at o6;exact o6
    have hok6:HOk X.prog X.w H5 s6.heap:=by have o6:=I6.hok;rw[ePr,eW] at o6;exact o6
    have I7:Inv X pins σ H5 s6:=I3'.call' (ch:=fp) os6 un6 hok6 I6.bare fun b hb=>⟨(f2 b hb).2.2.2.1,(f2 b hb).2.1,(f2 b hb).2.2.2.2.1,(f2 b hb).2.2.2.2.2⟩
    have fr6:H5 s3.heap.objs.size=none:=by
     have q:=I6.free
     rw[eE] at q
     exact q
    refine fin s2.heap.objs.size s3.heap.objs.size H5 s6 m6 I7 hn6' fr6 (Nat.ne_of_gt I3'.lt) I3'.sz (fun x c e=>?_) (fun p hp=>?_) qn
    . obtain⟨_,o,ho,_⟩:=I3'.cell x c e
      exact zf (zU ho)
    . exact zf (zU (I3'.pin p hp).1)
  . have d:=T.item X' ePr eW eK eC i [] s5 _ H5 (fun _ _=>False) I5 (stat fr5) st5 go
    rw[eA] at d
    refine thn d fun r s6 ⟨u,hr,h6⟩=>?_
    subst hr
    refine thn h6 fun _ s7 ⟨x,H7,I7,r7,y7,st7,fr7⟩=>?_
    have I7':=I7.pinned (stat fr7) (T.obj _ _ st7)
    have g7:=hg' _ s7 _ H7 x u _ I7' r7 (step x H7 y7)
    rw[ePr,eW,eA,eE,eXe] at g7
    refine thn g7 fun _ s8 ⟨σ8,H8,I8,q8,ti8⟩=>?_
    have t8:=ht' _ s8 σ8 H8 _ I8 ti8
    rw[ePr,eW,eA,eE,eXe] at t8
    refine thn t8 fun ok s9 ⟨H9,I9,q9⟩=>?_
    have again:∀{ys':List V}{H':Hp}{s':Shared},Inv X' ([]++zFk fp s7.heap) σ8 H' s'->N ys' H' ->
     ∃m,m<n/\∃i ys H',Inv X' [] (List.replicate own.length none++cv.map some) H' s'/\tn i s'.heap/\(∀b∈fp,H' b=none)/\W i m ys H':=fun {ys' H' s'} I' n'=>by
     obtain⟨m',hm,w'⟩:=hN ys' H' n'
     refine⟨m',hm,i+1,ys',H',(wk σ8 q8 I').unpinned,T.keep _ _ _ st7 fun b hb o e=>(I'.pin (b,o) (zAE _ (zAE _ (zCp hb e)))).1,fun b hb=>?_,w'⟩
     obtain⟨o,e,_⟩:=T.obj _ _ st7 b hb
     exact (I'.pin (b,o) (zAE _ (zAE _ (zCp hb e)))).2.1
    cases ok with
    | false=>exact again I9 q9
    | true=>
     have e9:=he' _ s9 σ8 H9 _ I9 q9
     rw[ePr,eW,eA,eE,eXe] at e9
     refine thn e9 fun u10 s10 ⟨y,H10,I10,r10,hD10,n10⟩=>?_
     have a10:=zBZ (X:=X') _ s10 σ8 H10 (.ref s2.heap.objs.size) [y] (.ref s2.heap.objs.size) [u10] (fun _ H'=>N (ys++[y]) H') I10 rfl (.cons r10 .nil) ⟨_,_,_,rfl,rfl,hD10,hsz,n10⟩
     rw[ePr,eW,eA,eXe] at a10
     exact thn a10 fun _ s11 ⟨_,H11,I11,_,n11⟩=>again I11 n11
 exact codeAny_compStart_list loop (T.self X.A 0 _ _ _ st4 loop)
theorem zBq {elt target iter:Expr}{ifs:List Expr}{pos:Pos}{wi:TI}{g:TG}{ti:TT}{te:TE}(hcalm:X.calm=true)(S:zCy X scope)(hc:zEO X scope cn ci)(hl:cn.length=ci.length)
 (hi:PI X target iter wi)(hg:∀pl fp s3 H3,PG (zBo X pl (own++cn) scope fp s3 H3) target g)(ht:∀pl fp s3 H3,PTs (zBo X pl (own++cn) scope fp s3 H3) ifs ti)
 (he:∀pl fp s3 H3,PE (zBo X pl (own++cn) scope fp s3 H3) elt te)(hs:∀x,foldedSetIterable iter X.env x=pure x:=by intro _;rfl) :
 PE X (.ListComp elt [⟨target,iter,ifs,0⟩] scope pos) (zK8 own.length ci wi g ti te):=by
 intro pins s σ H Q I h
 rw[eval_ListComp]
 exact zF5 hcalm S hc hl hi hg ht he hs I h fun D C H5 s6 m6 I7 hn fr nL ge nC nP q=>⟨m6,hn,fun h' hs'=>⟨.ref D,H5,I7.turned (t':=s6.toks) (it:=C) (fun b o hb e=>hs'.extBut b o hb e) fr nL (.inr ge) nC nP,rfl,q⟩⟩
theorem zE6 {elt target iter:Expr}{ifs:List Expr}{pos pos' cpos:Pos}{wi:TI}{g:TG}{ti:TT}{te:TE}{i:Nat}{x:Str}(hN:X.N.Nodup)(hix:X.N[i]? = some x)(hx:Loc X.env.scope x)(hcalm:X.calm=true)(S:zCy X scope)(hc:zEO X scope cn ci)(hl:cn.length=ci.length)
 (hi:PI X target iter wi)(hg:∀pl fp s3 H3,PG (zBo X pl (own++cn) scope fp s3 H3) target g)(ht:∀pl fp s3 H3,PTs (zBo X pl (own++cn) scope fp s3 H3) ifs ti)
 (he:∀pl fp s3 H3,PE (zBo X pl (own++cn) scope fp s3 H3) elt te)(hs:∀x,foldedSetIterable iter X.env x=pure x:=by intro _;rfl)
 (hsw:swapsWith (.ListComp elt [⟨target,iter,ifs,0⟩] scope cpos) (some (.Name x pos')) pos.line X.env=pure true:=by rfl)
 (hf:X.fn x=true\/X.env.scope.names.lookup x=some .local:=by first | exact .inl rfl | exact .inr rfl | assumption) :
 PS X (.Assign [.Name x pos'] (.ListComp elt [⟨target,iter,ifs,0⟩] scope cpos) pos) (tAsg (zK8 own.length ci wi g ti te) (zLq i)):=by
 intro pins s σ H D I h
 rw[exec_Assign_Name_used _ _ _ _ hsw]
 refine zA (wpAny_standAt (zA ?_))
 show wpAny _ X.A (do let _ <-comprehension (.ListComp elt [⟨target,iter,ifs,0⟩] scope cpos) scope X.env _ (newList []) false (eval iter X.env) (some (assign (.Name x pos') X.env))) _ _ s
 refine zA (zAM (zF5 (use:=some (assign (.Name x pos') X.env)) (Q0:=fun _ s'=>SP X pins D .next s') hcalm S hc hl hi hg ht he hs I h (fun D' C H5 s6 m6 I7 hn fr nL ge nC nP q=>?_)) (fun _ s' hq=>zB (zB hq)) fun _ _ e=>e)
 obtain⟨oC,es,ep,hoC,hd,r1⟩:=hn
 have nf:C∉X.fs:=fun hb=>by
  obtain⟨_,o,ho,_⟩:=I7.ok.funs.mem hb
  exact absurd (zo (zU ho) ge) (zBM _)
 have I7':Inv X (pins++[(C,oC)]) σ H5 s6:=I7.pins_of fun p hp=>by
  rcases zQ.mp hp with z | z
  . exact I7.pin p (zAE _ z)
  . rw[zX.mp z]
    exact⟨hoC,fr,nL,nf,fun v e=>by rw[hd] at e;cases e⟩
 show wpAny _ X.A (assign (.Name x pos') X.env (.ref D')) _ _ s6
 refine wpAny_assign_Name (zCY I7' hN hix hx (show zBe (.ref D') (.ref D') from rfl) (fun s' I'=>?_) hf)
 have hC':=(I'.pin (C,oC) (zAE _ (zAE _ (zX.mpr rfl)))).1
 refine⟨m6,⟨oC,es,ep,hC',hd,r1⟩,fun h' hs'=>⟨_,H5,?_,q⟩⟩
 have I2:Inv X pins (σ.set i (some (.ref D'))) H5 s':=I'.pins_of fun p hp=>I'.pin p (zAE _ (zu _ hp))
 exact I2.turned (t':=s'.toks) (it:=C) (fun b o hb e=>hs'.extBut b o hb e) fr nL (.inr ge) nC nP
end
noncomputable def cscOk (outer inner:Scope):Bool:=inner.names.all fun y=>(y.2 != .cell) && (y.2 != .local || inner.names.lookup y.1==some .local) && (y.2 != .free || outer.names.lookup y.1==some .cell)
theorem csc {X:Cx}{scope:Scope}(hk:scope.kind = .function)(h:cscOk X.env.scope scope=true):zCy X scope:=by
 have a:=List.all_eq_true.mp h
 refine⟨hk,fun y hy e=>?_,fun y hy e=>?_,fun y hy e=>?_⟩
 . have:=a y hy
   rw[e] at this
   simp at this
 . have:=a y hy
   rw[e] at this
   simpa using this
 . have:=a y hy
   rw[e] at this
   have h2:X.env.scope.names.lookup y.1=some .cell:=by simpa using this
   exact h2
theorem zCW {l:List Str}(h:decide l.Nodup=true):l.Nodup:=of_decide_eq_true h
section
variable {X:Cx}{pl:List (Addr×Obj)}{N':List Str}{sc:Scope}{fp:List Addr}{s3:Shared}{H3:Hp}
theorem zFF:IxR (zBo X pl N' sc fp s3 H3) (rIxT X.K):=zAp
theorem zLO {es:List Expr}{k:Nat}{t:TGs}{n:Nat}{pos:Pos}(hc:X.calm=true)(h:PGs (zBo X pl N' sc fp s3 H3) es t)
 (hn:(assignEach es (zBo X pl N' sc fp s3 H3).env).length=n:=by rfl)(hst:(assignEach es (zBo X pl N' sc fp s3 H3).env).findIdx? (·.1)=none:=by rfl):PG (zBo X pl N' sc fp s3 H3) (.Tuple es k pos) (gTup X.K n t):=zG6 hc h hn hst
theorem zDB:OpR (zBo X pl N' sc fp s3 H3) (compareOp .NotIn) (rIn X.K true):=zCM
end
theorem zBl {K:PySem.W.Frag}{a:Addr}{xs:List V}{own:Nat}{g:TG}{ti:TT}{te:TE}{cv:List V}{D:Addr}{H1:Hp}{Q:VK}(Pv:Nat->List V->Hp->Prop)(h0:Pv 0 [] (upd H1 D (.lst [])))(hl:∀i ys H,Pv i ys H->SqL K H a xs)(hz:∀i ys H,Pv i ys H->ys.length<sizeLine)
 (hs:∀i x ys H,xs[i]? = some x->Pv i ys H->g x (List.replicate own none++cv.map some) H fun σ2 H2=>(σ2.length=own+cv.length/\σ2.drop own=cv.map some) /\
  ti σ2 H2 fun b H3=>if b=true then te σ2 H3 fun y H4=>H4 D=some (.lst ys)/\Pv (i+1) (ys++[y]) (upd H4 D (.lst (ys++[y]))) else Pv (i+1) ys H3)
 (hd:∀ys H,Pv xs.length ys H->Q (.ref D) H) :
 zHU (Itl K a) own cv g ti te D H1 Q:=by
 refine⟨fun i m ys H=>m=xs.length-i/\i<=xs.length/\Pv i ys H,⟨xs.length,rfl,zk _,h0⟩,?_⟩
 rintro i m ys H ⟨rfl,hi,p⟩
 have q:=hl i ys H p
 by_cases hlt:i<xs.length
 . refine .inr ⟨⟨xs,xs[i],q,by simp[hlt]⟩,hz i ys H p,Pv (i+1),fun ys' H' p'=>⟨xs.length-(i+1),by omega,rfl,hlt,p'⟩,fun x H' y=>?_⟩
   obtain⟨e,y⟩:=y
   subst e
   exact hs i x ys _ (y xs q) p
 . have e:i=xs.length:=by omega
   subst e
   exact .inl ⟨⟨xs,q,zG _⟩,hd ys H p⟩
theorem zDp {K:PySem.W.Frag}{a:Addr}{xs:List V}{own:Nat}{g:TG}{ti:TT}{te:TE}{cv:List V}{D:Addr}{H1:Hp}{Q:VK}(Pv:Nat->List V->Hp->Prop)(h0:Pv 0 [] (upd H1 D (.lst [])))(hl:∀i ys H,Pv i ys H->SqT K H a xs)(hz:∀i ys H,Pv i ys H->ys.length<sizeLine)
 (hs:∀i x ys H,xs[i]? = some x->Pv i ys H->g x (List.replicate own none++cv.map some) H fun σ2 H2=>(σ2.length=own+cv.length/\σ2.drop own=cv.map some) /\
  ti σ2 H2 fun b H3=>if b=true then te σ2 H3 fun y H4=>H4 D=some (.lst ys)/\Pv (i+1) (ys++[y]) (upd H4 D (.lst (ys++[y]))) else Pv (i+1) ys H3)
 (hd:∀ys H,Pv xs.length ys H->Q (.ref D) H) :
 zHU (Itt K a) own cv g ti te D H1 Q:=by
 refine⟨fun i m ys H=>m=xs.length-i/\i<=xs.length/\Pv i ys H,⟨xs.length,rfl,zk _,h0⟩,?_⟩
 rintro i m ys H ⟨rfl,hi,p⟩
 have q:=hl i ys H p
 by_cases hlt:i<xs.length
 . refine .inr ⟨⟨xs,xs[i],q,by simp[hlt]⟩,hz i ys H p,Pv (i+1),fun ys' H' p'=>⟨xs.length-(i+1),by omega,rfl,hlt,p'⟩,fun x H' y=>?_⟩
   obtain⟨e,y⟩:=y
   subst e
   exact hs i x ys _ (y xs q) p
 . have e:i=xs.length:=by omega
   subst e
   exact .inl ⟨⟨xs,q,zG _⟩,hd ys H p⟩
theorem zCr {lo:Int}{n own:Nat}{g:TG}{ti:TT}{te:TE}{cv:List V}{D:Addr}{H1:Hp}{Q:VK}(Pv:Nat->List V->Hp->Prop)(h0:Pv 0 [] (upd H1 D (.lst [])))(hz:∀i ys H,Pv i ys H->ys.length<sizeLine)
 (hs:∀i ys H,i<n->Pv i ys H->g (.int (lo+i)) (List.replicate own none++cv.map some) H fun σ2 H2=>(σ2.length=own+cv.length/\σ2.drop own=cv.map some) /\
  ti σ2 H2 fun b H3=>if b=true then te σ2 H3 fun y H4=>H4 D=some (.lst ys)/\Pv (i+1) (ys++[y]) (upd H4 D (.lst (ys++[y]))) else Pv (i+1) ys H3)
 (hd:∀ys H,Pv n ys H->Q (.ref D) H) :
 zHU (Itr lo n) own cv g ti te D H1 Q:=by
 refine⟨fun i m ys H=>m=n-i/\i<=n/\Pv i ys H,⟨n,rfl,zk _,h0⟩,?_⟩
 rintro i m ys H ⟨rfl,hi,p⟩
 by_cases hlt:i<n
 . refine .inr ⟨hlt,hz i ys H p,Pv (i+1),fun ys' H' p'=>⟨n-(i+1),by omega,rfl,hlt,p'⟩,fun x H' y=>?_⟩
   obtain⟨e,y⟩:=y
   subst e
   subst y
   exact hs i ys _ hlt p
 . have e:i=n:=by omega
   subst e
   exact .inl ⟨zG _,hd ys H p⟩
end L2
namespace SortT
open PySem.W PyProof.Rows
noncomputable def ev {α:Type}(lt:Nat->Nat->Bool):KasT α->α
 | .ret a=>a
 | .ask i j k=>ev lt (k (lt i j))
theorem zDZ {α β:Type}(lt:Nat->Nat->Bool)(f:α->KasT β):∀t:KasT α,ev lt (t.bind f)=ev lt (f (ev lt t))
 | .ret _=>rfl
 | .ask i j k=>zDZ lt f (k (lt i j))
section
variable {O:KeyOrd}{key:Nat->O.α}
noncomputable def kk (key:Nat->O.α)(p:Array Nat)(i:Nat):O.α:=key (p.getD i 0)
noncomputable def Sr (key:Nat->O.α)(p:Array Nat)(n:Nat):Prop:=∀i j,i<=j->j<n->O.kle (kk key p i) (kk key p j)
noncomputable def Fl (key:Nat->O.α)(p:Array Nat)(n:Nat):Prop:=∀i j,i<=j->j<n->O.kle (kk key p j) (kk key p i)
theorem zDD {p q:Array Nat}{i j:Nat}(h:p[i]? = q[j]?):kk key p i=kk key q j:=by
 unfold kk;rw[Array.getD_eq_getD_getElem?,Array.getD_eq_getD_getElem?,h]
theorem zIy {p:Array Nat}{i j:Nat}(hj:j<=p.size)(k:Nat):kk key (kas_rev p i j) k=if i<=k/\k<j then kk key p (i+j-1-k) else kk key p k:=by
 have e:=getElem?_mirror_all (i:=i) hj k
 unfold kas_rev
 by_cases h1:i<=k/\k<j
 . rw[if_pos h1] at e ⊢;exact zDD e
 . rw[if_neg h1] at e ⊢;exact zDD e
theorem zEC {p:Array Nat}{i j:Nat}(hj:j<=p.size)(he:∀k,i<=k->k<j->kk key p k=kk key p (j-1))(k:Nat):kk key (kas_rev p i j) k=kk key p k:=by
 rw[zIy hj]
 split
 . rw[he _ (by omega) (by omega),he k (by omega) (by omega)]
 . rfl
theorem zFs {p:Array Nat}{src d:Nat}(hs:src<p.size)(hd:d<=src)(k:Nat) :
 kk key (bubble p src d) k=if k=src-d then kk key p src else if src-d<k/\k<=src then kk key p (k-1) else kk key p k:=by
 have e:=getElem?_bubble hs d hd k
 by_cases h1:k=src-d
 . rw[if_pos h1] at e ⊢;exact zDD e
 . rw[if_neg h1] at e ⊢
   by_cases h2:src-d<k/\k<=src
   . rw[if_pos h2] at e ⊢;exact zDD e
   . rw[if_neg h2] at e ⊢;exact zDD e
noncomputable def lt_ (key:Nat->O.α)(i j:Nat):Bool:=O.blt (key i) (key j)
theorem zB7 (p:Array Nat)(i j:Nat):(kas_rev p i j).Perm p:=mirror_perm _ _ _ _
theorem zE1 (p:Array Nat)(i j:Nat):(kas_rev p i j).size=p.size:=(zB7 p i j).size_eq
theorem zJa {p:Array Nat}:∀(f n:Nat),1<=n->Sr key p n->∃m,ev (lt_ key) (kas_asc p f n)=m/\n<=m/\m<=n+f/\Sr key p m/\(m=n+f\/O.klt (kk key p m) (kk key p (m-1)))
 | 0,n,_,hs=>⟨n,rfl,zG _,zG _,hs,.inl rfl⟩
 | f+1,n,h1,hs=>by
  show ∃m,ev (lt_ key) (if lt_ key (p.getD n 0) (p.getD (n-1) 0)=true then KasT.ret n else kas_asc p f (n+1))=m/\_
  cases hl:lt_ key (p.getD n 0) (p.getD (n-1) 0) with
  | true=>exact⟨n,by simp[ev],zG _,by omega,hs,.inr hl⟩
  | false=>
   have hs':Sr key p (n+1):=fun i j hij hj=>by
    by_cases hjn:j<n
    . exact hs i j hij hjn
    . have hj':j=n:=by omega
      subst hj'
      by_cases hi':i=j
      . subst hi';exact KeyOrd.kle_refl _
      . exact KeyOrd.kle_trans (hs i (j-1) (by omega) (by omega)) hl
   obtain⟨m,e,a,b,c,d⟩:=zJa f (n+1) (by omega) hs'
   refine⟨m,by simpa using e,by omega,by omega,c,?_⟩
   rcases d with d | d
   . exact .inl (by omega)
   . exact .inr d
theorem zGv {p:Array Nat}{n nrem:Nat}(h1:1<=n)(hn:n<=nrem)(hz:nrem<=p.size)(hs:Fl key p n) :
 ∃m q,ev (lt_ key) (kas_tail3 n nrem p)=(m,q)/\q.Perm p/\1<=m/\m<=nrem/\Sr key q m:=by
 unfold kas_tail3
 have hs':Sr key (kas_rev p 0 n) n:=fun i j hij hj=>by
  rw[zIy (by omega),zIy (by omega),if_pos (by omega),if_pos (by omega)]
  exact hs _ _ (by omega) (by omega)
 obtain⟨m,e,a,b,c,_⟩:=zJa (nrem-n) n h1 hs'
 exact⟨m,kas_rev p 0 n,by rw[zDZ,e];rfl,zB7 _ _ _,by omega,by omega,c⟩
theorem zFJ:∀(f n q:Nat)(p:Array Nat),1<=n->n+f<=p.size->Fl key p n->q+1<=n->(∀i,n-(q+1)<=i->i<n->kk key p i=kk key p (n-1)) ->
 ∃p' n' q',ev (lt_ key) (kas_desc f p n q)=(p',n',q')/\p'.Perm p/\n<=n'/\n'<=n+f/\Fl key p' n'/\q'+1<=n'/\(∀i,n'-(q'+1)<=i->i<n'->kk key p' i=kk key p' (n'-1))
 | 0,n,q,p,_,_,hs,hq,he=>⟨p,n,q,rfl,.refl _,zG _,zG _,hs,hq,he⟩
 | f+1,n,q,p,h1,hz,hs,hq,he=>by
  show ∃p' n' q',ev (lt_ key) (if lt_ key (p.getD n 0) (p.getD (n-1) 0)=true then _ else KasT.ask _ _ _)=(p',n',q')/\_
  cases hl:lt_ key (p.getD n 0) (p.getD (n-1) 0) with
  | true=>
   have step:∀xs:Array Nat,(∀k,kk key xs k=kk key p k)->Fl key xs (n+1):=fun xs hk i j hij hj=>by
    rw[hk,hk]
    by_cases hjn:j<n
    . exact hs i j hij hjn
    . have hj':j=n:=by omega
      subst hj'
      by_cases hi':i=j
      . subst hi';exact KeyOrd.kle_refl _
      . exact KeyOrd.kle_trans (KeyOrd.kle_of_klt hl) (hs i (j-1) (by omega) (by omega))
   by_cases hq0:q > 0
   . have hk:=zEC (key:=key) (p:=p) (i:=n-(q+1)) (j:=n) (by omega) he
     obtain⟨p',n',q',e,a,b,c,d⟩:=zFJ f (n+1) 0 (kas_rev p (n-(q+1)) n) (by omega) (by rw[zE1];omega) (step _ hk) (by omega) (fun i h1 h2=>by congr 1;omega)
     exact⟨p',n',q',by simpa [hq0] using e,a.trans (zB7 _ _ _),by omega,by omega,d⟩
   . obtain⟨p',n',q',e,a,b,c,d⟩:=zFJ f (n+1) 0 p (by omega) (by omega) (step _ fun _=>rfl) (by omega) (fun i h1 h2=>by congr 1;omega)
     exact⟨p',n',q',by simpa [hq0] using e,a,by omega,by omega,d⟩
  | false=>
   show ∃p' n' q',ev (lt_ key) (if lt_ key (p.getD (n-1) 0) (p.getD n 0)=true then KasT.ret (p,n,q) else kas_desc f p (n+1) (q+1))=(p',n',q')/\_
   cases hr:lt_ key (p.getD (n-1) 0) (p.getD n 0) with
   | true=>exact⟨p,n,q,by simp[ev],.refl _,zG _,by omega,hs,hq,he⟩
   | false=>
    have heq:kk key p n=kk key p (n-1):=KeyOrd.kle_antisymm hr hl
    have hs':Fl key p (n+1):=fun i j hij hj=>by
     by_cases hjn:j<n
     . exact hs i j hij hjn
     . have hj':j=n:=by omega
       subst hj'
       by_cases hi':i=j
       . subst hi';exact KeyOrd.kle_refl _
       . rw[heq];exact hs i (j-1) (by omega) (by omega)
    obtain⟨p',n',q',e,a,b,c,d⟩:=zFJ f (n+1) (q+1) p (by omega) (by omega) hs' (by omega) (fun i h1 h2=>by
     rw[show n+1-1=n by omega]
     by_cases hix:i=n
     . subst hix;rfl
     . rw[heq];exact he i (by omega) (by omega))
    exact⟨p',n',q',by simpa using e,a,by omega,by omega,d⟩
theorem zEI {p:Array Nat}{n nrem:Nat}(hn:n+1<=nrem)(hz:nrem<=p.size)(hs:Fl key p (n+1)) :
 ∃m q,ev (lt_ key) (kas_descPart n nrem p)=(m,q)/\q.Perm p/\1<=m/\m<=nrem/\Sr key q m:=by
 unfold kas_descPart
 rw[zDZ]
 obtain⟨p',n',q',e,a,b,c,d,hq,he⟩:=zFJ (nrem-(n+1)) (n+1) 0 p (by omega) (by omega) hs (by omega) (fun i h1 h2=>by congr 1;omega)
 rw[e]
 dsimp only
 have hz':p'.size=p.size:=a.size_eq
 by_cases hq0:q' > 0
 . rw[if_pos hq0]
   have hk:=zEC (key:=key) (p:=p') (i:=n'-(q'+1)) (j:=n') (by omega) he
   obtain⟨m,r,e2,a2,b2,c2,d2⟩:=zGv (key:=key) (p:=kas_rev p' (n'-(q'+1)) n') (n:=n') (nrem:=nrem) (by omega) (by omega) (by rw[zE1];omega) (fun i j hij hj=>by rw[hk,hk];exact d i j hij hj)
   exact⟨m,r,e2,a2.trans ((zB7 _ _ _).trans a),b2,c2,d2⟩
 . rw[if_neg hq0]
   obtain⟨m,r,e2,a2,b2,c2,d2⟩:=zGv (key:=key) (p:=p') (n:=n') (nrem:=nrem) (by omega) (by omega) (by omega) d
   exact⟨m,r,e2,a2.trans a,b2,c2,d2⟩
theorem zKU {p:Array Nat}{nrem:Nat}(h1:1<=nrem)(hz:nrem<=p.size):∃m q,ev (lt_ key) (kas_count nrem p)=(m,q)/\q.Perm p/\1<=m/\m<=nrem/\Sr key q m:=by
 unfold kas_count
 rw[zDZ]
 obtain⟨n,e,a,b,hsn,hor⟩:=zJa (key:=key) (p:=p) (nrem-1) 1 (zG _) (fun i j hij hj=>by have:i=j:=(by omega);subst this;exact KeyOrd.kle_refl _)
 rw[e]
 by_cases hnn:n=nrem
 . rw[if_pos (by simpa using hnn)]
   exact⟨n,p,rfl,.refl _,a,by omega,hsn⟩
 . rw[if_neg (by simpa using hnn)]
   have hlt:O.klt (kk key p n) (kk key p (n-1)):=hor.resolve_left (by omega)
   by_cases hgt:n > 1
   . rw[if_pos hgt]
     show ∃m q,ev (lt_ key) (if lt_ key (p.getD 0 0) (p.getD (n-1) 0)=true then KasT.ret (n,p) else kas_descPart n nrem (kas_rev p 0 n))=(m,q)/\_
     cases hr:lt_ key (p.getD 0 0) (p.getD (n-1) 0) with
     | true=>exact⟨n,p,by simp[ev],.refl _,a,by omega,hsn⟩
     | false=>
      have hall:∀k,0<=k->k<n->kk key p k=kk key p (n-1):=fun k _ hk=>
       KeyOrd.kle_antisymm (hsn k (n-1) (by omega) (by omega)) (KeyOrd.kle_trans hr (hsn 0 k (by omega) hk))
      have hk:=zEC (key:=key) (p:=p) (i:=0) (j:=n) (by omega) hall
      obtain⟨m,q,e2,a2,b2,c2,d2⟩:=zEI (key:=key) (p:=kas_rev p 0 n) (n:=n) (nrem:=nrem) (by omega) (by rw[zE1];omega) (fun i j hij hj=>by
       rw[hk,hk]
       by_cases hjn:j<n
       . rw[hall i (by omega) (by omega),hall j (by omega) hjn];exact KeyOrd.kle_refl _
       . have hj':j=n:=by omega
         subst hj'
         by_cases hi':i=j
         . subst hi';exact KeyOrd.kle_refl _
         . rw[hall i (by omega) (by omega)];exact KeyOrd.kle_of_klt hlt)
      exact⟨m,q,by simpa using e2,a2.trans (zB7 _ _ _),b2,c2,d2⟩
   . rw[if_neg hgt]
     have hn1:n=1:=by omega
     subst hn1
     refine zEI (by omega) hz fun i j hij hj=>?_
     by_cases hi':i=j
     . subst hi';exact KeyOrd.kle_refl _
     . have hi0:i=0:=by omega
       have hj1:j=1:=by omega
       subst hi0;subst hj1
       exact KeyOrd.kle_of_klt hlt
theorem zE7 {p:Array Nat}{k:Nat}(hs:Sr key p k):∀(f l r:Nat),l<=r->r<=k->r-l<=f->(∀i,i<l->O.kle (kk key p i) (kk key p k))->(∀i,r<=i->i<k->O.klt (kk key p k) (kk key p i)) ->
 ∃m,ev (lt_ key) (kas_place p k f l r)=m/\m<=k/\(∀i,i<m->O.kle (kk key p i) (kk key p k))/\(∀i,m<=i->i<k->O.klt (kk key p k) (kk key p i))
 | 0,l,r,hlr,hrk,hf,hlo,hhi=>⟨l,rfl,by omega,hlo,fun i h1 h2=>hhi i (by omega) h2⟩
 | f+1,l,r,hlr,hrk,hf,hlo,hhi=>by
  unfold kas_place
  by_cases hge:l ≥ r
  . rw[if_pos hge]
    exact⟨l,rfl,by omega,hlo,fun i h1 h2=>hhi i (by omega) h2⟩
  . rw[if_neg hge]
    show ∃m,ev (lt_ key) (if lt_ key (p.getD k 0) (p.getD ((l+r)/2) 0)=true then kas_place p k f l ((l+r)/2) else kas_place p k f ((l+r)/2+1) r)=m/\_
    cases hl:lt_ key (p.getD k 0) (p.getD ((l+r)/2) 0) with
    | true=>
     obtain⟨m,e,x⟩:=zE7 hs f l ((l+r)/2) (by omega) (by omega) (by omega) hlo (fun i h1 h2=>KeyOrd.klt_of_klt_of_kle hl (hs _ _ h1 h2))
     exact⟨m,by simpa using e,x⟩
    | false=>
     obtain⟨m,e,x⟩:=zE7 hs f ((l+r)/2+1) r (by omega) (by omega) (by omega) (fun i h1=>KeyOrd.kle_trans (hs i ((l+r)/2) (by omega) (by omega)) (show O.kle _ _ from hl)) hhi
     exact⟨m,by simpa using e,x⟩
theorem zKv:∀(f:Nat)(p:Array Nat)(k:Nat),k+f=p.size->Sr key p k->∃q,ev (lt_ key) (kas_bin f p k)=q/\q.Perm p/\Sr key q (k+f)
 | 0,p,k,_,hs=>⟨p,rfl,.refl _,hs⟩
 | f+1,p,k,hz,hs=>by
  unfold kas_bin
  rw[zDZ]
  obtain⟨l,e,hlk,hlo,hhi⟩:=zE7 (key:=key) hs k 0 k (by omega) (by omega) (by omega) (fun i h=>by omega) (fun i h1 h2=>by omega)
  rw[e]
  have hs':Sr key (bubble p k (k-l)) (k+1):=fun i j hij hj=>by
   rw[zFs (by omega) (by omega),zFs (by omega) (by omega),show k-(k-l)=l by omega]
   repeat' split
   all_goals first
    | (exfalso;omega)
    | exact KeyOrd.kle_refl _
    | exact hlo _ (by omega)
    | exact KeyOrd.kle_of_klt (hhi _ (by omega) (by omega))
    | exact hs _ _ (by omega) (by omega)
  obtain⟨q,e2,a,b⟩:=zKv f (bubble p k (k-l)) (k+1) (by rw[(bubble_perm p k (k-l)).size_eq];omega) hs'
  exact⟨q,e2,a.trans (bubble_perm _ _ _),by rw[show k+(f+1)=k+1+f by omega];exact b⟩
theorem zLH (n:Nat)(h1:1<=n):∃q,ev (lt_ key) (kas_sort n)=q/\q.Perm (List.range n).toArray/\Sr key q n:=by
 unfold kas_sort
 rw[zDZ]
 have hz:(List.range n).toArray.size=n:=by simp
 obtain⟨m,q,e,a,b,c,d⟩:=zKU (key:=key) (p:=(List.range n).toArray) h1 (by omega)
 rw[e]
 dsimp only
 have hq:q.size=n:=by rw[a.size_eq,hz]
 by_cases hm:m<n
 . rw[if_pos hm]
   obtain⟨r,e2,a2,b2⟩:=zKv (key:=key) (n-max m 1) q (max m 1) (by omega) (by rw[show max m 1=m by omega];exact d)
   exact⟨r,e2,a2.trans a,by rw[show max m 1+(n-max m 1)=n by omega] at b2;exact b2⟩
 . rw[if_neg hm]
   have:m=n:=by omega
   subst this
   exact⟨q,rfl,a,d⟩
end
end SortT
namespace SortT
open PySem.W PyProof.Rows
noncomputable def zEW {α:Type}(n:Nat)(R:α->Prop):KasT α->Prop
 | .ret a=>R a
 | .ask i j k=>i<n/\j<n/\∀b,zEW n R (k b)
theorem zEW.bind {α β:Type}{n:Nat}{R:α->Prop}{R':β->Prop}{f:α->KasT β}(hf:∀a,R a->zEW n R' (f a)):∀(t:KasT α),zEW n R t->zEW n R' (t.bind f)
 | .ret a,h=>hf a h
 | .ask _ _ k,h=>⟨h.1,h.2.1,fun b=>zEW.bind hf (k b) (h.2.2 b)⟩
noncomputable def Bd (n:Nat)(p:Array Nat):Prop:=∀i,p.getD i 0<n
theorem Bd.perm {n:Nat}{p q:Array Nat}(h:Bd n q)(hp:p.Perm q):Bd n p:=fun i=>by
 have h0:0<n:=zAQ (zk _) (h 0)
 by_cases hi:i<p.size
 . have e:p.getD i 0=p[i]:=by simp[Array.getD,hi]
   rw[e]
   have hm:p[i]∈q.toList:=(Array.perm_iff_toList_perm.mp hp).mem_iff.mp (by simp)
   obtain⟨j,hj,ej⟩:=zAC hm
   have hj':j<q.size:=by simpa using hj
   have:=h j
   rw[show q.getD j 0=q[j] by simp[Array.getD,hj']] at this
   rw[<-ej]
   simpa using this
 . have e:p.getD i 0=0:=by simp[Array.getD,hi]
   rw[e];exact h0
theorem zGn {n:Nat}{p:Array Nat}(hp:Bd n p):∀f m,zEW n (fun _=>True) (kas_asc p f m)
 | 0,_=>trivial
 | f+1,m=>⟨hp _,hp _,fun b=>by
  cases b with
  | true=>exact trivial
  | false=>exact zGn hp f (m+1)⟩
theorem zDo {n:Nat}:∀(f:Nat)(p:Array Nat)(m q:Nat),Bd n p->zEW n (fun r=>Bd n r.1) (kas_desc f p m q)
 | 0,_,_,_,hp=>hp
 | f+1,p,m,q,hp=>⟨hp _,hp _,fun b=>by
  cases b with
  | true=>
   show zEW n _ (if q > 0 then kas_desc f (kas_rev p (m-(q+1)) m) (m+1) 0 else kas_desc f p (m+1) 0)
   split
   . exact zDo f _ _ _ (hp.perm (zB7 _ _ _))
   . exact zDo f _ _ _ hp
  | false=>
   refine⟨hp _,hp _,fun d=>?_⟩
   cases d with
   | true=>exact hp
   | false=>exact zDo f _ _ _ hp⟩
theorem zFV {n m nrem:Nat}{p:Array Nat}(hp:Bd n p):zEW n (fun r=>Bd n r.2) (kas_tail3 m nrem p):=by
 unfold kas_tail3
 exact zEW.bind (R:=fun _=>True) (R':=fun r=>Bd n r.2) (f:=fun k=>KasT.ret (k,kas_rev p 0 m)) (fun a _=>hp.perm (zB7 p 0 m)) _ (zGn (hp.perm (zB7 p 0 m)) _ _)
theorem zDg {n m nrem:Nat}{p:Array Nat}(hp:Bd n p):zEW n (fun r=>Bd n r.2) (kas_descPart m nrem p):=
 zEW.bind (fun r hr=>by
  split
  . exact zFV (hr.perm (zB7 _ _ _))
  . exact zFV hr) _ (zDo _ _ _ _ hp)
theorem zJL {n nrem:Nat}{p:Array Nat}(hp:Bd n p):zEW n (fun r=>Bd n r.2) (kas_count nrem p):=
 zEW.bind (fun r _=>by
  split
  . exact hp
  . split
    . refine⟨hp _,hp _,fun b=>?_⟩
      cases b with
      | true=>exact hp
      | false=>exact zDg (hp.perm (zB7 _ _ _))
    . exact zDg hp) _ (zGn hp _ _)
theorem zDy {n k:Nat}{p:Array Nat}(hp:Bd n p):∀f l r,zEW n (fun _=>True) (kas_place p k f l r)
 | 0,_,_=>trivial
 | f+1,l,r=>by
  unfold kas_place
  split
  . exact trivial
  . refine⟨hp _,hp _,fun b=>?_⟩
    cases b with
    | true=>exact zDy hp f _ _
    | false=>exact zDy hp f _ _
theorem zJW {n:Nat}:∀(f:Nat)(p:Array Nat)(k:Nat),Bd n p->zEW n (fun _=>True) (kas_bin f p k)
 | 0,_,_,_=>trivial
 | f+1,p,k,hp=>zEW.bind (fun l _=>zJW f _ _ (hp.perm (bubble_perm _ _ _))) _ (zDy hp _ _ _)
theorem zJq {n:Nat}(h:0<n):zEW n (fun _=>True) (kas_sort n):=
 zEW.bind (fun r hr=>by
  split
  . exact zJW _ _ _ hr
  . exact trivial) _ (zJL fun i=>by
    by_cases hi:i<n
    . simp[Array.getD,hi]
    . simp[Array.getD,hi];exact h)
end SortT
namespace SortT
open PySem PySem.W PySem.Calls PyProof.Rows
theorem wp_ev {α:Type}{cmp:Nat->Nat->(Bool->Shared->Prop)->Shared->Prop}{lt:Nat->Nat->Bool}{n:Nat}{s:Shared}(hc:∀i j C,i<n->j<n->C (lt i j) s->cmp i j C s){R:α->Prop}{Q:α->Shared->Prop} :
 ∀t:KasT α,zEW n R t->Q (ev lt t) s->t.kasWp cmp Q s
 | .ret _,_,h=>h
 | .ask i j k,w,h=>hc i j _ w.1 w.2.1 (wp_ev hc (k (lt i j)) (w.2.2 _) h)
section
variable {prog:Program}{w:World}{A:Around}{E:Value->Shared->Prop}{s:Shared}
structure Put {O:KeyOrd}(key:Nat->O.α)(n:Nat)(out:List Nat):Prop where
 perm:out.Perm (List.range n)
 rise:∀(i j a b:Nat),i<=j->out[i]? = some a->out[j]? = some b->O.kle (key a) (key b)
theorem put_of {O:KeyOrd}{key:Nat->O.α}{n:Nat}{q:Array Nat}(hp:q.Perm (List.range n).toArray)(hs:Sr key q n):Put key n q.toList:=by
 have hl:q.toList.Perm (List.range n):=Array.perm_iff_toList_perm.mp hp
 refine⟨hl,fun i j a b hij ha hb=>?_⟩
 have hz:q.size=n:=by have:=hp.size_eq;simpa using this
 have hj:j<q.toList.length:=(zJ.mp hb).1
 have hj':j<n:=by rw[<-hz];simpa using hj
 have h:=hs i j hij hj'
 have ga:q.getD i 0=a:=by
  rw[Array.getD_eq_getD_getElem?,<-Array.getElem?_toList,ha];rfl
 have gb:q.getD j 0=b:=by
  rw[Array.getD_eq_getD_getElem?,<-Array.getElem?_toList,hb];rfl
 unfold kk at h
 rw[ga,gb] at h
 exact h
structure Asks (prog:Program)(w:World)(A:Around)(s:Shared)(a:Addr)(vs:List Value){O:KeyOrd}(key:Nat->O.α)(κ:SortKind):Prop where
 kind:∀(h':Heap)(Q:SortKind->Shared->Prop)(E:Value->Shared->Prop),(∀b o,b≠a->s.heap.get? b=some o->h'.get? b=some o)->Q κ { s with heap:=h' }->wpAny (model prog w) A (keyKind' vs.toArray) Q E { s with heap:=h' }
 less:∀(h':Heap)(i j:Nat)(Q:Bool->Shared->Prop)(E:Value->Shared->Prop),(∀b o,b≠a->s.heap.get? b=some o->h'.get? b=some o)->i<vs.length->j<vs.length->Q (O.blt (key i) (key j)) { s with heap:=h' } ->
  wpAny (model prog w) A (keyLt' κ (vs.getD i Value.none) (vs.getD j Value.none)) Q E { s with heap:=h' }
theorem list_sort {a:Addr}{vs:List Value}{n:Nat}{P:PySem.Fin->Shared->Prop}{O:KeyOrd}{key:Nat->O.α}{κ:SortKind}(ho:s.heap.get? a=some (seqObj "list" vs.toArray n)) (h64:vs.length<64)
 (ask:2<=vs.length->Asks prog w A s a vs key κ)
 (h:∀out:List Nat,Put key vs.length out->P (.done (.ret .none)) { s with heap:=sortedHeap s.heap a vs (out.map fun i=>vs.getD i Value.none).toArray }) :
 wpAny (model prog w) A (Builtin.«list.sort» ⟨[.ref a],[]⟩) P E s:=by
 rw[list_sort_plain]
 have ha:a<s.heap.objs.size:=zU ho
 refine zA (listItems_at ho rfl ?_)
 refine zA (listUpdate_at ho rfl ?_ (by rw[zS,sizeLine_eq];omega) (zk _))
 obtain⟨e1,ho1⟩:∃e1,(s.heap.update a (Obj.mapSeq fun _=>#[])).get? a=some (seqObj "list" #[] e1):=⟨_,get?_update_seq ho (fun _=>#[])⟩
 refine zA (seqEpoch_at ho1 rfl ?_)
 refine zA (wpAny_newTuple ?_ (by show vs.length<=_;rw[sizeLine_eq];omega))
 refine zA (zBL ?_ (zk _))
 refine zq ?_
 have ho6:(((s.heap.update a (Obj.mapSeq fun _=>#[])).push (seqObj "tuple" vs.toArray 0)).push (seqObj "list" #[] 0)).get? a=some (seqObj "list" #[] e1):=by
  rw[Heap.get?_push_ne _ _ _ (by rw[size_push',Heap.size_update];exact zf (zA1 ha)),Heap.get?_push_ne _ _ _ (by rw[Heap.size_update];exact zf ha)]
  exact ho1
 have keep:∀b o,b≠a->s.heap.get? b=some o->(((s.heap.update a (Obj.mapSeq fun _=>#[])).push (seqObj "tuple" vs.toArray 0)).push (seqObj "list" #[] 0)).get? b=some o:=fun b o hb e=>by
  refine zE _ (zE _ ?_)
  rw[zAL _ _ _ _ hb]
  exact e
 show wpAny (model prog w) A _ P E { s with heap:=((s.heap.update a (Obj.mapSeq fun _=>#[])).push (seqObj "tuple" vs.toArray 0)).push (seqObj "list" #[] 0) }
 dsimp only
 by_cases h2:vs.toArray.size<2
 . rw[if_pos h2,if_pos h2]
   refine zA (zB ?_)
   rw[StateT.run_pure]
   refine zA (zB ?_)
   dsimp only
   refine zA (seqEpoch_at ho6 rfl ?_)
   refine zA (listUpdate_at ho6 rfl ?_ (zk _) (by rw[Array.size_map];show (pairsOf vs).size<=_;rw[pairsOf_size,sizeLine_eq];omega))
   simp only[bne_self_eq_false,zBh,if_false]
   refine zB ?_
   have hlen:vs.length<2:=by simpa using h2
   have hout:(arrOf (SortSt.mk' general' (vs.toArray.zip vs.toArray) #[] 7 none)).map (·.2)=((List.range vs.length).map fun i=>vs.getD i Value.none).toArray:=by
    show (vs.toArray.zip vs.toArray).map (·.2)=_
    match vs,hlen with
    | [],_=>simp
    | [v],_=>simp
    | _::_::_,h=>exfalso;simp only[zj] at h;omega
   have fin:=h (List.range vs.length) ⟨.refl _,fun i j x y hij hx hy=>by
    have hj:j<(List.range vs.length).length:=(zJ.mp hy).1
    rw[zAW] at hj
    have e:i=j:=by omega
    subst e
    rw[hx] at hy
    cases hy
    exact KeyOrd.kle_refl _⟩
   rw[<-hout] at fin
   exact fin
 . rw[if_neg h2,if_neg h2]
   have h2':2<=vs.length:=by
    have:¬ vs.length<2:=by simpa using h2
    omega
   have K:=ask h2'
   refine zA (K.kind _ _ _ keep ?_)
   obtain⟨q,eq,hp,hs⟩:=zLH (key:=key) vs.length (by omega)
   have run:(kas_sort vs.length).kasWp (kas_ask prog w A κ vs) (fun p s'=>p=q/\s'={ s with heap:=((s.heap.update a (Obj.mapSeq fun _=>#[])).push (seqObj "tuple" vs.toArray 0)).push (seqObj "list" #[] 0) })
    { s with heap:=((s.heap.update a (Obj.mapSeq fun _=>#[])).push (seqObj "tuple" vs.toArray 0)).push (seqObj "list" #[] 0) }:=
    wp_ev (lt:=lt_ key) (n:=vs.length) (fun i j C hi hj hC=>K.less _ i j C _ keep hi hj hC) _ (zJq (by omega)) ⟨eq,rfl⟩
   refine zA (zAM (kat_run (ks:=vs) (vs:=vs) (Q:=fun st' s'=>∃p:Array Nat,p.size=vs.length/\arrOf st'=p.map (kas_item (vs.toArray.zip vs.toArray))/\failedOf st'=none/\p=q/\s'={ s with heap:=((s.heap.update a (Obj.mapSeq fun _=>#[])).push (seqObj "tuple" vs.toArray 0)).push (seqObj "list" #[] 0) })
    rfl h2' h64 (fun p' st' s' a1 a2 a3 a4=>⟨p',a1,a2,a3,a4⟩) run) ?_ fun _ _ e=>e)
   rintro ⟨⟨⟩,st'⟩ s' ⟨p,hsz,har,hf,rfl,rfl⟩
   dsimp only
   refine zA (seqEpoch_at ho6 rfl ?_)
   refine zA (listUpdate_at ho6 rfl ?_ (zk _) (by rw[Array.size_map,har,Array.size_map,hsz,sizeLine_eq];omega))
   rw[hf]
   simp only[bne_self_eq_false,zBh,if_false]
   refine zB ?_
   have hout:=kat_snds (ks:=vs) (vs:=vs) rfl har
   have fin:=h p.toList (put_of hp hs)
   rw[<-hout] at fin
   exact fin
theorem sorted_list {l:Addr}{vs:List Value}{Q:Value->Shared->Prop}{O:KeyOrd}{key:Nat->O.α}{κ:SortKind}(hl:s.heap.IsList l vs.toArray)(h64:vs.length<64)
 (ask:2<=vs.length->∀(s':Shared)(a:Addr),(∀b o,s.heap.get? b=some o->b≠a)->(∀b o,s.heap.get? b=some o->s'.heap.get? b=some o)->Asks prog w A.in1.in1 s' a vs key κ)
 (h:∀(D:Addr)(h':Heap)(out:List Nat)(c:Nat),Put key vs.length out->s.heap.objs.size<=D->(∀b o,s.heap.get? b=some o->h'.get? b=some o) ->
  h'.get? D=some (seqObj "list" (out.map fun i=>vs.getD i Value.none).toArray c)->Q (.ref D) { s with heap:=h' }) :
 wpAny (model prog w) A (call (.builtin "sorted") [.ref l]) Q E s:=by
 refine Calls.call_function_entry kind_sorted plain_sorted entry_sorted (args_sorted1 _) ?_
 unfold Builtin.«sorted»
 refine zA (m:=checkCount "sorted" 1 1 _) (zB ?_)
 refine zA (collect_list hl ?_ (by rw[sizeLine_eq];omega))
 refine zA (zBL ?_ (by rw[sizeLine_eq];omega))
 have hsz:((s.heap.push (seqObj "list" #[] 0)).update s.heap.objs.size (Obj.mapSeq (· ++ vs.toArray))).objs.size=s.heap.objs.size+1:=by
  rw[Heap.size_update,size_push']
 have hoL:(((s.heap.push (seqObj "list" #[] 0)).update s.heap.objs.size (Obj.mapSeq (· ++ vs.toArray))).push (seqObj "list" vs.toArray 0)).get? (s.heap.objs.size+1)=some (seqObj "list" vs.toArray 0):=by
  rw[<-hsz];exact zK _ rfl
 have keep:∀b o,s.heap.get? b=some o->(((s.heap.push (seqObj "list" #[] 0)).update s.heap.objs.size (Obj.mapSeq (· ++ vs.toArray))).push (seqObj "list" vs.toArray 0)).get? b=some o:=fun b o q=>by
  have hlt:b<s.heap.objs.size:=zU q
  rw[Heap.get?_push_ne _ _ _ (by rw[hsz];exact zf (zA1 hlt)),zAL _ _ _ _ (zf hlt),Heap.get?_push_ne _ _ _ (zf hlt)]
  exact q
 show wpAny _ _ _ _ _ { s with heap:=((s.heap.push (seqObj "list" #[] 0)).update s.heap.objs.size (Obj.mapSeq (· ++ vs.toArray))).push (seqObj "list" vs.toArray 0) }
 rw[hsz]
 refine zA (zq (zAO slot_list_sort ⟨_,hoL,rfl⟩ entry_list_sort (list_sort (O:=O) (key:=key) (κ:=κ) hoL h64 (fun h2=>ask h2 _ _ (fun b o e=>zf (zA1 (zU e))) keep) fun out hp=>⟨_,rfl,?_⟩) (args_list_sort _)))
 refine zB ⟨_,rfl,?_⟩
 obtain⟨c,hc⟩:=sortedAll_at s.heap vs (out.map fun i=>vs.getD i Value.none).toArray
 exact h _ _ out c hp (zBA _) (fun b o e=>sortedAll_old e) hc
end
end SortT
namespace DRaw
open PySem PySem.W PySem.Calls PyProof.Rows
noncomputable def At (h:Heap)(d:Addr)(es:Array DictEntry)(ep:Nat):Prop:=∃o,h.get? d=some o/\o.ExactDict/\o.data = .dict es ep
theorem At.keep {h h':Heap}{d:Addr}{es:Array DictEntry}{ep:Nat}(x:At h d es ep)(k:∀o,h.get? d=some o->h'.get? d=some o):At h' d es ep:=
 let ⟨o,ho,r⟩:=x;⟨o,k o ho,r⟩
theorem At.lt {h:Heap}{d:Addr}{es:Array DictEntry}{ep:Nat}(x:At h d es ep):d<h.objs.size:=let ⟨_,ho,_⟩:=x;zU ho
theorem At.typeIs {s:Shared}{d:Addr}{es:Array DictEntry}{ep:Nat}(x:At s.heap d es ep):s.TypeIs (.ref d) "dict" := let ⟨o,ho,hc,_⟩:=x;⟨o,ho,hc.1⟩
section
variable {prog:Program}{w:World}{A:Around}{E:Value->Shared->Prop}{s:Shared}{it d:Addr}{es:Array DictEntry}{i ep:Nat}
theorem iter {Q:Value->Shared->Prop}(hd:(d==sysModules)=false)(hm:At s.heap d es ep)
 (hQ:Q (.ref s.heap.objs.size) { s with heap:=s.heap.push { cls:=.type "dict_keyiterator",data:=.fields #[.ref d,.int 0 0,.int es.size 0,.int ep 0] } }) :
 wpAny (model prog w) A (pyIter (.ref d)) Q E s:=by
 obtain⟨o,ho,hc,hdat⟩:=id hm
 have hT:=hm.typeIs
 refine wpAny_pyIter_slot hT F.slot_dict_iter (zAO F.slot_dict_iter hT F.entry_dict_iter ?_ (F.args_dict_iter_1 _))
 unfold Builtin.«dict.__iter__»
 refine zA ?_
 unfold Builtin.Dict.dictSlotNone
 refine zA (wpAny_notOrdered_dict hT ?_)
 show wpAny _ _ (pure (Value.ref d)) _ _ s
 refine zB ?_
 show wpAny _ _ (Builtin.Dict.showsAll d >>= _) _ _ s
 unfold Builtin.Dict.showsAll
 rw[if_neg (by rw[hd];exact zh)]
 refine zA (zB ?_)
 refine zA (wpAny_dictEntries ho hdat ?_)
 refine zA (wpAny_dictEpoch ho hdat ?_)
 refine zA (zAN (zB ⟨_,rfl, "dict_keyiterator",_,⟨_,zK _ rfl,rfl⟩,F.slot_dict_keyiterator_next.lookup,?_⟩))
 simpa [rawInt] using hQ
theorem next {Q:Option Value->Shared->Prop}(hit:s.heap.IsKeyIter it d i es.size ep)(hm:At s.heap d es ep)(hlt':i<es.size)
 (hQ:∀h',h'.IsKeyIter it d (i+1) es.size ep->Heap.SameBut it s.heap h'->Q (some es[i].key) { s with heap:=h' }):wpAny (model prog w) A (pyNext (.ref it)) Q E s:=by
 obtain⟨o,ho,hc,hd⟩:=id hit
 obtain⟨od,hod,hcd,hdd⟩:=id hm
 unfold pyNext
 refine zA (wpAny_attempt (zAr (name:=Str.ofString "__next__") hit.typeIs F.slot_dict_keyiterator_next
  (zAO F.slot_dict_keyiterator_next hit.typeIs F.entry_dict_keyiterator_next ?_ (F.args_dict_keyiterator_next_1 _))))
 refine zA (zB ?_)
 refine zA ?_
 refine zA ?_
 first | refine zA (zBs hit.typeIs (zB ?_)) | refine zA (wpAny_typeNameOf_keyiter hit.typeIs (zB ?_))
 refine zA (wpAny_fieldsOf ho hd ?_)
 have hown:Builtin.Dict_items.ownsTuple "dict_keyiterator" = false:=by decide
 simp only[hown,zBh,if_false]
 show wpAny _ _ (if (Value.ref d==Value.none)=true then _ else _) _ _ s
 rw[if_neg (show ¬ ((Value.ref d==Value.none)=true) from zh)]
 refine zA (zB ?_)
 refine zA (wpAny_dictEntries hod hdd ?_)
 rw[if_neg (by simp)]
 refine zA (zB ?_)
 refine zA (wpAny_dictEpoch hod hdd ?_)
 rw[if_neg (by simp)]
 refine zB ?_
 simp only[show ¬ ((i:Int)<0) from by omega,if_false,zAX,Array.getElem?_eq_getElem hlt']
 refine zA ?_
 first | refine zA (zBs hit.typeIs (zB ?_)) | refine zA (wpAny_typeNameOf_keyiter hit.typeIs (zB ?_))
 refine zA (wpAny_isOneOf_keyiter hit.typeIs ?_)
 show wpAny _ _ (setField (.ref it) 1 (rawInt ((i:Int)+1)) >>= _) _ _ s
 refine zA (zBt ho hd (by simp) ?_)
 have hit':(s.heap.update it (Obj.mapFields (·.setIfInBounds 1 (rawInt ((i:Int)+1))))).IsKeyIter it d (i+1) es.size ep:=
  ⟨_,zi _ ho (Obj.isFreed_of_fields (Obj.data_mapFields hd _)),(Obj.cls_mapFields ..).trans hc,by rw[Obj.data_mapFields hd];simp[rawInt]⟩
 refine zA (zq ?_)
 refine zA (wpAny_isOneOf_keyiter (s:={ s with heap:=s.heap.update it (Obj.mapFields (·.setIfInBounds 1 (rawInt ((i:Int)+1)))) }) hit'.typeIs ?_)
 show wpAny _ _ (pure es[i].key) _ _ _
 exact zB (zB ⟨_,rfl,zB (hQ _ hit' (zAo ..))⟩)
theorem stop {Q:Option Value->Shared->Prop}(hh:A.handled=none)(hit:s.heap.IsKeyIter it d i es.size ep)(hm:At s.heap d es ep)(hge:es.size<=i)
 (hQ:∀h',Heap.ExtBut it s.heap h'->Q none { s with heap:=h' }):wpAny (model prog w) A (pyNext (.ref it)) Q E s:=by
 obtain⟨o,ho,hc,hd⟩:=id hit
 obtain⟨od,hod,hcd,hdd⟩:=id hm
 unfold pyNext
 refine zA (wpAny_attempt (zAr (name:=Str.ofString "__next__") hit.typeIs F.slot_dict_keyiterator_next
  (zAO F.slot_dict_keyiterator_next hit.typeIs F.entry_dict_keyiterator_next ?_ (F.args_dict_keyiterator_next_1 _))))
 refine zA (zB ?_)
 refine zA ?_
 refine zA ?_
 first | refine zA (zBs hit.typeIs (zB ?_)) | refine zA (wpAny_typeNameOf_keyiter hit.typeIs (zB ?_))
 refine zA (wpAny_fieldsOf ho hd ?_)
 have hown:Builtin.Dict_items.ownsTuple "dict_keyiterator" = false:=by decide
 simp only[hown,zBh,if_false]
 show wpAny _ _ (if (Value.ref d==Value.none)=true then _ else _) _ _ s
 rw[if_neg (show ¬ ((Value.ref d==Value.none)=true) from zh)]
 refine zA (zB ?_)
 refine zA (wpAny_dictEntries hod hdd ?_)
 rw[if_neg (by simp)]
 refine zA (zB ?_)
 refine zA (wpAny_dictEpoch hod hdd ?_)
 rw[if_neg (by simp)]
 refine zB ?_
 simp only[show ¬ ((i:Int)<0) from by omega,if_false,zAX,Array.getElem?_eq_none hge]
 refine zA ?_
 first | refine zA (zBs hit.typeIs (zB ?_)) | refine zA (wpAny_typeNameOf_keyiter hit.typeIs (zB ?_))
 show wpAny _ _ (setField (.ref it) 0 .none >>= _) _ _ s
 refine zA (zBt ho hd (by simp) ?_)
 show wpAny _ _ (newExc (.type "StopIteration") [] >>= _) _ _ _
 refine zA ?_
 simp only[newExc,newTuple]
 refine zA (zAN ?_ (by size_fits))
 refine zA (m:=firstArgMember _ _) (wpAny_of_eq (a:=Value.none) (by first | rfl | (simp only[firstArgMember];rfl)) ?_)
 refine zAN ?_ (by size_fits)
 simp only[raiseNew]
 refine zA (wpAny_handled ?_)
 rw[show A.in1.handled=none from hh]
 refine zA (zB (wpAny_throw ?_))
 refine zA (zBI (T := "StopIteration") (b:=true) ⟨_,zK _ rfl,rfl⟩ isSubtype_stop ?_)
 exact zB (hQ _ (((zAo ..).extBut.push _).push _))
end
section
variable {prog:Program}{w:World}{A:Around}{d:Addr}{es:Array DictEntry}{ep:Nat}
theorem walks (hh:A.handled=none)(I:Addr)(hne:d≠I):Walks prog w A I [I,d] [I] es.size (fun i v=>∃e,es[i]? = some e/\v=e.key) (fun i h=>h.IsKeyIter I d i es.size ep/\At h d es ep) where
 sub:=fun b hb=>by simp at hb;simp[hb]
 frame:=fun _ _ _ st hk=>⟨st.1.at fun o e=>hk I (by simp) o e,st.2.keep fun o e=>hk d (by simp) o e⟩
 item:=fun i s Q E hi st hQ=>next st.1 st.2 hi fun h' hit' hs'=>
  hQ _ h' s.toks ⟨es[i],by simp[hi],rfl⟩ ⟨hit',st.2.keep fun o e=>hs'.extBut d o hne e⟩ fun b o hb e=>hs'.extBut b o (fun h=>hb (by simp[h])) e
 done:=fun s Q E st hQ=>stop hh st.1 st.2 (zG _) fun h' he'=>hQ h' s.toks fun b o hb e=>he' b o (fun h=>hb (by simp[h])) e
 self:=fun _ _ _ _ st hQ=>wpAny_pyIter_keyiter st.1 hQ
theorem src (lo:(d==sysModules)=false):KdlSrc prog w "dict" d d es.size (fun i v=>∃e,es[i]? = some e/\v=e.key) (fun h=>At h d es ep) where
 type:=fun _ hm=>hm.typeIs
 there:=fun _ hm=>⟨hm.lt,hm.lt⟩
 keep:=fun _ _ hm hk=>hm.keep fun o e=>hk d (.inl rfl) o e
 notList:=by decide
 notTuple:=by decide
 hint:=fun _ _ _ _ hm hq=>kdl_hint_dict hm.typeIs hq
 iter:=fun _ _ hh hm=>⟨_,_,(fun _ _ hq=>iter lo hm hq),walks hh _ (zf hm.lt),⟨⟨_,zK _ rfl,rfl,rfl⟩,hm.keep fun o e=>zE _ e⟩⟩
end
end DRaw
namespace SortT
open PySem PySem.W PySem.Calls PyProof.Rows
theorem sorted_dict {prog:Program}{w:World}{A:Around}{E:Value->Shared->Prop}{s:Shared}{d:Addr}{es:Array DictEntry}{ep:Nat}{vs:List Value}{Q:Value->Shared->Prop}{O:KeyOrd}{key:Nat->O.α}{κ:SortKind}
 (hh:A.handled=none)(lo:(d==sysModules)=false)(hm:DRaw.At s.heap d es ep)(hvs:vs=es.toList.map (·.key))(h64:vs.length<64)
 (ask:2<=vs.length->∀(s':Shared)(a:Addr),(∀b o,s.heap.get? b=some o->b≠a)->(∀b o,s.heap.get? b=some o->s'.heap.get? b=some o)->Asks prog w A.in1.in1 s' a vs key κ)
 (h:∀(h1:Heap)(D:Addr)(h':Heap)(t':Nat)(out:List Nat)(c:Nat),Put key vs.length out->(∀b o,s.heap.get? b=some o->h1.get? b=some o)->h1.objs.size<=D->(∀b o,h1.get? b=some o->h'.get? b=some o) ->
  h'.get? D=some (seqObj "list" (out.map fun i=>vs.getD i Value.none).toArray c)->Q (.ref D) { s with heap:=h',toks:=t' }) :
 wpAny (model prog w) A (call (.builtin "sorted") [.ref d]) Q E s:=by
 have hlen:vs.length=es.size:=by rw[hvs];simp
 refine call_function_entry kind_sorted plain_sorted entry_sorted (args_sorted1 _) ?_
 unfold Builtin.«sorted»
 refine zA (m:=checkCount "sorted" 1 1 _) (zB ?_)
 refine zA (kdu_collect (A:=A.in1) (DRaw.src (es:=es) (ep:=ep) lo) hh hm (by rw[sizeLine_eq];omega) fun h1 tk acc hk hacc=>?_)
 have el:acc.toList=vs:=by
  apply List.ext_getElem?
  intro j
  by_cases hj:j<es.size
  . have hz:j<acc.size:=by rw[hacc.1];exact hj
    obtain⟨e,he,hv⟩:=hacc.2 j acc[j] (by simp[hz])
    rw[Array.getElem?_toList,Array.getElem?_eq_getElem hz,hv,hvs,zT,Array.getElem?_toList,he]
    rfl
  . rw[zAB (by rw[Array.length_toList,hacc.1];omega),zAB (by omega)]
 rw[el]
 refine zA (zBL ?_ (by rw[sizeLine_eq];omega))
 have hoL:(h1.push (seqObj "list" vs.toArray 0)).get? h1.objs.size=some (seqObj "list" vs.toArray 0):=zK _ rfl
 have keep1:∀b o,h1.get? b=some o->(h1.push (seqObj "list" vs.toArray 0)).get? b=some o:=fun b o q=>zE _ q
 refine zA (zq (zAO slot_list_sort ⟨_,hoL,rfl⟩ entry_list_sort (list_sort (O:=O) (key:=key) (κ:=κ) hoL h64
  (fun h2=>ask h2 _ _ (fun b o e=>zf (zU (hk b o e))) fun b o e=>keep1 b o (hk b o e)) fun out hp=>⟨_,rfl,?_⟩) (args_list_sort _)))
 refine zB ⟨_,rfl,?_⟩
 obtain⟨c,hc⟩:=sortedHeap_at (vs:=vs) (out:=(out.map fun i=>vs.getD i Value.none).toArray) hoL
 refine h h1 _ _ _ out c hp hk (zG _) (fun b o e=>?_) hc
 have hb:b<h1.objs.size:=zU e
 rw[sortedHeap_old (zf hb) (by rw[zAg];exact zA1 hb)]
 exact keep1 b o e
end SortT
namespace L2
open PySem PySem.Spec PyProof.Rows
theorem zEh:∀a:List Int,HT.lexLt a a=false
 | []=>rfl
 | x::r=>by rw[HT.lexLt_cons,if_pos rfl];exact zEh r
theorem zEA:∀a b c:List Int,HT.lexLt a b=true->HT.lexLt b c=true->HT.lexLt a c=true
 | [],[],_,h,_=>by cases h
 | [],_::_,[],_,h=>by cases h
 | [],_::_,_::_,_,_=>rfl
 | _::_,[],_,h,_=>by cases h
 | _::_,_::_,[],_,h=>by cases h
 | x::a,y::b,z::c,h1,h2=>by
  rw[HT.lexLt_cons] at h1 h2 ⊢
  by_cases e1:x=y
  . subst e1
    rw[if_pos rfl] at h1
    by_cases e2:x=z
    . subst e2
      rw[if_pos rfl] at h2 ⊢
      exact zEA a b c h1 h2
    . rw[if_neg e2] at h2 ⊢;exact h2
  . rw[if_neg e1] at h1
    have l1:x<y:=of_decide_eq_true h1
    by_cases e2:y=z
    . subst e2;rw[if_neg e1];exact h1
    . rw[if_neg e2] at h2
      have l2:y<z:=of_decide_eq_true h2
      rw[if_neg (by omega)]
      exact zM (by omega)
theorem zEB:∀a b:List Int,HT.lexLt a b=false->HT.lexLt b a=false->a=b
 | [],[],_,_=>rfl
 | [],_::_,h,_=>by cases h
 | _::_,[],_,h=>by cases h
 | x::a,y::b,h1,h2=>by
  rw[HT.lexLt_cons] at h1 h2
  by_cases e:x=y
  . subst e
    rw[if_pos rfl] at h1 h2
    rw[zEB a b h1 h2]
  . rw[if_neg e] at h1
    rw[if_neg (Ne.symm e)] at h2
    have l1:=of_decide_eq_false h1
    have l2:=of_decide_eq_false h2
    omega
theorem zLg (a b c:List Int)(h:HT.lexLt a c=true):HT.lexLt a b=true\/HT.lexLt b c=true:=by
 cases h1:HT.lexLt a b with
 | true=>exact .inl rfl
 | false=>
  cases h2:HT.lexLt b a with
  | true=>exact .inr (zEA b a c h2 h)
  | false=>rw[<-zEB a b h1 h2];exact .inr h
noncomputable def zJe:KeyOrd:=⟨List Int,HT.lexLt,zEh,zEA,zLg,zEB⟩
noncomputable def zH3 (ms:List (List Int)):Prop:=ms.Pairwise fun a b=>HT.lexLt b a=false
noncomputable def zAG (H:Hp):List V->List (List Int)->Prop
 | [],[]=>True
 | x::xs,k::ks=>(∃a,x = .ref a/\H a=some (.tup (k.map V.int))/\k≠[])/\zAG H xs ks
 | _,_=>False
theorem zAG.length {H:Hp}:∀{xs:List V}{ks:List (List Int)},zAG H xs ks->xs.length=ks.length
 | [],[],_=>rfl
 | [],_::_,h=>h.elim
 | _::_,[],h=>h.elim
 | _::_,_::_,h=>by rw[zj,zj,zAG.length h.2]
theorem zAG.get {H:Hp}:∀{xs:List V}{ks:List (List Int)}{i:Nat}{x:V},zAG H xs ks->xs[i]? = some x->∃a k,x = .ref a/\ks[i]? = some k/\H a=some (.tup (k.map V.int))/\k≠[]
 | [],_,_,_,_,h=>by simp at h
 | _::_,[],_,_,h,_=>h.elim
 | y::_,k::_,0,x,h,e=>by
  obtain⟨⟨a,h1,h2,h3⟩,_⟩:=h
  have e':y=x:=by simpa using e
  subst e'
  exact⟨a,k,h1,rfl,h2,h3⟩
 | _::_,_::_,i+1,x,h,e=>by
  obtain⟨a,k,h1,h2,h3⟩:=zAG.get (i:=i) h.2 (by simpa using e)
  exact⟨a,k,h1,by simpa using h2,h3⟩
theorem zAG.mk {H:Hp}:∀{xs:List V}{ks:List (List Int)},xs.length=ks.length->(∀(i:Nat)(x:V)(k:List Int),xs[i]? = some x->ks[i]? = some k->∃a,x=V.ref a/\H a=some (.tup (k.map V.int))/\k≠[])->zAG H xs ks
 | [],[],_,_=>trivial
 | [],_::_,e,_=>by simp at e
 | _::_,[],e,_=>by simp at e
 | x::xs,k::ks,e,h=>⟨h 0 x k rfl rfl,zAG.mk (by simpa using e) fun i x' k' h1 h2=>h (i+1) x' k' (by simpa using h1) (by simpa using h2)⟩
theorem zAG.keep {H H':Hp}{xs:List V}{ks:List (List Int)}(h:zAG H xs ks)(k:∀b ys,H b=some (.tup ys)->H' b=some (.tup ys)):zAG H' xs ks:=
 zAG.mk h.length fun i x c h1 h2=>by
  obtain⟨a,c',e1,e2,e3,e4⟩:=h.get h1
  rw[h2] at e2
  cases e2
  exact⟨a,e1,k a _ e3,e4⟩
theorem zAG.snoc {H:Hp}:∀{xs:List V}{ks:List (List Int)}{x:V}{k:List Int},zAG H xs ks->(∃a,x = .ref a/\H a=some (.tup (k.map V.int))/\k≠[])->zAG H (xs++[x]) (ks++[k])
 | [],[],_,_,_,h=>⟨h,trivial⟩
 | [],_::_,_,_,t,_=>t.elim
 | _::_,[],_,_,t,_=>t.elim
 | _::_,_::_,_,_,t,h=>⟨t.1,zAG.snoc t.2 h⟩
section
variable {prog:Program}{w:World}{A:Around}{s:Shared}
theorem zEE {fin:Bool}{Q:Bool->Shared->Prop}:∀(ns ms:List Int)(us ws:List Value)(i:Nat),IntsAre us ns->IntsAre ws ms->fin=decide (ns.length<ms.length)->Q (HT.lexLt ns ms) s ->
 PySem.W.KatLex prog w A true fin Q (us.zip ws) i s
 | [],[],_,_,_,.nil,.nil,e,q=>by subst e;exact q
 | [],_::_,_,_,_,.nil,.cons _ _ _,e,q=>by subst e;exact q
 | _::_,[],_,_,_,.cons _ _ _,.nil,e,q=>by subst e;exact q
 | n::ns,m::ms,_,_,i,.cons _ t hu,.cons _ u hw,e,q=>by
  rw[HT.lexLt_cons] at q
  refine PySem.W.kat_cons (wpAny_eqBool_int ?_)
  by_cases h:n=m
  . rw[if_pos h] at q
    rw[show (n==m)=true by simpa using h]
    exact PySem.W.kat_yes (zEE ns ms _ _ (i+1) hu hw (by rw[e];simp) q)
  . rw[if_neg h] at q
    rw[show (n==m)=false by simpa using h]
    refine PySem.W.kat_no ?_
    cases i with
    | zero=>exact oneLt_int q
    | succ j=>exact PySem.W.kat_one _ _ (PyProof.Rows.lt_int q)
theorem zEK {X:Cx}{pins:List (Addr×Obj)}{σ:St}{H:Hp}{s s':Shared}{a:Addr}{ys:List V}{ks:List (List Int)}{vs:List Value}{A:Around}(I:Inv X pins σ H s)(T:zAG H ys ks)(r:zBK ys vs)(hne:0<vs.length)
 (fa:∀b o,s.heap.get? b=some o->b≠a)(kp:∀b o,s.heap.get? b=some o->s'.heap.get? b=some o):SortT.Asks X.prog X.w A s' a vs (O:=zJe) (fun i=>ks.getD i []) (tuples' true):=by
 have hl:=T.length
 have hv:=r.length
 have at_:∀(h':Heap),(∀b o,b≠a->s'.heap.get? b=some o->h'.get? b=some o)->∀i,i<vs.length->∃(p:Addr)(k:List Int)(us:List Value)(o:Obj)(n:Nat),vs[i]? = some (Value.ref p)/\ks[i]? = some k/\k≠[]/\IntsAre us k/\h'.get? p=some o/\o.cls = .type "tuple" /\ o.data = .seq us.toArray n:=fun h' kh i hi=>by
  have hy:i<ys.length:=by omega
  obtain⟨p,k,e1,e2,e3,e4⟩:=T.get (i:=i) (x:=ys[i]) (by simp[hy])
  obtain⟨u,hu,ru⟩:=r.get (i:=i) (x:=ys[i]) (by simp[hy])
  rw[e1] at ru
  cases (show u=Value.ref p from ru)
  obtain⟨_,its,rv,o,ho,hc,n,hd⟩:=I.hok p _ e3
  exact⟨p,k,its,o,n,hu,e2,e4,zBd rv,kh p o (fa p o ho) (kp p o ho),hc,hd⟩
 refine⟨fun h' Q E kh q=>?_,fun h' i j Q E kh hi hj q=>?_⟩
 . -- all keys are tuples whose first items are ints
   have tups:∀(m:Nat),m<=vs.length->∃fs:List Value,PySem.W.KatTups h' (vs.drop (vs.length-m)) fs/\fs.length=m/\∀f∈fs,∃x t,f=Value.int x t:=by
    intro m
    induction m with
    | zero=>intro _;exact⟨[],by rw[Nat.sub_zero,List.drop_length];exact trivial,rfl,fun f hf=>by simp at hf⟩
    | succ m ih=>
     intro hm
     obtain⟨fs,t,e,hf⟩:=ih (by omega)
     obtain⟨p,k,us,o,n,hu,hk,hk0,hI,ho,hc,hd⟩:=at_ h' kh (vs.length-(m+1)) (by omega)
     have ed:vs.drop (vs.length-(m+1))=Value.ref p::vs.drop (vs.length-m):=by
      have hlt:vs.length-(m+1)<vs.length:=by omega
      rw[List.drop_eq_getElem_cons hlt,show vs.length-(m+1)+1=vs.length-m by omega]
      have:vs[vs.length-(m+1)]=Value.ref p:=by
       rw[zD hlt] at hu
       exact za hu
      rw[this]
     cases hI with
     | nil=>exact absurd rfl hk0
     | cons x tx hI'=>
      refine⟨Value.int x tx::fs,by rw[ed];exact PySem.W.KatTups.cons ho hc hd rfl t,by rw[zj,e],fun f hf'=>?_⟩
      rcases zW.mp hf' with rfl | hf'
      . exact⟨x,tx,rfl⟩
      . exact hf f hf'
   obtain⟨fs,t,e,hf⟩:=tups vs.length (zG _)
   rw[Nat.sub_self,List.drop_zero] at t
   refine PySem.W.kat_kind (T:=Value.type "int") t (by omega) (fun v hv=>?_) (by rfl) q
   obtain⟨x,tx,rfl⟩:=hf v hv
   exact PySem.W.Looks.of_pure rfl
 . obtain⟨p,k,us,o,n,hu,hk,_,hI,ho,hc,hd⟩:=at_ h' kh i hi
   obtain⟨p2,k2,us2,o2,n2,hu2,hk2,_,hI2,ho2,hc2,hd2⟩:=at_ h' kh j hj
   have e1:vs.getD i Value.none = .ref p:=by rw[zP,hu];rfl
   have e2:vs.getD j Value.none = .ref p2:=by rw[zP,hu2];rfl
   have g1:ks.getD i []=k:=by rw[zP,hk];rfl
   have g2:ks.getD j []=k2:=by rw[zP,hk2];rfl
   rw[e1,e2]
   refine PySem.W.kat_lt (s:={ s' with heap:=h' }) ho hd ho2 hd2 ?_
   have q':Q (HT.lexLt k k2) { s' with heap:=h' }:=by
    have:zJe.blt (ks.getD i []) (ks.getD j [])=HT.lexLt k k2:=by rw[g1,g2];rfl
    rw[<-this];exact q
   have l1:=hI.length
   have l2:=hI2.length
   exact zEE k k2 us us2 0 hI hI2 (by simp only[zS];rw[l1,l2]) q'
theorem zE3 {H:Hp}{ys:List V}{ks:List (List Int)}{vs:List Value}{out:List Nat}(T:zAG H ys ks)(r:zBK ys vs)(p:SortT.Put (O:=zJe) (fun i=>ks.getD i []) vs.length out) :
 ∃zs ms,zAG H zs ms/\ms.Perm ks/\zH3 ms/\zBK zs (out.map fun i=>vs.getD i Value.none)/\zs.length=ys.length:=by
 have hl:=T.length
 have hv:=r.length
 have hb:∀i∈out,i<vs.length:=fun i hi=>zBz.mp (p.perm.mem_iff.mp hi)
 refine⟨out.map fun i=>ys.getD i .non,out.map fun i=>ks.getD i [],zAG.mk (by rw[zC,zC]) fun j x k hx hk=>?_,?_,?_,?_,?_⟩
 . rw[zT] at hx hk
   cases e:out[j]? with
   | none=>rw[e] at hx;cases hx
   | some i=>
    rw[e] at hx hk
    have hi:=hb i (zc e)
    have hy:i<ys.length:=by omega
    obtain⟨a,c,e1,e2,e3,e4⟩:=T.get (i:=i) (x:=ys[i]) (by simp[hy])
    have ex:ys.getD i .non=x:=za hx
    have ek:ks.getD i []=k:=za hk
    rw[zP,zD hy] at ex
    rw[zP,e2] at ek
    have ex':ys[i]=x:=ex
    have ek':c=k:=ek
    subst ek'
    exact⟨a,by rw[<-ex'];exact e1,e3,e4⟩
 . have h1:=p.perm.map fun i=>ks.getD i []
   have h2:(List.range vs.length).map (fun i=>ks.getD i [])=ks:=by
    rw[show vs.length=ks.length by omega]
    apply List.ext_getElem?
    intro j
    rw[zT]
    by_cases hj:j<ks.length
    . rw[List.getElem?_range hj,zD hj];simp[hj]
    . rw[zAB (by rw[zAW];omega),zAB (by omega)];rfl
   rw[h2] at h1
   exact h1
 . refine zr.mpr fun i j hi hj hij=>?_
   rw[zC] at hi hj
   have:=p.rise i j out[i] out[j] (zBQ hij) (by simp) (by simp)
   have h3:HT.lexLt (ks.getD out[j] []) (ks.getD out[i] [])=false:=this
   simpa using h3
 . have:∀l:List Nat,(∀i∈l,i<vs.length)->zBK (l.map fun i=>ys.getD i .non) (l.map fun i=>vs.getD i Value.none):=by
    intro l
    induction l with
    | nil=>intro _;exact .nil
    | cons i l ih=>
     intro h
     have hi:=h i zN
     have hy:i<ys.length:=by omega
     obtain⟨u,hu,ru⟩:=r.get (i:=i) (x:=ys[i]) (by simp[hy])
     refine .cons ?_ (ih fun j hj=>h j (zO _ hj))
     show zBe (ys.getD i V.non) (vs.getD i Value.none)
     rw[zP,zD hy,zP,hu]
     exact ru
   exact this out hb
 . rw[zC,p.perm.length_eq,zAW];omega
theorem zCS {X:Cx}{pins:List (Addr×Obj)}{σ:St}{H:Hp}{s:Shared}{h':Heap}{D:Addr}{c t':Nat}{zs:List V}{us:List Value}(I:Inv X pins σ H s)(hD:s.heap.objs.size<=D)(kp:∀b o,s.heap.get? b=some o->h'.get? b=some o)
 (ho:h'.get? D=some (seqObj "list" us.toArray c)) (r:zBK zs us)(hz:zs.length<=sizeLine):Inv X pins σ (upd H D (.lst zs)) { s with heap:=h',toks:=t' }:=
 I.laid kp hD (show zBc X.prog X.w _ _ _ (.lst zs) from ⟨hz,us,c,r,ho⟩)
end
section
variable {X:Cx}
theorem zEJ:zCd X (.builtin "sorted") (fun xs H Q=>∃p ys ks,xs=[.ref p]/\SqL X.K H p ys/\zAG H ys ks/\ks.length<64 /\
 ∀l zs ms,H l=none->zAG H zs ms->ms.Perm ks->zH3 ms->Q (.ref l) (upd H l (.lst zs))):=by
 intro pins s σ H xs us Q I r h
 obtain⟨p,ys,ks,rfl,hq,T,h64,q⟩:=h
 obtain⟨u,rfl,rx⟩:=zDQ r
 cases rx
 obtain⟨its,r',pl,hz⟩:=I.list hq
 have hl:=T.length
 have hv:=r'.length
 refine SortT.sorted_list (O:=zJe) (key:=fun i=>ks.getD i []) (κ:=tuples' true) pl.isList (by omega) (fun h2 s' a fa kp=>zEK I T r' (by omega) fa kp) fun D h' out c pt hD kp ho=>?_
 obtain⟨zs,ms,T2,hp,hr,rz,hlz⟩:=zE3 T r' pt
 exact⟨.ref D,_,zCS (t':=s.toks) I hD kp ho rz (by omega),rfl,q D zs ms (I.hok.fresh hD) T2 hp hr⟩
theorem zF7 (hc:X.calm=true):zCd X (.builtin "sorted") (fun xs H Q=>∃p kvs ks,xs=[.ref p]/\H p=some (.dT kvs)/\kvs.map (·.1)=ks.map (List.map Sum.inl)/\(∀k∈ks,k≠[])/\ks.length<64 /\
 ∀l zs ms,H l=none->zAG H zs ms->ms.Perm ks->zH3 ms->Q (.ref l) (upd H l (.lst zs))):=by
 intro pins s σ H xs us Q I r h
 obtain⟨p,kvs,ks,rfl,hd,hks,hk0,h64,q⟩:=h
 obtain⟨u,rfl,rx⟩:=zDQ r
 cases rx
 obtain⟨hz,lo,xs,rel,o,es,ep,ho,hx,hdat,hes,hnd⟩:=I.hok p _ hd
 have key:∀(kvs:List (List Key×V))(xs:List (List Key×Addr×Value))(ks:List (List Int)),KT H kvs xs->kvs.map (·.1)=ks.map (List.map Sum.inl)->(∀k∈ks,k≠[]) ->
  zAG H (xs.map fun q=>V.ref q.2.1) ks/\zBK (xs.map fun q=>V.ref q.2.1) ((xs.map (entryOfKey (tupleKind (zBj X.prog X.w)))).map (·.key)):=by
  intro kvs xs ks rel
  induction rel generalizing ks with
  | nil=>
   intro e _
   cases ks with
   | nil=>exact⟨trivial,.nil⟩
   | cons k ks=>simp at e
  | cons hpq _ ih=>
   intro e h0
   cases ks with
   | nil=>simp at e
   | cons k ks=>
    simp only[zAU,List.cons.injEq] at e
    obtain⟨T,V⟩:=ih ks e.2 fun c hc=>h0 c (zO _ hc)
    obtain⟨e1,e2,_⟩:=hpq
    refine⟨⟨⟨_,rfl,?_,h0 k zN⟩,T⟩,.cons rfl V⟩
    rw[e2,e.1,List.map_map]
    rfl
 obtain⟨T,rv⟩:=key kvs xs ks rel hks hk0
 have hl:=T.length
 have hv:=rv.length
 have evs:(xs.map (entryOfKey (tupleKind (zBj X.prog X.w)))).map (·.key)=es.toList.map (·.key):=by rw[hes]
 refine SortT.sorted_dict (O:=zJe) (key:=fun i=>ks.getD i []) (κ:=tuples' true) (vs:=(xs.map (entryOfKey (tupleKind (zBj X.prog X.w)))).map (·.key)) (I.ok.hd hc) lo ⟨o,ho,hx,hdat⟩ evs (by omega) (fun h2 s' a fa kp=>zEK I T rv (by omega) fa kp) fun h1 D h' t' out c pt k1 hD k2 ho=>?_
 obtain⟨zs,ms,T2,hp,hr,rz,hlz⟩:=zE3 T rv pt
 have I1:Inv X pins σ H { s with heap:=h1,toks:=s.toks }:=I.kept k1
 refine⟨.ref D,_,zCS (s:={ s with heap:=h1,toks:=s.toks }) (t':=t') I1 hD k2 ho rz ?_,rfl,q D zs ms (I1.hok.fresh hD) T2 hp hr⟩
 have:sizeLine=16777216:=rfl
 omega
end
end L2
namespace L2
open PySem PySem.Spec PyProof.Rows
mutual
inductive zBa (H:Hp):V->PyData->Prop
 | non:zBa H .non .none
 | bl (b:Bool):zBa H (.bl b) (.bool b)
 | int (i:Int):zBa H (.int i) (.int i)
 | str (x:Str):zBa H (.str x) (.str x)
 | tup {a:Addr}{xs:List V}{ds:List PyData}:H a=some (.tup xs)->zAt H xs ds->zBa H (.ref a) (.tuple ds)
 | lst {a:Addr}{xs:List V}{ds:List PyData}:H a=some (.lst xs)->zAt H xs ds->zBa H (.ref a) (.list ds)
inductive zAt (H:Hp):List V->List PyData->Prop
 | nil:zAt H [] []
 | cons {x:V}{xs:List V}{d:PyData}{ds:List PyData}:zBa H x d->zAt H xs ds->zAt H (x::xs) (d::ds)
end
section
variable {P:Program}{w:World}{H:Hp}{h:Heap}
mutual
theorem zBa.reads (ok:HOk P w H h):∀{x:V}{d:PyData},zBa H x d->∀{u:Value},zBe x u->∃as,Reads h u d as
 | _,_,.non,u,r=>by cases (show u=Value.none from r);exact⟨_,.none⟩
 | _,_,.bl b,u,r=>by cases (show u=Value.bool b from r);exact⟨_,.bool b⟩
 | _,_,.int i,u,r=>by obtain⟨t,rfl⟩:=r;exact⟨_,.int i t⟩
 | _,_,.str x,u,r=>by obtain⟨t,rfl⟩:=r;exact⟨_,.str x t⟩
 | _,_,.tup (a:=a) e s,u,r=>by
  cases (show u=Value.ref a from r)
  obtain⟨_,its,rv,o,ho,hc,n,hd⟩:=ok a _ e
  obtain⟨as,ra⟩:=zAt.reads ok s rv
  exact⟨_,.tuple ho hc hd (by simpa using ra)⟩
 | _,_,.lst (a:=a) e s,u,r=>by
  cases (show u=Value.ref a from r)
  obtain⟨_,its,n,rv,ho⟩:=ok a _ e
  obtain⟨as,ra⟩:=zAt.reads ok s rv
  exact⟨_,.list ho rfl rfl (by simpa using ra)⟩
theorem zAt.reads (ok:HOk P w H h):∀{xs:List V}{ds:List PyData},zAt H xs ds->∀{us:List Value},zBK xs us->∃as,ReadsAll h us ds as
 | _,_,.nil,us,r=>by cases r;exact⟨_,.nil⟩
 | _,_,.cons s t,us,r=>by
  cases r with
  | cons r1 r2=>
   obtain⟨a1,h1⟩:=zBa.reads ok s r1
   obtain⟨a2,h2⟩:=zAt.reads ok t r2
   exact⟨_,.cons h1 h2⟩
end
end
structure Fn (n p:Nat)(d:PyData):Prop where
 wt:d.weight<=n
 dp:d.depth<=p
 cl:d.canLay0=true
 sh:d.intsShort 13=true
 sw:d.showable=true
theorem Fn.mono {n p n' p':Nat}{d:PyData}(h:Fn n p d)(hn:n<=n')(hp:p<=p'):Fn n' p' d:=⟨zAl h.wt hn,zAl h.dp hp,h.cl,h.sh,h.sw⟩
theorem zHp {i:Int}(h:i.natAbs<1000000000):i.natAbs.log2<30:=by
 by_cases h0:i.natAbs=0
 . rw[h0];decide
 . exact (Nat.log2_lt h0).mpr (by omega)
theorem zI9 {i:Int}(h:i.natAbs<1000000000):Fn 30 0 (.int i):=by
 have hl:=zHp h
 refine⟨?_,zG _,rfl,?_,?_⟩
 . simp only[PyData.weight]
   split <;> omega
 . simp only[PyData.intsShort,PyData.shown]
   refine zM ?_
   have e:=int_text_length_le10 (a:=i) (k:=9) (by decide) (by simpa using h)
   have e2:(Str.ofString (toString i)).length=(toString i).length:=by
    rw[Str.ofString_eq_toList]
    show ((toString i).toList.map Char.toNat).toArray.size=_
    rw[zS,zC,String.length_toList]
   show (Str.ofString (toString i)).length<=13
   omega
 . simp only[PyData.showable]
   exact zM (by omega)
theorem zKs {n p:Nat}:∀{ds:List PyData},(∀d∈ds,Fn n p d)->PyData.weightAll ds<=ds.length*(n+1)/\PyData.depthAll ds<=p/\PyData.canLayAll0 ds=true/\PyData.intsShortAll 13 ds=true/\PyData.showableAll ds=true
 | [],_=>⟨by simp[PyData.weightAll],by simp[PyData.depthAll],by simp[PyData.canLayAll0],by simp[PyData.intsShortAll],by simp[PyData.showableAll]⟩
 | d::ds,h=>by
  obtain⟨a,b,c,e,f⟩:=zKs (ds:=ds) fun x hx=>h x (zO _ hx)
  have g:=h d zN
  refine⟨?_,?_,?_,?_,?_⟩
  . simp only[PyData.weightAll,zj]
    have:=g.wt
    rw[Nat.add_mul]
    omega
  . simp only[PyData.depthAll]
    have:=g.dp
    omega
  . simp only[PyData.canLayAll0,g.cl,c,Bool.and_self]
  . simp only[PyData.intsShortAll,g.sh,e,Bool.and_self]
  . simp only[PyData.showableAll,g.sw,f,Bool.and_self]
theorem zHF {n p L:Nat}{ds:List PyData}(h:∀d∈ds,Fn n p d)(hl:ds.length<=L):Fn (L*(n+1)) (p+1) (.tuple ds):=by
 obtain⟨a,b,c,e,f⟩:=zKs h
 refine⟨?_,?_,?_,?_,?_⟩
 . simp only[PyData.weight]
   exact zAl a (Nat.mul_le_mul_right _ hl)
 . simp only[PyData.depth];omega
 . simp only[PyData.canLay0];exact c
 . simp only[PyData.intsShort];exact e
 . simp only[PyData.showable];exact f
theorem Fn.len {n p:Nat}{d:PyData}(h:Fn n p d)(hn:n<=1048576)(hp:p<=60):d.shown.length<=sizeLine/\d.hasDict=false:=by
 have hl:PyData.layable0 d=true:=by
  show (PyData.canLay0 d && decide (PyData.depth d<=64) && decide (PyData.weight d<=2 ^ 20))=true
  rw[h.cl,zM (show PyData.depth d<=64 by have:=h.dp;omega),zM (show PyData.weight d<=2 ^ 20 by have:=h.wt;omega)]
  rfl
 have e:=shown_le13 hl h.sh
 have:sizeLine=16777216:=rfl
 exact⟨by omega,PyData.hasDict_of_layable hl⟩
section
variable {X:Cx}
theorem zCl {k:Nat}(hr:zCm k X.A):zCd X (.builtin "repr") (fun xs H Q=>∃x d,xs=[x]/\zBa H x d/\Fn 1048576 50 d/\Q (.str d.shown) H):=by
 intro pins s σ H xs us Q I r h
 obtain⟨x,d,rfl,sh,f,q⟩:=h
 obtain⟨u,rfl,rx⟩:=zDQ r
 obtain⟨hz,hnd⟩:=f.len (zG _) (by decide)
 have hu:=hr.units
 cases sh with
 | non=>
  cases (show u=Value.none from rx)
  exact PySem.P.repr_of_none ⟨.str _,H,I.tok _,⟨_,rfl⟩,by simpa only [PyData.shown] using q⟩
 | bl b=>
  cases (show u=Value.bool b from rx)
  exact PySem.P.repr_of_bool ⟨.str _,H,I.tok _,⟨_,rfl⟩,by simpa only [PyData.shown] using q⟩
 | int i=>
  obtain⟨t,rfl⟩:=rx
  exact PySem.P.repr_of_int (by have:=f.sw;simpa only [PyData.showable,decide_eq_true_eq] using this) ⟨.str _,H,I.tok _,⟨_,rfl⟩,by simpa only [PyData.shown] using q⟩
 | str z=>
  obtain⟨t,rfl⟩:=rx
  exact PySem.P.repr_of_str ⟨.str _,H,I.tok _,⟨_,rfl⟩,by simpa only [PyData.shown] using q⟩ (by simpa only [PyData.shown] using hz)
 | tup e al=>
  cases (show u=Value.ref _ from rx)
  obtain⟨as,rd⟩:=zBa.reads I.hok (.tup e al) (u:=.ref _) rfl
  exact repr_of_reads' rd f.sw (PyData.noDict_hsm hnd) hr.gd (by have:=f.dp;omega) (fun _ _ e=>e) (fun h' u tk hk=>⟨.str _,H,I.kept hk,⟨u,rfl⟩,q⟩) hz
 | lst e al=>
  cases (show u=Value.ref _ from rx)
  obtain⟨as,rd⟩:=zBa.reads I.hok (.lst e al) (u:=.ref _) rfl
  exact repr_of_reads' rd f.sw (PyData.noDict_hsm hnd) hr.gd (by have:=f.dp;omega) (fun _ _ e=>e) (fun h' u tk hk=>⟨.str _,H,I.kept hk,⟨u,rfl⟩,q⟩) hz
end
end L2
namespace L2
open PySem PySem.Spec PyProof.Rows
section
variable {X:Cx}{es xs:List Expr}{t t1:TA}
theorem zBy {i j pos} (hr:PA X es t):PA X (.Constant (.int i) j pos::es) (zK7 (tC (.int i)) t):=zF zm hr (by rfl)
theorem pa_lst {pos} (h:PA X xs t1)(hr:PA X es t):PA X (.List xs pos::es) (zK7 (tLst t1) t):=zF (zCL h) hr (by rfl)
end
inductive zDc:List Expr->List Int->Prop where
 | nil:zDc [] []
 | cons {i:Int}{j:Nat}{pos:Pos}{es:List Expr}{ns:List Int}:zDc es ns->zDc (.Constant (.int i) j pos::es) (i::ns)
theorem zIh {X:Cx}{es:List Expr}{ns:List Int}(h:zDc es ns):PA X es (fun _ H Q=>Q (ns.map V.int) H):=by
 induction h with
 | nil=>exact zR
 | cons _ ih=>
  intro pos pins s σ H Q I q
  exact (zBy ih) pos pins s σ H Q I q
inductive zDP:List Expr->List (List Int)->Prop where
 | nil:zDP [] []
 | cons {xs:List Expr}{ns:List Int}{pos:Pos}{es:List Expr}{nss:List (List Int)}:zDc xs ns->ns.length<=sizeLine->zDP es nss->zDP (.List xs pos::es) (ns::nss)
noncomputable def zKZ:List (List Int)->TA
 | []=>tNil
 | ns::r=>fun σ H Q=>∀p,H p=none->zKZ r σ (upd H p (.lst (ns.map V.int))) fun xs H2=>Q (.ref p::xs) H2
theorem zJ6 {X:Cx}{es:List Expr}{nss:List (List Int)}(h:zDP es nss):PA X es (zKZ nss):=by
 induction h with
 | nil=>exact zR
 | cons hx hl _ ih=>
  intro pos pins s σ H Q I q
  exact (pa_lst (zIh hx) ih) pos pins s σ H Q I ⟨by rw[zC];exact hl,fun p hp=>q p hp⟩
end L2
namespace WM
theorem zCN {α:Type} [DecidableEq α]:∀{l₁ l₂:List α},l₁.Nodup->(∀x∈l₁,x∈l₂)->l₁.length<=l₂.length
 | [],_,_,_=>zk _
 | x::r,l₂,h,s=>by
  obtain⟨h1,h2⟩:=zAV.mp h
  have hx:x∈l₂:=s x zN
  have ih:=zCN (l₁:=r) (l₂:=l₂.erase x) h2 fun y hy=>by
   have hne:y≠x:=fun e=>h1 (e ▸ hy)
   exact (List.mem_erase_of_ne hne).mpr (s y (zO _ hy))
  rw[List.length_erase_of_mem hx] at ih
  have:0<l₂.length:=List.length_pos_of_mem hx
  rw[zj]
  omega
noncomputable def lowTo (n:Nat):List Int:=(List.range n).map fun (i:Nat)=>(i:Int)
theorem zCO {n:Nat}{x:Int}:x∈lowTo n↔0<=x/\x<n:=by
 unfold lowTo
 rw[zAT]
 constructor
 . rintro ⟨i,hi,rfl⟩
   have:=zBz.mp hi
   omega
 . rintro ⟨h0,h1⟩
   exact⟨x.toNat,zBz.mpr (by omega),by omega⟩
theorem zDF (n:Nat):(lowTo n).Pairwise (· < ·):=by
 unfold lowTo
 rw[List.pairwise_map]
 exact List.pairwise_lt_range.imp fun h=>by omega
noncomputable abbrev T3:=Int×Int×Int
noncomputable def tl (t:T3):List Int:=[t.1,t.2.1,t.2.2]
structure GW (n:Int)(ts:List T3):Prop where
 n1:1<=n
 n24:n<=24
 len:ts.length<64
 rng:∀t∈ts,0<=t.1/\t.1<t.2.1/\t.2.1<n/\1<=t.2.2/\t.2.2<=99
 dis:ts.Pairwise fun s t=>¬ (s.1=t.1/\s.2.1=t.2.1)
noncomputable def Adj (ts:List T3)(x y l:Int):Prop:=(x,y,l)∈ts\/(y,x,l)∈ts
theorem Adj.symm {ts:List T3}{x y l:Int}(h:Adj ts x y l):Adj ts y x l:=h.elim .inr .inl
theorem GW.adj {n:Int}{ts:List T3}(g:GW n ts){x y l:Int}(h:Adj ts x y l):0<=x/\x<n/\0<=y/\y<n/\x≠y/\1<=l/\l<=99:=by
 rcases h with h | h <;> (have:=g.rng _ h;simp only at *;omega)
noncomputable def fd (p:Int):List T3->List (List Int)
 | []=>[]
 | t::r=>(if t.1=p then [[t.2.1,t.2.2]] else [])++(if t.2.1=p then [[t.1,t.2.2]] else [])++fd p r
theorem zEH (p:Int):∀a b:List T3,fd p (a++b)=fd p a++fd p b
 | [],b=>rfl
 | t::r,b=>by show _++_++fd p (r++b)=_;rw[zEH p r b];simp[fd,zBC]
theorem zDe {p:Int}{k:List Int}:∀{ts:List T3},k∈fd p ts↔∃y l,k=[y,l]/\Adj ts p y l
 | []=>by simp[fd,Adj]
 | (a,b,c)::r=>by
  have ih:=zDe (p:=p) (k:=k) (ts:=r)
  show k∈_++_++fd p r↔_
  rw[zQ,zQ,ih]
  simp only
  constructor
  . rintro ((h | h) | ⟨y,l,e,h⟩)
    . split at h
      . rename_i e;simp at h;subst e;exact⟨b,c,h,.inl zN⟩
      . simp at h
    . split at h
      . rename_i e;simp at h;subst e;exact⟨a,c,h,.inr zN⟩
      . simp at h
    . exact⟨y,l,e,h.elim (fun z=>.inl (zO _ z)) fun z=>.inr (zO _ z)⟩
  . rintro ⟨y,l,e,h⟩
    rcases h with h | h
    . rcases zW.mp h with q | q
      . injection q with q1 q2;injection q2 with q2 q3;subst q1 q2 q3
        exact .inl (.inl (by simp[e]))
      . exact .inr ⟨y,l,e,.inl q⟩
    . rcases zW.mp h with q | q
      . injection q with q1 q2;injection q2 with q2 q3;subst q1 q2 q3
        exact .inl (.inr (by simp[e]))
      . exact .inr ⟨y,l,e,.inr q⟩
theorem zF1 {n:Int}(p:Int):∀{ts:List T3},(∀t∈ts,t.1<t.2.1)->(fd p ts).length<=ts.length
 | [],_=>zG _
 | t::r,h=>by
  have ih:=zF1 (n:=n) p (ts:=r) fun t ht=>h t (zO _ ht)
  have h0:=h t zN
  show (_++_++fd p r).length<=_
  rw[zH,zH,zj]
  have:(if t.1=p then [[t.2.1,t.2.2]] else ([]:List (List Int))).length+(if t.2.1=p then [[t.1,t.2.2]] else ([]:List (List Int))).length<=1:=by
   split <;> split <;> simp <;> omega
  omega
noncomputable def hd (k:List Int):Int:=k.getD 0 0
theorem zHH {n:Int}{ts:List T3}(g:GW n ts)(p:Int):((fd p ts).map hd).Nodup:=by
 have key:∀(ts:List T3),(∀t∈ts,t.1<t.2.1)->ts.Pairwise (fun s t=>¬ (s.1=t.1/\s.2.1=t.2.1))->((fd p ts).map hd).Nodup:=by
  intro ts
  induction ts with
  | nil=>intro _ _;exact List.nodup_nil
  | cons t r ih=>
   intro hlt hp
   obtain⟨q,hr⟩:=List.pairwise_cons.mp hp
   have h0:=hlt t zN
   have hr':∀t∈r,t.1<t.2.1:=fun t ht=>hlt t (zO _ ht)
   have ih':=ih hr' hr
   have no:∀y c,(∀l,Adj r p y l->False)->([y,c]:List Int)=[y,c]->¬ y∈(fd p r).map hd:=by
    intro y c hn _ hm
    obtain⟨k,hk,e⟩:=zAT.mp hm
    obtain⟨y',l,ek,ha⟩:=zDe.mp hk
    subst ek
    have:y'=y:=e
    subst this
    exact hn l ha
   show ((_++_++fd p r).map hd).Nodup
   by_cases h1:t.1=p
   . have h2:¬ t.2.1=p:=by omega
     rw[if_pos h1,if_neg h2]
     show (t.2.1::(fd p r).map hd).Nodup
     refine zAV.mpr ⟨no _ t.2.2 (fun l ha=>?_) rfl,ih'⟩
     rcases ha with ha | ha
     . exact q _ ha ⟨h1,rfl⟩
     . have:=hr' _ ha;simp only at this;omega
   . by_cases h2:t.2.1=p
     . rw[if_neg h1,if_pos h2]
       show (t.1::(fd p r).map hd).Nodup
       refine zAV.mpr ⟨no _ t.2.2 (fun l ha=>?_) rfl,ih'⟩
       rcases ha with ha | ha
       . have:=hr' _ ha;simp only at this;omega
       . exact q _ ha ⟨rfl,h2⟩
     . rw[if_neg h1,if_neg h2]
       exact ih'
 exact key ts (fun t ht=>(g.rng t ht).2.1) g.dis
end WM
namespace WM
end WM
namespace WM
end WM
namespace WM
end WM
namespace WM
end WM
namespace WM
end WM
namespace L2
open PySem PySem.Spec PyProof.Rows
noncomputable def intO:KeyOrd:=⟨Int,fun a b=>decide (a<b),fun a=>zV (by omega),fun a b c h1 h2=>zM (by have:=of_decide_eq_true h1;have:=of_decide_eq_true h2;omega),
 fun a b c h=>by
  have h':a<c:=of_decide_eq_true h
  by_cases hab:a<b
  . exact .inl (zM hab)
  . exact .inr (zM (by omega)),
 fun a b h1 h2=>by have:=of_decide_eq_false h1;have:=of_decide_eq_false h2;omega⟩
theorem zGG {prog:Program}{w:World}{A:Around}{s:Shared}{a:Addr}{vs:List Value}{ns:List Int}(hI:IntsAre vs ns)(h2:2<=vs.length) :
 SortT.Asks prog w A s a vs (O:=intO) (fun i=>ns.getD i 0) oneType':=by
 have hl:=hI.length
 have at_:∀i,i<vs.length->∃t,vs.getD i Value.none = .int (ns.getD i 0) t:=fun i hi=>by
  obtain⟨n,hn⟩:∃n,ns[i]? = some n:=⟨_,zD (by omega)⟩
  obtain⟨t,ht⟩:=hI.get i n hn
  exact⟨t,by rw[zP,zP,ht,hn];rfl⟩
 refine⟨fun h' Q E kh q=>?_,fun h' i j Q E kh hi hj q=>?_⟩
 . rw[ksk_kind (keys:=vs.toArray) (kz:=ns) (by simpa using hI) (by simpa using h2)]
   exact zB q
 . obtain⟨t,e1⟩:=at_ i hi
   obtain⟨u,e2⟩:=at_ j hj
   rw[e1,e2]
   exact PySem.W.kat_lt_int q
theorem zG5 {vs:List Value}{ns:List Int}{out:List Nat}(hI:IntsAre vs ns)(p:SortT.Put (O:=intO) (fun i=>ns.getD i 0) vs.length out) :
 ∃ms:List Int,ms.Perm ns/\ms.Pairwise (· <= ·)/\zBK (ms.map V.int) (out.map fun i=>vs.getD i Value.none)/\ms.length=ns.length:=by
 have hl:=hI.length
 have hb:∀i∈out,i<vs.length:=fun i hi=>zBz.mp (p.perm.mem_iff.mp hi)
 refine⟨out.map fun i=>ns.getD i 0,?_,?_,?_,?_⟩
 . have h1:=p.perm.map fun i=>ns.getD i 0
   have h2:(List.range vs.length).map (fun i=>ns.getD i 0)=ns:=by
    rw[show vs.length=ns.length by omega]
    apply List.ext_getElem?
    intro j
    rw[zT]
    by_cases hj:j<ns.length
    . rw[List.getElem?_range hj,zD hj];simp[hj]
    . rw[zAB (by rw[zAW];omega),zAB (by omega)];rfl
   rw[h2] at h1
   exact h1
 . refine zr.mpr fun i j hi hj hij=>?_
   rw[zC] at hi hj
   have:=p.rise i j out[i] out[j] (zBQ hij) (by simp) (by simp)
   have h3:decide (ns.getD out[j] 0<ns.getD out[i] 0)=false:=this
   have h4:=of_decide_eq_false h3
   rw[List.getElem_map,List.getElem_map]
   omega
 . have:∀l:List Nat,(∀i∈l,i<vs.length)->zBK ((l.map fun i=>ns.getD i 0).map V.int) (l.map fun i=>vs.getD i Value.none):=by
    intro l
    induction l with
    | nil=>intro _;exact .nil
    | cons i l ih=>
     intro h
     have hi:=h i zN
     obtain⟨n,hn⟩:∃n,ns[i]? = some n:=⟨_,zD (by omega)⟩
     obtain⟨t,ht⟩:=hI.get i n hn
     refine .cons ?_ (ih fun j hj=>h j (zO _ hj))
     show zBe (V.int (ns.getD i 0)) (vs.getD i Value.none)
     rw[zP,zP,ht,hn]
     exact⟨t,rfl⟩
   exact this out hb
 . rw[zC,p.perm.length_eq,zAW];omega
section
variable {X:Cx}
end
noncomputable def zGq (c:Addr)(q:Str):Heap->Prop:=fun h=>∃o vs t,h.get? c=some o/\o.data = .fields vs/\vs[1]? = some (.str q t)
noncomputable def TabAt (H:Hp)(P:Addr)(pos:Pos)(q:Str):Prop:=∃ps,H P=some (.tbl ps)/\TriplesOk ps.toList/\(codeAmong pos ps.toList=none\/∃c,codeAmong pos ps.toList=some (.ref c)/\H c=some (.ext (zGq c q)))
noncomputable def SmT (H H':Hp):Prop:=∀b o,H b=some o->(∃ps,o = .tbl ps)\/H' b=some o
theorem SmT.of {H H':Hp}(h:zA3 H H'):SmT H H':=fun b o e=>.inr (h b o e)
theorem SmT.trans {H H1 H2:Hp}(a:SmT H H1)(b:SmT H1 H2):SmT H H2:=fun c o e=>by
 rcases a c o e with z | z
 . exact .inl z
 . exact b c o z
theorem TabAt.keep {H H':Hp}{P:Addr}{pos:Pos}{q:Str}(h:TabAt H P pos q)(k:∀o,H P=some o->H' P=some o)(k2:∀c φ,H c=some (.ext φ)->H' c=some (.ext φ)):TabAt H' P pos q:=by
 obtain⟨ps,a,b,c⟩:=h
 exact⟨ps,k _ a,b,c.imp id fun ⟨c,e,f⟩=>⟨c,e,k2 _ _ f⟩⟩
theorem TabAt.same {H H':Hp}{P:Addr}{pos:Pos}{q:Str}(h:TabAt H P pos q)(k:zA3 H H'):TabAt H' P pos q:=h.keep (fun _=>k _ _) fun _ _=>k _ _
noncomputable def zJh (mg:Str->Option Value)(h:Heap):Prop:=∃bm ob,mg "__builtins__" = some (.ref bm)/\bm≠builtinsNs/\h.get? bm=some ob/\ob.cls = .type "module" /\ ob.dict=some builtinsNs/\ob.data = .plain
section
variable {X:Cx}{pins:List (Addr×Obj)}{σ:St}{H:Hp}{s:Shared}
theorem Inv.growL {Pt c':Addr}{ps more:Array Value}{o:HO}{t':Nat}{h':Heap}(I:Inv X pins σ H s)(hP:H Pt=some (.tbl ps))(hp:s.heap.objs.size<=c')(k:∀b u,b≠Pt->s.heap.get? b=some u->h'.get? b=some u)
 (newP:h'.get? Pt=some (PySem.W.tabObj (ps++more)))(new:zBc X.prog X.w (upd (upd H Pt (.tbl (ps++more))) c' o) h' c' o) :
 Inv X pins σ (upd (upd H Pt (.tbl (ps++more))) c' o) { s with heap:=h',toks:=t' }:=by
 have hc:H c'=none:=I.hok.fresh hp
 have nP:∀b,H b=none->b≠Pt:=fun b n z=>by rw[z,hP] at n;cases n
 have nc:∀b u,s.heap.get? b=some u->b≠c':=fun b u e=>zf (zo (zU e) hp)
 have up:∀b u,H b=some u->b≠Pt->(upd (upd H Pt (.tbl (ps++more))) c' o) b=some u:=fun b u e hb=>by rw[zY (zg e hc),zY hb];exact e
 refine I.un ⟨fun b u e n _ _=>k b u (nP b n) e,fun b u e n _ _=>⟨u.slots,k b u (nP b n) e⟩,fun b u e n _=>by rw[zY (nc b u e),zY (nP b n)];exact n,fun b u e _=>?_,fun b xs e=>up b _ e (zB5 e hP (by intro z;cases z)),fun b ob u e=>up b _ e (zB5 e hP (by intro z;cases z)),fun b qs e=>?_⟩ ?_
 . by_cases hb:b=Pt
   . rw[hb];exact⟨_,newP⟩
   . exact⟨u,k b u hb e⟩
 . by_cases hb:b=Pt
   . subst hb
     rw[hP] at e;cases e
     exact⟨more,by rw[zY (zg hP hc),zI]⟩
   . exact⟨#[],by rw[up b _ e hb];simp⟩
 . intro b u e
   by_cases hbc:b=c'
   . subst hbc;rw[zI] at e;cases e;exact new
   . rw[zY hbc] at e
     by_cases hb:b=Pt
     . subst hb;rw[zI] at e;cases e;exact newP
     . rw[zY hb] at e
       refine (I.hok b u e).stay (fun d v hd q=>k d v ?_ q) (fun d q=>up d _ q (zB5 q hP (by intro z;cases z))) fun d xs q=>up d _ q (zB5 q hP (by intro z;cases z))
       rcases hd with z | z
       . rw[z];exact hb
       . exact zB5 z hP (by intro z';cases z')
end
section
variable {X:Cx}
end
theorem zIw {P:Program}{w:World}{K:PySem.W.Frag}{mg mb:Str->Option Value}{CX:CXT}{k:Nat}{fa a PT:Addr}{fd:FuncData}{x:Str}{sp:Sp}{s₁:Shared}{vs:List Value}{ns:List Int}
 (KX:K.In s₁.heap)(hns:s₁.heap.Ns mainGlobals mg)(hb:s₁.heap.Ns builtinsNs mb)(hbb:∀x:Str,x ≠ "__name__" -> mb x=bootBuiltins x) (hlim:s₁.heap.NoLimit)(hg:s₁.gens = #[])
 (ha:s₁.heap.get? a=some { cls:=.type "list",data:=.seq vs.toArray }) (hi:IntsAre vs ns)(hl:ns.length<=sizeLine)(hr:zCm k callerA)
 (hT:s₁.heap.get? PT=some (PySem.W.tabObj #[]))(hC:isCodeTable s₁.heap PT)(hK:PySem.W.noTabs K=true)(hbm:zJh mg s₁.heap)
 (F:∀base:Heap,K.In base->base.Ns mainGlobals mg->zJh mg base->zAa P w K mg base CX k fa fd [x] sp)(hbind:∀(s:Shared)(u:Value),BindsTo s fd ⟨[u],[]⟩ [(x,u)])
 (hsp:∀H:Hp,H PT=some (.tbl #[])->SqL K H a (ns.map V.int)->sp [.ref a] H (fun v _=>v = .bl true) fun _ _ _=>False)
 (hCX:∀H e s',CX [] H s₁ (fun _ _ _=>False) e s'->False) :
 codeAny (model P w) callerA (.call (.ref fa) ⟨[.ref a],[]⟩) (fun r s'=>r = .ok (.ret (.bool true))/\OldK s₁.heap s'.heap/\s'.os=s₁.os/\AllBare s'.gens) s₁:=by
 have rv:=zFP hi
 have lenV:=hi.length
 have npa:PT≠a:=fun e=>by rw[e,ha] at hT;cases hT
 have kPT:K.lookup PT=none:=by
  cases q:K.lookup PT with
  | none=>rfl
  | some o=>
   have e:=KX PT o q
   rw[hT] at e
   cases e
   have h2:=List.all_eq_true.mp hK (PT,_) (PySem.W.mem_of_lookupK q)
   exact absurd (show false=true from h2) zh
 have core:∀H:Hp,(∀b u,H b=some u->(b=PT/\u = .tbl #[])\/(b=a/\K.lookup a=none/\∃o xs,u = .frz o (.lst xs)))->H PT=some (.tbl #[])->SqL K H a (ns.map V.int)->HOk P w H s₁.heap ->
  codeAny (model P w) callerA (.call (.ref fa) ⟨[.ref a],[]⟩) (fun r s'=>r = .ok (.ret (.bool true))/\OldK s₁.heap s'.heap/\s'.os=s₁.os/\AllBare s'.gens) s₁:=by
  intro H hA hP hS hok
  have base_of:∀{b:Addr}{o:Obj},s₁.heap.get? b=some o->H b=none->(zJf s₁.heap H).get? b=some o:=fun e n=>zKH e n
  have noA:∀{b:Addr}{o:Obj},s₁.heap.get? b=some o->(∀ps,o.data ≠ .fields ps)->(∀ps n,o.data ≠ .seq ps n)->H b=none:=fun {b o} e d1 d2=>by
   cases q:H b with
   | none=>rfl
   | some u=>
    rcases hA b u q with ⟨rfl,_⟩ | ⟨rfl,_⟩
    . rw[hT] at e;cases e;exact absurd rfl (d1 #[])
    . rw[ha] at e;cases e;exact absurd rfl (d2 _ _)
  have nsK:∀{b:Addr}{m:Str->Option Value},s₁.heap.Ns b m->(zJf s₁.heap H).Ns b m:=fun {b m} ⟨o,es,ep,e,d,r⟩=>⟨o,es,ep,base_of e (noA e (fun ps z=>by rw[d] at z;cases z) (fun ps n z=>by rw[d] at z;cases z)),d,r⟩
  have hKb:K.In (zJf s₁.heap H):=fun b o e=>base_of (KX b o e) (by
   cases q:H b with
   | none=>rfl
   | some u=>
    rcases hA b u q with ⟨rfl,_⟩ | ⟨rfl,z,_⟩
    . rw[kPT] at e;cases e
    . rw[z] at e;cases e)
  have hBm:zJh mg (zJf s₁.heap H):=by
   obtain⟨bm,ob,b1,b2,b3,b4,b5,b6⟩:=hbm
   exact⟨bm,ob,b1,b2,base_of b3 (noA b3 (fun ps z=>by rw[b6] at z;cases z) (fun ps n z=>by rw[b6] at z;cases z)),b4,b5,b6⟩
  have hM:Mod K mg (zJf s₁.heap H):=⟨hKb,nsK hns,⟨mb,nsK hb,hbb⟩,let ⟨mc,h1,h2⟩:=hlim;⟨mc,nsK h1,h2⟩⟩
  have e0:zL2 P w K mg (zJf s₁.heap H) callerA [] s₁ H:=⟨rfl,hM,fun b o e=>zLc e,Nat.le_of_eq (zI6 _ _),trivial,fun b hb=>absurd (show b∈([]:List Addr) from hb) (by simp),hok,.of_eq hg⟩
  refine codeAny_mono ((F _ hKb (nsK hns) hBm).run callerA [] s₁ H ⟨[.ref a],[]⟩ [.ref a] [.ref a] _ _ hr e0 (hbind s₁ (.ref a)) (.cons rfl .nil) (hsp H hP hS)) fun r s' h=>?_
  cases r with
  | error e=>exact (hCX H e s' h).elim
  | ok fl=>
   cases fl with
   | next=>exact False.elim h
   | brk=>exact False.elim h
   | cont=>exact False.elim h
   | ret u=>
    obtain⟨v,H',os,bare,un,hok',r',q⟩:=h
    have q':v = .bl true:=q
    subst q'
    obtain rfl:u=Value.bool true:=r'
    obtain⟨more,hPn⟩:=un.tbls PT _ hP
    have objP:s'.heap.get? PT=some { cls:=.none,data:=.fields (#[]++more) }:=hok' PT _ hPn
    have keep:∀b o,b≠PT->s₁.heap.get? b=some o->s'.heap.get? b=some o:=fun b o hb e=>by
     cases q:H b with
     | none=>exact un.keep b o e q (by intro z;exact absurd (show b∈([]:List Addr) from z) (by simp)) (by simp)
     | some u=>
      rcases hA b u q with ⟨z,_⟩ | ⟨_,_,ob,xs,z⟩
      . exact absurd z hb
      . subst z
        have z2:=un.frzs b ob _ q
        obtain⟨e1,_⟩:=hok b _ q
        obtain⟨e2,_⟩:=hok' b _ z2
        rw[e] at e1;cases e1
        exact e2
    refine⟨rfl,⟨fun b o e=>?_,fun b o e=>?_⟩,os,bare⟩
    . by_cases hb:b=PT
      . subst hb
        rw[hT] at e;cases e
        exact .inr (.inl ⟨hC,rfl,#[],more,rfl,objP⟩)
      . exact .inl (keep b o hb e)
    . by_cases hb:b=PT
      . rw[hb];exact⟨_,objP⟩
      . exact⟨o,keep b o hb e⟩
 have okP:∀H:Hp,zBc P w H s₁.heap PT (.tbl #[]):=fun H=>hT
 cases hk:K.lookup a with
 | some o=>
  have e:=KX a o hk
  rw[ha] at e
  cases e
  refine core (fun b=>if b=PT then some (.tbl #[]) else none) (fun b u z=>?_) (if_pos rfl) (.inr ⟨_,vs.toArray,_,hk,rfl,rfl,rfl,by rw[zS,lenV];exact hl,by simpa using rv⟩) (fun b u z=>?_)
  all_goals
   have z':(if b=PT then some (HO.tbl #[]) else none)=some u:=z
   by_cases hb:b=PT
   . rw[if_pos hb] at z';cases z'
     first
      | exact .inl ⟨hb,rfl⟩
      | (subst hb;exact okP _)
   . rw[if_neg hb] at z';cases z'
 | none=>
  refine core (fun b=>if b=PT then some (.tbl #[]) else if b=a then some (.frz { cls:=.type "list",data:=.seq vs.toArray } (.lst (ns.map V.int))) else none) (fun b u z=>?_) (if_pos rfl)
   (.inl (.inr ⟨{ cls:=.type "list",data:=.seq vs.toArray },by show (if a=PT then _ else if a=a then _ else _)=_;rw[if_neg npa.symm,if_pos rfl]⟩)) (fun b u z=>?_)
  all_goals
   have z':(if b=PT then some (HO.tbl #[]) else if b=a then some (.frz { cls:=.type "list",data:=.seq vs.toArray } (.lst (ns.map V.int))) else none)=some u:=z
   by_cases hb:b=PT
   . rw[if_pos hb] at z';cases z'
     first
      | exact .inl ⟨hb,rfl⟩
      | (subst hb;exact okP _)
   . rw[if_neg hb] at z'
     by_cases hba:b=a
     . rw[if_pos hba] at z';cases z'
       first
        | exact .inr ⟨hba,hk,_,_,rfl⟩
        | (subst hba;exact⟨ha,by rw[zC];exact hl,vs,_,rv,ha⟩)
     . rw[if_neg hba] at z';cases z'
theorem walk_T {l:PySem.W.OpenLaw}{n k:Nat}{q:Program}{loose:List Str}{XP:(Str->Option Value)->Heap->Prop}{YP:World->Heap->Prop}{d:DefRec}{K:Params->PySem.W.Frag}{CX:CXT}{sp:PySem.W.Frag->Addr->Sp}{x tn:Str}
 (hn:l.most=some n)(hn2:n<=sizeLine)(hdf:d.params.defaults=[])(hr:zCm k callerA)(hrec:∃dn,(recsOf q).find? (fun e=>e.name==tn)=some dn)
 (hY:∀(w:World)(h:Heap),YP w h->(K w.params).In h)
 (F:∀(w:World)(mg:Str->Option Value)(fa:Addr)(h:Heap),(K w.params).In h->h.Ns mainGlobals mg->mg d.name=some (.ref fa) ->
  ∃(fd:FuncData)(c PT:Addr),PySem.W.tabIn (K w.params) tn=some (c,PT)/\PySem.W.noTabs (K w.params)=true/\(∀(s:Shared)(u:Value),BindsTo s fd ⟨[u],[]⟩ [(x,u)]) /\
   ∀base:Heap,(K w.params).In base->base.Ns mainGlobals mg->zJh mg base->zAa l.prog w (K w.params) mg base CX k fa fd [x] (sp (K w.params) PT))
 (hsp:∀(K:PySem.W.Frag)(PT:Addr)(H:Hp)(a:Addr)(ns:List Int),ns.length<=n->H PT=some (.tbl #[])->SqL K H a (ns.map V.int)->sp K PT [.ref a] H (fun v _=>v = .bl true) fun _ _ _=>False)
 (hCX:∀(H:Hp)(s:Shared)(e:Value)(s':Shared),CX [] H s (fun _ _ _=>False) e s'->False) :
 PySem.W.WalkO q loose XP YP l.row.toRowW d [] (fun f vs=>PySem.call f vs):=by
 refine Att.attach_call hn hdf fun w s₀ s₁ mg mb fa o pm cd doc a vs ns G Y ho hd hcd hmg hobj hints hlen hg=>?_
 have KX:=hY w _ Y
 obtain⟨fd,c,PT,htab,hnt,hb,hF⟩:=F w mg fa _ KX G.T.g hmg
 obtain⟨dn,hdn⟩:=hrec
 obtain⟨C,hPT⟩:=PySem.W.tab_of G.T KX hdn htab
 exact zIw KX G.T.g G.T.b G.T.builtins G.T.nolimit hg hobj hints (zAl hlen hn2) hr hPT (C.tab hPT).isCodeTable hnt G.T.bmain hF hb (fun H hP hS=>hsp _ PT H a ns hlen hP hS) fun H e s'=>hCX H s₁ e s'
end L2
namespace L2
open PySem PySem.Spec PyProof.Rows
structure zKy (K:PySem.W.Frag)(x qual:Str)(st:Stmt)(f:Addr)(fd:FuncData)(c:Addr):Prop where
 ex:∃(oc:Value)(od:Option Addr)(kV doc pm:Value)(an:Option Addr)(ct:Value)(osl:Array (Option Value)),
  fd=PySem.W.fnOf x qual (defArgs st) (defBody st) (defScope st) .none kV doc pm an (.ref c) ct/\K.lookup f=some ⟨oc,od,.func fd,osl⟩/\PySem.W.codeIn K (.ref c) qual=true
 kp:PySem.W.keepIn K (.ref f)=true
theorem zKy.fn {K:PySem.W.Frag}{x qual:Str}{st:Stmt}{f c:Addr}{fd:FuncData}(F:zKy K x qual st f fd c):Fun K x qual st f fd:=by
 obtain⟨oc,od,kV,doc,pm,an,ct,osl,h⟩:=F.ex
 exact⟨⟨oc,od,kV,doc,pm,an,.ref c,ct,osl,h⟩,F.kp⟩
theorem zKy.ok {P:Program}{w:World}{K:PySem.W.Frag}{mg:Str->Option Value}{base:Heap}{x qual:Str}{st:Stmt}{f c:Addr}{fd:FuncData}{N ps:List Str}{k:Nat}{sp:Sp}(F:zKy K x qual st f fd c)(S:zAI N ps (defScope st))(len:∀vs H Q E,sp vs H Q E->vs.length=ps.length)
 (hbody:∀(A:Around)(outer:List Env)(s:Shared)(H:Hp)(vs:List V)(Q:VK)(E:XK),zCm k (A.deeper (envOfC qual (defScope st) s.heap.objs.size f (.ref c)))->sp vs H Q E ->
  ∃t,PSs (zF3 CX0 P w K mg base N qual (defScope st) f (.ref c) A outer s H E).nox (defBody st) t/\t { nx:=fun _ H'=>Q .non H',rt:=Q } (start N vs) H):zAa P w K mg base CX0 (k+1) f fd ps sp:=by
 obtain⟨oc,od,kV,doc,pm,an,ct,osl,rfl,lk,hcd⟩:=F.ex
 refine zKL lk hcd S len fun A outer s H vs Q E hr hsp=>?_
 obtain⟨t,h,q⟩:=hbody A outer s H vs Q E hr hsp
 exact⟨t,h.nox,q⟩
theorem zLr {K:PySem.W.Frag}{x qual:Str}{st:Stmt}{f c:Addr}{oc:Value}{od an:Option Addr}{osl:Array (Option Value)}{kV doc pm ct:Value}(l:K.lookup f=some ⟨oc,od,.func (PySem.W.fnOf x qual (defArgs st) (defBody st) (defScope st) .none kV doc pm an (.ref c) ct),osl⟩)
 (hc:PySem.W.codeIn K (.ref c) qual=true)(k:PySem.W.keepIn K (.ref f)=true):zKy K x qual st f (PySem.W.fnOf x qual (defArgs st) (defBody st) (defScope st) .none kV doc pm an (.ref c) ct) c:=⟨⟨oc,od,kV,doc,pm,an,ct,osl,rfl,l,hc⟩,k⟩
section
variable {κ:Type} [DecidableEq κ]
end
theorem zKx {α:Type}{xs:List α}{i:Int}{v:α}(h0:0<=i)(h:xs[i.toNat]? = some v):atI xs i=some v:=by
 have:=zB8 h
 rwa [Int.toNat_of_nonneg h0] at this
theorem SmT.get {H H':Hp}(k:SmT H H'){b:Addr}{o:HO}(e:H b=some o)(h:∀ps,o ≠ .tbl ps):H' b=some o:=by
 rcases k b o e with ⟨ps,z⟩ | z
 . exact absurd z (h ps)
 . exact z
theorem SmT.chg {H H':Hp}{l:Addr}{o:HO}(k:SmT H H')(h:H l=none):SmT H (upd H' l o):=fun b u e=>by
 rcases k b u e with z | z
 . exact .inl z
 . right
   rw[zY (zg e h)];exact z
end L2
namespace L2
open PySem PySem.Spec PyProof.Rows
theorem zKG {xs ys:List Int}:((List.range (min xs.length ys.length)).all (fun j=>xs.getD j 0==ys.getD j 0) && xs.length==ys.length)=decide (xs=ys):=by
 by_cases h:xs=ys
 . subst h;simp
 . rw[zV h]
   by_cases hl:xs.length=ys.length
   . have:∃j,j<xs.length/\xs.getD j 0≠ys.getD j 0:=by
      apply zt
      intro hn
      refine h (List.ext_getElem hl fun j h1 h2=>?_)
      apply zt
      intro hne
      exact hn ⟨j,h1,by simpa [zP,h1,h2] using hne⟩
     obtain⟨j,hj,hne⟩:=this
     rw[Bool.and_eq_false_iff]
     left
     rw[List.all_eq_false]
     exact⟨j,by rw[zBz];omega,by simpa using hne⟩
   . simp[hl]
section
variable {X:Cx}
theorem eqAts {A:Around}{s:Shared}{us ws:List Value}{xs ys:List Int}(h1:IntsAre us xs)(h2:IntsAre ws ys)(j:Nat)(a:j<us.toArray.size)(b:j<ws.toArray.size):SeqAt.EqAt A s us.toArray[j] ws.toArray[j] (xs.getD j 0==ys.getD j 0):=by
 have l1:=h1.length
 have l2:=h2.length
 rw[zS] at a b
 obtain⟨n,hn⟩:∃n,xs[j]? = some n:=⟨_,zD (by omega)⟩
 obtain⟨m,hm⟩:∃m,ys[j]? = some m:=⟨_,zD (by omega)⟩
 obtain⟨t,ht⟩:=h1.get j n hn
 obtain⟨u,hu⟩:=h2.get j m hm
 have e1:us.toArray[j] = .int n t:=by
  rw[zD a] at ht
  simpa using za ht
 have e2:ws.toArray[j] = .int m u:=by
  rw[zD b] at hu
  simpa using za hu
 rw[e1,e2,zP,zP,hn,hm]
 exact SeqAt.EqAt.int_int n t m u
end
end L2
namespace L2
open PySem PySem.Spec PyProof.Rows
section
variable {X:Cx}
end
end L2
namespace L2
open PySem PySem.Spec PyProof.Rows
section
variable {X:Cx}{pins:List (Addr×Obj)}{σ:St}{H3:Hp}{s3:Shared}{scope:Scope}{fp:List Addr}{N' own cn:List Str}{ci:List Nat}{cv:List V}{yc:Str}
end
end L2
namespace L2
open PySem PySem.Spec PyProof.Rows
noncomputable def zK6 (ta:TA):TE:=fun σ H Q=>ta σ H fun vs H1=>∃j:Int,vs=[.int j]/\0<=j/\j<=1000/\∀l,H1 l=none->Q (.ref l) (upd H1 l (.lst ((WM.lowTo j.toNat).map V.int)))
theorem zJi:∀(vs:List Value)(n:Nat),vs.length=n->(∀(j:Nat)(v:Value),vs[j]? = some v->∃t,v = .int (0+(j:Int)*1) t)->zBK ((WM.lowTo n).map V.int) vs:=by
 have key:∀(vs:List Value)(a:Nat),(∀(j:Nat)(v:Value),vs[j]? = some v->∃t,v = .int ((a+j:Nat):Int) t)->zBK ((List.range' a vs.length).map fun (i:Nat)=>V.int (i:Int)) vs:=by
  intro vs
  induction vs with
  | nil=>intro _ _;exact .nil
  | cons v r ih=>
   intro a h
   obtain⟨t,ht⟩:=h 0 v rfl
   rw[zj,List.range'_succ,zAU]
   refine .cons ⟨t,by rw[ht];rfl⟩ (ih (a+1) fun j u hj=>?_)
   obtain⟨t',ht'⟩:=h (j+1) u hj
   exact⟨t',by rw[ht'];congr 1;omega⟩
 intro vs n e h
 subst e
 have:=key vs 0 fun j v hj=>by
  obtain⟨t,ht⟩:=h j v hj
  exact⟨t,by rw[ht];congr 1;omega⟩
 unfold WM.lowTo
 rw[List.map_map,List.range_eq_range']
 exact this
section
variable {X:Cx}
theorem zCg {a:Expr}{ta:TA}{p1 p2 pos1 pos2:Pos}(hc:X.calm=true)(hgL:Gl X "list") (hmL:X.mg "list" = none) (hgR:Gl X "range") (hmR:X.mg "range" = none) (ha:PA X [a] ta)(hs:starEach [a] X.env=[(false,eval a X.env)]:=by rfl)
 (he:starEach [.Call (.Name "range" p2) [a] [] pos2] X.env=[(false,eval (.Call (.Name "range" p2) [a] [] pos2) X.env)]:=by rfl):PE X (.Call (.Name "list" p1) [.Call (.Name "range" p2) [a] [] pos2] [] pos1) (zK6 ta):=by
 intro pins s σ H Q I h
 refine zAu (zCc I hgL hmL (by decide +kernel:bootBuiltins "list" = some (.type "list")) ?_ (by decide) (by decide))
 refine PyProof.Rows.callWith_type1 ?_ he rfl
 rw[he]
 refine Calls.spliced_cons ?_
 refine Call_ (zCc I hgR hmR boot_range (PyProof.Rows.callWith_type1 (thn (ha pos2 pins s σ H _ I h) fun us s1 ⟨vs,H1,I1,r1,q1⟩=>?_) hs rfl))
 obtain⟨j,e,h0,h1,q⟩:=q1
 subst e
 cases r1 with
 | cons r rr=>
  cases rr
  obtain⟨t,rfl⟩:=r
  refine call_range_1 ?_
  refine Calls.spliced_nil ?_
  have hz:Builtin.Range.rangeSize 0 j 1=(j.toNat:Int):=by rw[rangeSize_one];split <;> omega
  refine call_list_range (I.ok.hd hc) (IsRange.new ..) (small_one (by omega) (by omega) (by omega) (by omega)) hz (by omega) fun h' tk acc c' kp hD hI=>?_
  have kp1:∀b o,s1.heap.get? b=some o->h'.get? b=some o:=fun b o e=>kp b o (zE _ e)
  have rv:zBK ((WM.lowTo j.toNat).map V.int) acc.toList:=zJi acc.toList _ (by rw[Array.length_toList];exact hI.1) fun i v hi=>hI.2 i v (by rw[<-hi,Array.getElem?_toList])
  have hsz:s1.heap.objs.size<=(s1.heap.push { cls:=.type "range",data:=.fields #[.int 0 s1.toks,.int j t,.int 1 (s1.toks+1)] }).objs.size:=by rw[zAg];exact zBA _
  refine⟨.ref _,_,I1.laid (t':=tk) kp1 hsz (show zBc X.prog X.w _ h' _ (.lst ((WM.lowTo j.toNat).map V.int)) from ⟨?_,acc.toList,c',rv,by rw[Array.toArray_toList];exact hD⟩),rfl,q _ (I1.hok.fresh hsz)⟩
  rw[zC,WM.lowTo,zC,zAW]
  have:sizeLine=16777216:=rfl
  omega
theorem zCP:zCd X (.builtin "sorted") (fun xs H Q=>∃(p:Addr)(ns:List Int),xs=[.ref p]/\SqL X.K H p (ns.map V.int)/\ns.length<64 /\
 ∀(l:Addr)(ms:List Int),H l=none->ms.Perm ns->ms.Pairwise (· <= ·)->Q (.ref l) (upd H l (.lst (ms.map V.int)))):=by
 intro pins s σ H xs us Q I r h
 obtain⟨p,ns,rfl,hq,h64,q⟩:=h
 obtain⟨u,rfl,rx⟩:=zDQ r
 cases rx
 obtain⟨its,r',pl,hz⟩:=I.list hq
 have hI:IntsAre its ns:=zBd r'
 have hl:=hI.length
 refine SortT.sorted_list (O:=intO) (key:=fun i=>ns.getD i 0) (κ:=oneType') pl.isList (by omega) (fun h2 s' a fa kp=>zGG hI h2) fun D h' out c pt hD kp ho=>?_
 obtain⟨ms,hp,hr,rz,hlz⟩:=zG5 hI pt
 refine⟨.ref D,_,zCS (t':=s.toks) I hD kp ho rz ?_,rfl,q D ms (I.hok.fresh hD) hp hr⟩
 have:sizeLine=16777216:=rfl
 rw[zC]
 omega
end
section
variable {X:Cx}{pl:List (Addr×Obj)}{N':List Str}{sc:Scope}{fp:List Addr}{s3:Shared}{H3:Hp}
theorem zDN:zCd (zBo X pl N' sc fp s3 H3) (.builtin "len") (fun xs H Q=>∃p ys,xs=[.ref p]/\(SqL X.K H p ys\/SqT X.K H p ys)/\Q (.int ys.length) H):=zAe
end
section
variable {X:Cx}
noncomputable def rNeE (K:PySem.W.Frag):R2:=fun x y H Q=>∃(a b:Addr)(xs:List V),x = .ref a/\y = .ref b/\SqL K H a xs/\SqL K H b []/\Q (.bl (!xs.isEmpty)) H
theorem op_neE (hu:X.A.units<cLine):OpR X (compareOp .NotEq) (rNeE X.K):=by
 intro pins s σ H x y v u Q I rx ry h
 obtain⟨a,b,xs,rfl,rfl,ha,hb,q⟩:=h
 cases rx
 cases ry
 obtain⟨its,r,pl,hz⟩:=I.list ha
 obtain⟨its2,r2,pl2,hz2⟩:=I.list hb
 have l1:=r.length
 have l2:=r2.length
 cases xs with
 | nil=>
  refine PySem.EqBoolInt.of_rcne (SeqAt.RcNeAt.lists (e:=fun _=>true) pl.isList pl2.isList (by rw[zS,zS,<-l1,<-l2]) hu (fun j a b=>absurd a (by rw[zS,<-l1];exact Nat.not_lt_zero _))) ⟨.bl _,H,I,rfl,?_⟩
  rw[zS,<-l1]
  exact q
 | cons x xs=>
  refine PySem.EqBoolInt.of_rcne (SeqAt.RcNeAt.lists_lengths pl.isList pl2.isList (by rw[zS,zS,<-l1,<-l2];rfl) hu) ⟨.bl _,H,I,rfl,?_⟩
  exact q
end
end L2
namespace L2
open PySem PyProof.Rows
noncomputable def Kp (s0:Shared)(h:Heap):Prop:=∀b o,s0.heap.get? b=some o->h.get? b=some o
structure zKX (prog:Program)(w:World)(A:Around)(s0:Shared)(I:Addr)(its:List Value)(itAt:Nat->Heap->Prop):Prop where
 stay:∀j h h',itAt j h->h'.get? I=h.get? I->itAt j h'
 next:∀(j:Nat)(h:Heap)(tk:Nat)(v:Value)(Q:Option Value->Shared->Prop)(E:Value->Shared->Prop),Kp s0 h->itAt j h->its[j]? = some v ->
  (∀h',itAt (j+1) h'->(∀b,b≠I->h'.get? b=h.get? b)->Q (some v) { s0 with heap:=h',toks:=tk })->wpAny (model prog w) A (pyNext (.ref I)) Q E { s0 with heap:=h,toks:=tk }
 fin:∀(j:Nat)(h:Heap)(tk:Nat)(Q:Option Value->Shared->Prop)(E:Value->Shared->Prop),Kp s0 h->itAt j h->its[j]? = none ->
  (∀h',(∀b o,b≠I->h.get? b=some o->h'.get? b=some o)->Q none { s0 with heap:=h',toks:=tk })->wpAny (model prog w) A (pyNext (.ref I)) Q E { s0 with heap:=h,toks:=tk }
section
variable {prog:Program}{w:World}{A:Around}{s0:Shared}{I S:Addr}{its:List Value}{itAt:Nat->Heap->Prop}
theorem Kp.upd {h:Heap}{f:Obj->Obj}(K:Kp s0 h)(hS:s0.heap.objs.size<=S):Kp s0 (h.update S f):=fun b o e=>by
 rw[zAL _ _ _ _ (zf (zo (zU e) hS))];exact K b o e
theorem Kp.but {h h':Heap}(K:Kp s0 h)(hI:s0.heap.objs.size<=I)(k:∀b o,b≠I->h.get? b=some o->h'.get? b=some o):Kp s0 h':=fun b o e=>
 k b o (zf (zo (zU e) hI)) (K b o e)
theorem zIr {R:Result->Shared->Prop}{kw:List (Str×Value)}(M:zKX prog w A.in1 s0 I its itAt)(bt:Nat->Nat->Bool)(hS:s0.heap.objs.size<=S)(hI:s0.heap.objs.size<=I)(hSI:S≠I)
 (cmp:∀(i j:Nat)(vi vj:Value)(h:Heap)(tk:Nat)(Q E:Value->Shared->Prop),Kp s0 h->its[i]? = some vi->its[j]? = some vj->Q (.bool (bt i j)) { s0 with heap:=h,toks:=tk }->wpAny (model prog w) A.in1 (richCompare .Lt vi vj) Q E { s0 with heap:=h,toks:=tk })
 (hR:∀(v:Value)(h:Heap)(tk:Nat),its[argBest bt (its.length-1)]? = some v->Kp s0 h->R (.ok (.ret v)) { s0 with heap:=h,toks:=tk })
 : ∀(r j:Nat)(h:Heap)(tk:Nat)(vb:Value)(c:Nat),its.length-(j+1)=r->j+1<=its.length->Kp s0 h->itAt (j+1) h->its[argBest bt j]? = some vb ->
  h.get? S=some { cls:=.type "list",data:=.seq #[vb,vb] c }->codeAny (model prog w) A (.builtin "min.loop" { pos:=[.ref I,.none,.ref S],kw:=kw }) R { s0 with heap:=h,toks:=tk }:=by
 intro r
 induction r with
 | zero=>
  intro j h tk vb c hr hj K hit hv hSo
  refine codeAny_builtin PySem.F.entry_min_loop ?_
  unfold Builtin.«min.loop»
  refine zA (zAw hSo rfl ?_)
  dsimp only
  refine zA (zAY (M.fin (j+1) h tk _ _ K hit (zAB (by omega)) fun h' k=>?_))
  have hS':=k S _ hSI hSo
  refine zA (zAf hS' rfl (zA (zBV (zB ?_))) (by show 2<=sizeLine;decide) (by show 0<=sizeLine+1;decide))
  refine hR vb _ tk ?_ ((K.but hI k).upd hS)
  rw[show its.length-1=j by omega];exact hv
 | succ r ih=>
  intro j h tk vb c hr hj K hit hv hSo
  obtain⟨x,hx⟩:∃x,its[j+1]? = some x:=⟨_,zD (by omega)⟩
  refine codeAny_builtin PySem.F.entry_min_loop ?_
  unfold Builtin.«min.loop»
  refine zA (zAw hSo rfl ?_)
  dsimp only
  refine zA (zAY (M.next (j+1) h tk x _ _ K hit hx fun h' hit' k=>?_))
  have K':Kp s0 h':=K.but hI fun b o hb e=>by rw[k b hb];exact e
  have hS':h'.get? S=some { cls:=.type "list",data:=.seq #[vb,vb] c }:=by rw[k S hSI];exact hSo
  refine zA (zB ?_)
  refine zA (zAY (zq (zA (cmp (j+1) (argBest bt j) x vb h' tk _ _ K' hx hv ?_))))
  refine zA (zq (zAq (zA (zBV (zB ?_)))))
  have eb:argBest bt (j+1)=if bt (j+1) (argBest bt j)=true then j+1 else argBest bt j:=argBest.eq_2 bt j
  cases e:bt (j+1) (argBest bt j) with
  | true=>
   rw[if_pos e] at eb
   refine zA (zAf hS' rfl (zA (zBV (zB ⟨rfl,?_⟩))) (by show 2<=sizeLine;decide) (by show 2<=sizeLine+1;decide))
   exact ih (j+1) _ tk x c (by omega) (by omega) (K'.upd hS) (M.stay _ _ _ hit' (zAL _ _ _ _ (Ne.symm hSI))) (by rw[eb];exact hx) (zi _ hS' rfl)
  | false=>
   rw[e,if_neg (by decide)] at eb
   refine zA (zBV (zB ⟨rfl,?_⟩))
   exact ih (j+1) h' tk vb c (by omega) (by omega) K' hit' (by rw[eb];exact hv) hS'
theorem zEf {R:Result->Shared->Prop}{d:Value}(M:zKX prog w A.in1 s0 I its itAt)(bt:Nat->Nat->Bool)(hS:s0.heap.objs.size<=S)(hI:s0.heap.objs.size<=I)(hSI:S≠I)
 (cmp:∀(i j:Nat)(vi vj:Value)(h:Heap)(tk:Nat)(Q E:Value->Shared->Prop),Kp s0 h->its[i]? = some vi->its[j]? = some vj->Q (.bool (bt i j)) { s0 with heap:=h,toks:=tk }->wpAny (model prog w) A.in1 (richCompare .Lt vi vj) Q E { s0 with heap:=h,toks:=tk })
 (hR:∀(v:Value)(h:Heap)(tk:Nat),its[argBest bt (its.length-1)]? = some v->Kp s0 h->R (.ok (.ret v)) { s0 with heap:=h,toks:=tk })
 (h0:its=[]->∀(h:Heap)(tk:Nat),Kp s0 h->R (.ok (.ret d)) { s0 with heap:=h,toks:=tk })
 (h:Heap)(tk:Nat)(c:Nat)(K:Kp s0 h)(hit:itAt 0 h)(hSo:h.get? S=some { cls:=.type "list",data:=.seq #[] c }) :
 codeAny (model prog w) A (.builtin "min.loop" { pos:=[.ref I,.none,.ref S],kw:=[(Str.ofString "default",d)] }) R { s0 with heap:=h,toks:=tk }:=by
 refine codeAny_builtin PySem.F.entry_min_loop ?_
 unfold Builtin.«min.loop»
 refine zA (zAw hSo rfl ?_)
 dsimp only
 cases e:its with
 | nil=>
  subst e
  refine zA (zAY (M.fin 0 h tk _ _ K hit rfl fun h' k=>?_))
  exact zA (zBu (zB (h0 rfl h' tk (K.but hI k))))
 | cons x xs=>
  have hx:its[0]? = some x:=by rw[e];rfl
  refine zA (zAY (M.next 0 h tk x _ _ K hit hx fun h' hit' k=>?_))
  have K':Kp s0 h':=K.but hI fun b o hb e=>by rw[k b hb];exact e
  have hS':h'.get? S=some { cls:=.type "list",data:=.seq #[] c }:=by rw[k S hSI];exact hSo
  refine zA (zB ?_)
  refine zA (zAf hS' rfl (zB ⟨rfl,?_⟩) (by show 0<=sizeLine;decide) (by show 2<=sizeLine+1;decide))
  refine zIr M bt hS hI hSI cmp hR (its.length-1) 0 _ tk x (c+1) rfl (by rw[e];simp) (K'.upd hS) (M.stay _ _ _ hit' (zAL _ _ _ _ (Ne.symm hSI))) hx (zi _ hS' rfl)
end
end L2
namespace L2
open PySem PyProof.Rows
theorem wpAny_of_eq {α:Type}{M:Model}{A:Around}{E:Value->Shared->Prop}{s:Shared}{m m':Sem α}{Q:α->Shared->Prop}(e:m=m')(h:wpAny M A m' Q E s):wpAny M A m Q E s:=by subst e;exact h
theorem zEL {O:KeyOrd}(ky:Nat->O.α):∀k,argBest (fun i j=>O.blt (ky i) (ky j)) k<=k/\∀j,j<=k->O.blt (ky j) (ky (argBest (fun i j=>O.blt (ky i) (ky j)) k))=false
 | 0=>⟨zG _,fun j hj=>by obtain rfl:j=0:=(by omega);exact O.irrefl _⟩
 | k+1=>by
  obtain⟨h1,h2⟩:=zEL ky k
  rw[argBest.eq_2]
  cases e:O.blt (ky (k+1)) (ky (argBest (fun i j=>O.blt (ky i) (ky j)) k)) with
  | true=>
   rw[if_pos rfl]
   refine⟨zG _,fun j hj=>?_⟩
   by_cases c:j=k+1
   . subst c;exact O.irrefl _
   . cases e2:O.blt (ky j) (ky (k+1)) with
     | false=>rfl
     | true=>rw[<-h2 j (by omega)];exact (O.trans _ _ _ e2 e).symm
  | false=>
   rw[if_neg (by decide)]
   refine⟨by omega,fun j hj=>?_⟩
   by_cases c:j=k+1
   . subst c;exact e
   . exact h2 j (by omega)
theorem zF8 {prog:Program}{w:World}{A:Around}{s:Shared}{p:Addr}{its:List Value}{d:Value}{Q E:Value->Shared->Prop}(hA:A.handled=none)(bt:Nat->Nat->Bool)(hp:s.heap.IsList p its.toArray\/s.heap.IsTuple p its.toArray)
 (cmp:∀(i j:Nat)(vi vj:Value)(h:Heap)(tk:Nat)(Q E:Value->Shared->Prop),Kp s h->its[i]? = some vi->its[j]? = some vj->Q (.bool (bt i j)) { s with heap:=h,toks:=tk }->wpAny (model prog w) A.in1 (richCompare .Lt vi vj) Q E { s with heap:=h,toks:=tk })
 (hR:∀(v:Value)(h:Heap)(tk:Nat),its[argBest bt (its.length-1)]? = some v->Kp s h->Q v { s with heap:=h,toks:=tk })
 (h0:its=[]->∀(h:Heap)(tk:Nat),Kp s h->Q d { s with heap:=h,toks:=tk }) :
 wpAny (model prog w) A (call (.builtin "min") [.ref p] [(Str.ofString "default",d)]) Q E s:=by
 refine zBS (codeAny_call_builtin PySem.F.plain_min PySem.F.entry_min (wpAny_of_eq (show checkBuiltinCall "min" { pos:=[.ref p],kw:=[(Str.ofString "default",d)] }=pure () from rfl) (zB ?_)))
 unfold Builtin.min
 refine zA (wpAny_of_eq (show Builtin.Builtins.bindParams "min" ["key", "default"] 0 { kw:=[(Str.ofString "default",d)] }=pure [none,some d] from rfl) (zB ?_))
 dsimp only
 refine zA (zB ?_)
 have kp0:∀(o1 o2:Obj),Kp s ((s.heap.push o1).push o2):=fun o1 o2 b o e=>zE _ (zE _ e)
 rcases hp with hp | hp
 . refine zA (wpAny_pyIter_list hp (zA (zBL (zB ⟨rfl,?_⟩) (by show 0<=sizeLine;decide))))
   have hSe:(s.heap.push { cls:=.type "list_iterator",data:=.fields #[.ref p,.int 0 0] }).objs.size=s.heap.objs.size+1:=zAg ..
   rw[hSe]
   refine zEf (s0:=s) (I:=s.heap.objs.size) (S:=s.heap.objs.size+1) (itAt:=fun j h=>h.IsListIter s.heap.objs.size p j) ⟨fun j h h' a e=>?_,fun j h tk v Q E K hit hv q=>?_,fun j h tk Q E K hit hv q=>?_⟩ bt (zBA _) (zG _) (Nat.succ_ne_self _) cmp hR h0 _ s.toks 0 (kp0 _ _) ?_ ?_
   . obtain⟨o,ho,hc⟩:=a
     exact⟨o,by rw[e];exact ho,hc⟩
   . obtain⟨o,ho,hc⟩:=hp
     exact zBX hit ⟨o,K _ _ ho,hc⟩ (by rw[zy];exact hv) fun h' a b=>q h' a fun c hc=>b.2 c hc
   . obtain⟨o,ho,hc⟩:=hp
     exact wpAny_pyNext_list_end hA hit ⟨o,K _ _ ho,hc⟩ (by rw[zy];exact hv) fun h' b=>q h' b
   . exact⟨_,zE _ (zK _ rfl),rfl,rfl⟩
   . rw[<-hSe];exact zK _ rfl
 . refine zA (wpAny_pyIter_tuple hp (zA (zBL (zB ⟨rfl,?_⟩) (by show 0<=sizeLine;decide))))
   have hSe:(s.heap.push { cls:=.type "tuple_iterator",data:=.fields #[.ref p,.int 0 0] }).objs.size=s.heap.objs.size+1:=zAg ..
   rw[hSe]
   refine zEf (s0:=s) (I:=s.heap.objs.size) (S:=s.heap.objs.size+1) (itAt:=fun j h=>h.IsTupleIter s.heap.objs.size p j) ⟨fun j h h' a e=>?_,fun j h tk v Q E K hit hv q=>?_,fun j h tk Q E K hit hv q=>?_⟩ bt (zBA _) (zG _) (Nat.succ_ne_self _) cmp hR h0 _ s.toks 0 (kp0 _ _) ?_ ?_
   . obtain⟨o,ho,hc⟩:=a
     exact⟨o,by rw[e];exact ho,hc⟩
   . obtain⟨o,ho,hc⟩:=hp
     exact wpAny_pyNext_tuple_item hit ⟨o,K _ _ ho,hc⟩ (by rw[zy];exact hv) fun h' a b=>q h' a fun c hc=>b.2 c hc
   . obtain⟨o,ho,hc⟩:=hp
     exact wpAny_pyNext_tuple_end hA hit ⟨o,K _ _ ho,hc⟩ (by rw[zy];exact hv) fun h' b=>q h' b
   . exact⟨_,zE _ (zK _ rfl),rfl,rfl⟩
   . rw[<-hSe];exact zK _ rfl
section
variable {X:Cx}
noncomputable def rMinD (K:PySem.W.Frag)(x dv:V)(H:Hp)(Q:VK):Prop:=∃(p:Addr)(ys:List V),x = .ref p/\(SqL K H p ys\/SqT K H p ys)/\(ys=[]->Q dv H) /\
 ((∃ks,zAG H ys ks/\∀(i:Nat)(y:V)(k:List Int),ys[i]? = some y->ks[i]? = some k->(∀k'∈ks,HT.lexLt k' k=false)->Q y H)\/(∃ns:List Int,ys=ns.map V.int/\∀n∈ns,(∀m∈ns,n<=m)->Q (.int n) H))
noncomputable def tMinD (K:PySem.W.Frag)(t:TA)(td:TE):TE:=fun σ H Q=>t σ H fun vs H1=>∃x,vs=[x]/\td σ H1 fun dv H2=>rMinD K x dv H2 Q
theorem zLP {e de:Expr}{t:TA}{td:TE}{pos np kpos:Pos}(hc:X.calm=true)(hu:X.A.units+1<cLine)(hg:Gl X "min") (hm:X.mg "min" = none) (he:PA X [e] t)(hd:PE X de td)
 (hs1:backTo pos (starEach [e] X.env)=(false,eval e X.env)::backTo pos (starEach [] X.env):=by rfl)(hs2:(backTo pos (starEach [e] X.env)).any (·.1)=false:=by rfl) :
 PE X (.Call (.Name "min" np) [e] [⟨some "default",de,kpos⟩] pos) (tMinD X.K t td):=by
 intro pins s σ H Q I h
 refine zAu (zCc I hg hm (by decide +kernel:bootBuiltins "min" = some (.builtin "min")) ?_)
 refine PyProof.Rows.callWith_kw (thn (he pos pins s σ H _ I h) fun us s1 ⟨vs,H1,I1,r,q1⟩=>?_) hs1 hs2
 obtain⟨x,rfl,q1⟩:=q1
 obtain⟨u,rfl,rx⟩:=zDQ r
 show wpAny _ _ (evalAll ((do let v <-eval de X.env;standAt pos;pure v)::[])) _ _ s1
 refine wpAny_evalAll_cons (zA (thn (hd pins s1 σ H1 _ I1 q1) fun ud s2 ⟨dv,H2,I2,rd,q2⟩=>zA (wpAny_standAt (zB (wpAny_evalAll_nil ?_)))))
 show wpAny _ _ (call (.builtin "min") [u] [(Str.ofString "default",ud)]) _ _ s2
 obtain⟨p,ys,rfl,hp,q0,hk⟩:=q2
 cases rx
 obtain⟨its,rv,hpp⟩:∃its:List Value,zBK ys its/\(s2.heap.IsList p its.toArray\/s2.heap.IsTuple p its.toArray):=by
  rcases hp with hp | hp
  . obtain⟨its,r',pl,_⟩:=I2.list hp
    exact⟨its,r',.inl pl.isList⟩
  . obtain⟨its,r',pl,_⟩:=I2.tuple hp
    exact⟨its,r',.inr pl⟩
 have hlen:=rv.length
 have e0:its=[]->ys=[]:=fun z=>zAJ.mp (by rw[hlen,z];rfl)
 rcases hk with ⟨ks,T,q⟩ | ⟨ns,rfl,q⟩
 . have hl:=T.length
   refine zF8 (I2.ok.hd hc) (fun i j=>zJe.blt (ks.getD i []) (ks.getD j [])) hpp (fun i j vi vj h tk Q E K hi hj q=>?_) (fun v h tk hv K=>?_) (fun z h tk K=>⟨dv,H2,I2.kept K,rd,q0 (e0 z)⟩)
   . have look:∀(i:Nat)(v:Value),its[i]? = some v->∃(p:Addr)(k:List Int)(us:List Value),v = .ref p/\ks[i]? = some k/\IntsAre us k/\IsTup h p us.toArray:=fun i v hv=>by
      have hi:i<ys.length:=by have:=(zJ.mp hv).1;omega
      obtain⟨p,k,e1,e2,e3,_⟩:=T.get (i:=i) (x:=ys[i]) (by simp[hi])
      obtain⟨u,hu,ru⟩:=rv.get (i:=i) (x:=ys[i]) (by simp[hi])
      rw[hv] at hu;cases hu
      rw[e1] at ru
      cases (show v=Value.ref p from ru)
      obtain⟨_,us,rv',o,ho,hc⟩:=I2.hok p _ e3
      exact⟨p,k,us,rfl,e2,zBd rv',o,K _ _ ho,hc⟩
     obtain⟨p1,k1,us1,rfl,g1,i1,t1⟩:=look i vi hi
     obtain⟨p2,k2,us2,rfl,g2,i2,t2⟩:=look j vj hj
     refine HT.lt_tupInts (ns:=k1) (ms:=k2) t1 t2 i1 i2 hu ?_
     have:zJe.blt (ks.getD i []) (ks.getD j [])=HT.lexLt k1 k2:=by rw[zP,zP,g1,g2];rfl
     rw[<-this];exact q
   . obtain⟨b1,b2⟩:=zEL (O:=zJe) (fun i=>ks.getD i []) (its.length-1)
     have hlt:=(zJ.mp hv).1
     generalize eb:argBest (fun i j=>zJe.blt (ks.getD i []) (ks.getD j [])) (its.length-1)=bi at hv hlt b1 b2
     have hy:bi<ys.length:=by omega
     obtain⟨u,hu,ru⟩:=rv.get (i:=bi) (x:=ys[bi]) (by simp[hy])
     rw[hv] at hu;cases hu
     obtain⟨pa,k,e1,e2,e3,_⟩:=T.get (i:=bi) (x:=ys[bi]) (by simp[hy])
     refine⟨ys[bi],H2,I2.kept K,ru,q bi ys[bi] k (by simp[hy]) e2 fun k' hk'=>?_⟩
     obtain⟨j,hj,ej⟩:=zAC hk'
     have:=b2 j (by omega)
     have g1:ks.getD j []=k':=by rw[zP,zD hj,ej];rfl
     have g2:ks.getD bi []=k:=by rw[zP,e2];rfl
     rw[g1,g2] at this
     exact this
 . have hI:IntsAre its ns:=zBd rv
   have hl:=hI.length
   have look:∀(i:Nat)(v:Value),its[i]? = some v->∃t,v = .int (ns.getD i 0) t:=fun i v hv=>by
    have hi:i<ns.length:=by have:=(zJ.mp hv).1;omega
    obtain⟨u,hu,ru⟩:=rv.get (i:=i) (x:=.int ns[i]) (by simp[hi])
    rw[hv] at hu;cases hu
    obtain⟨t,rfl⟩:=(show ∃t,v=Value.int ns[i] t from ru)
    exact⟨t,by rw[zP,zD hi];rfl⟩
   refine zF8 (I2.ok.hd hc) (fun i j=>decide (ns.getD i 0<ns.getD j 0)) hpp (fun i j vi vj h tk Q E K hi hj q=>?_) (fun v h tk hv K=>?_) (fun z h tk K=>⟨dv,H2,I2.kept K,rd,q0 (e0 z)⟩)
   . obtain⟨t1,rfl⟩:=look i vi hi
     obtain⟨t2,rfl⟩:=look j vj hj
     exact PyProof.Rows.lt_int q
   . obtain⟨b1,b2⟩:=argBest_lt (fun i=>ns.getD i 0) (its.length-1)
     have hlt:=(zJ.mp hv).1
     generalize eb:argBest (fun i j=>decide (ns.getD i 0<ns.getD j 0)) (its.length-1)=bi at hv hlt b1 b2
     obtain⟨t,rfl⟩:=look bi v hv
     have hy:bi<ns.length:=by omega
     refine⟨.int (ns.getD bi 0),H2,I2.kept K,⟨t,rfl⟩,q _ ?_ fun m hm=>?_⟩
     . rw[zP,zD hy];exact zAy hy
     . obtain⟨j,hj,ej⟩:=zAC hm
       have:=b2 j (by omega)
       have g1:ns.getD j 0=m:=by rw[zP,zD hj,ej];rfl
       rw[g1] at this
       exact this
end
end L2
namespace L2
open PySem PyProof.Rows
section
variable {prog:Program}{w:World}{A:Around}{s0:Shared}{D I l:Addr}{its:List Value}{qs:List (Key×Value)}
end
section
variable {X:Cx}
end
end L2
namespace L2
open PySem PySem.Spec PyProof.Rows
section
variable {X:Cx}
theorem zD0 {x:Str}{T:String}{pos:Pos}(hg:Gl X x)(hm:X.mg x=none)(hv:bootBuiltins x=some (.type T))(hn:x ≠ "__name__" := by decide) (hdb:(x==("__debug__" : Str))=false:=by decide):PE X (.Name x pos) (tC (.ty T)):=
 fun pins s σ H Q I h=>zCc I hg hm hv ⟨.ty T,H,I,rfl,h⟩ hn hdb
theorem zB6:zCd X (.builtin "isinstance") (fun xs H Q=>∃x T t b,xs=[x,.ty T]/\zH2 X.K H x t/\PySem.W.kitOne X.K t (.type T)=some b/\Q (.bl b) H):=by
 intro pins s σ H xs us Q I r h
 obtain⟨x,T,t,b,rfl,ty,e,q⟩:=h
 obtain⟨u,w',rfl,rx,rT⟩:=zHW r
 cases (show w'=Value.type T from rT)
 exact zI3 I rx ty e fun tk=>⟨.bl b,H,I.tok tk,rfl,q⟩
end
section
variable {prog:Program}{w:World}{A:Around}{s0:Shared}{I l:Addr}{bs:List Bool}
theorem zKW {R:Result->Shared->Prop}(hA:A.handled=none)(hI:s0.heap.objs.size<=I)(hl:s0.heap.IsList l (bs.map Value.bool).toArray)
 (hR:∀(h:Heap)(tk:Nat),Kp s0 h->R (.ok (.ret (.bool (bs.all id)))) { s0 with heap:=h,toks:=tk }) :
 ∀(r j:Nat)(h:Heap)(tk:Nat),bs.length-j=r->j<=bs.length->Kp s0 h->h.IsListIter I l j->(bs.take j).all id=true ->
  codeAny (model prog w) A (.builtin "all.loop" { pos:=[.ref I] }) R { s0 with heap:=h,toks:=tk }:=by
 have hl':∀h,Kp s0 h->h.IsList l (bs.map Value.bool).toArray:=fun h K=>by
  obtain⟨o,ho,hc⟩:=hl
  exact⟨o,K _ _ ho,hc⟩
 intro r
 induction r with
 | zero=>
  intro j h tk hr hj K hit ha
  refine codeAny_builtin PySem.F.entry_all_loop ?_
  unfold Builtin.«all.loop»
  refine zA (wpAny_pyNext_list_end hA hit (hl' h K) (by rw[zy];exact zAB (by rw[zC];omega)) fun h' b=>?_)
  refine zA (zBu (zB ?_))
  rw[zd (by omega)] at ha
  have:=hR h' tk (K.but hI b)
  rw[ha] at this
  exact this
 | succ r ih=>
  intro j h tk hr hj K hit ha
  obtain⟨x,hx⟩:∃x,bs[j]? = some x:=⟨_,zD (by omega)⟩
  refine codeAny_builtin PySem.F.entry_all_loop ?_
  unfold Builtin.«all.loop»
  refine zA (zBX hit (hl' h K) (x:=.bool x) (by rw[zy,zT,hx];rfl) fun h' hit' b=>?_)
  have K':Kp s0 h':=K.but hI fun c o hc e=>by rw[b.2 c hc];exact e
  refine zA (zq (zAq (zA (zBV ?_))))
  cases x with
  | true=>
   refine zB ⟨rfl,?_⟩
   exact ih (j+1) h' tk (by omega) (by omega) K' hit' (by rw[zAA,hx,List.all_append,ha];rfl)
  | false=>
   refine zA (zBu (zB ?_))
   have e:bs.all id=false:=by
    cases z:bs.all id with
    | false=>rfl
    | true=>have:=List.all_eq_true.mp z false (zc hx);simp at this
   have:=hR h' tk K'
   rw[e] at this
   exact this
end
section
variable {X:Cx}
theorem zHQ:∀{bs:List Bool}{its:List Value},zBK (bs.map V.bl) its->its=bs.map Value.bool
 | [],[],_=>rfl
 | b::bs,u::its,h=>by
  cases h with
  | cons h1 h2=>rw[zAU,<-zHQ h2,show u=Value.bool b from h1]
 | [],_::_,h=>by cases h
 | _::_,[],h=>by cases h
theorem zFL (hc:X.calm=true):zCd X (.builtin "all") (fun xs H Q=>∃(p:Addr)(bs:List Bool),xs=[.ref p]/\SqL X.K H p (bs.map V.bl)/\Q (.bl (bs.all id)) H):=by
 intro pins s σ H xs us Q I r h
 obtain⟨p,bs,rfl,hq,q⟩:=h
 obtain⟨u,rfl,rx⟩:=zDQ r
 cases rx
 obtain⟨its,r',pl,hz⟩:=I.list hq
 rw[zHQ r'] at pl
 refine zBS (codeAny_call_builtin PySem.F.plain_all PySem.F.entry_all (wpAny_of_eq (m':=pure ()) rfl (zB ?_)))
 unfold Builtin.all
 refine zA (wpAny_of_eq (m':=pure (Value.ref p)) rfl (zB (zA (wpAny_pyIter_list pl.isList (zB ⟨rfl,?_⟩)))))
 refine zKW (s0:=s) (l:=p) (bs:=bs) (I.ok.hd hc) (zG _) pl.isList ?_ bs.length 0 _ s.toks rfl (zk _) (fun b o e=>zE _ e) ?_ rfl
 . exact fun h tk K=>⟨.bl _,H,I.kept K,rfl,q⟩
 . exact⟨_,zK _ rfl,rfl,rfl⟩
end
end L2
namespace L2
open PySem PySem.Spec PyProof.Rows
end L2
namespace L2
open PySem PySem.Spec PyProof.Rows
section
variable {X:Cx}
variable {o e:Expr}{es:List Expr}{to:TE}{t:TA}{name:Str}{apos cpos:Pos}{id:String}{r:V->List V->Hp->VK->Prop}
end
section
variable {prog:Program}{w:World}{A:Around}{E:Value->Shared->Prop}
end
section
variable {X:Cx}
end
section
variable {X:Cx}{pl:List (Addr×Obj)}{N':List Str}{sc:Scope}{fp:List Addr}{s3:Shared}{H3:Hp}
end
end L2
namespace L2
open PySem PySem.Spec PyProof.Rows
section
variable {X:Cx}
end
end L2
namespace L2
open PySem PySem.Spec PyProof.Rows
section
variable {prog:Program}{w:World}{A:Around}{s:Shared}{l:Addr}{its:List Value}{ns:List Int}{v:Int}{tv:Tok}
end
section
variable {X:Cx}
end
end L2
namespace WM
open L2
end WM
namespace L2
open PySem PyProof.Rows
end L2
namespace WM
end WM
namespace L2
open PySem PySem.Spec PyProof.Rows
section
variable {X:Cx}
end
end L2
namespace SortT
open PySem PySem.W PySem.Calls PyProof.Rows
section
variable {prog:Program}{w:World}{A:Around}{E:Value->Shared->Prop}{s:Shared}
theorem zHv {t:Addr}{us:List Value}{Q:List Value->Shared->Prop}(ht:IsTup s.heap t us.toArray)(hz:us.length<=sizeLine)
 (q:Q us { s with heap:=(s.heap.push (seqObj "list" #[] 0)).update s.heap.objs.size (Obj.mapSeq (· ++ us.toArray)) }):wpAny (model prog w) A (collect (.ref t)) Q E s:=by
 obtain⟨ob,hob,cob,m,dob⟩:=ht
 have hob':(s.heap.push (seqObj "list" #[] 0)).get? t=some ob:=zE _ hob
 have new:(s.heap.push (seqObj "list" #[] 0)).get? s.heap.objs.size=some (seqObj "list" #[] 0):=zK _ rfl
 unfold collect
 refine zA (wpAny_runValue (codeAny_builtin entry_proto_collect' (zA (zBL (zB ⟨Code.quiet_builtin _ (by decide +kernel),codeAny_builtin entry_list_iadd' ?_⟩)))))
 show wpAny _ _ (Builtin.List.listExtendWith _ (.ref t) _) _ _ _
 unfold Builtin.List.listExtendWith
 refine zA (zBf (T := "tuple") ⟨ob,hob',cob⟩ ?_)
 have yes:(Value.type "tuple" == Value.type "tuple")=true:=rfl
 rw[if_pos (by rw[yes];simp)]
 refine zA (listItems_at hob' dob (zA (listItems_at (xs:=#[]) (n:=0) new rfl ?_)))
 rw[if_neg (by simp)]
 refine zA (listUpdate_at (xs:=#[]) (n:=0) new rfl (zB ?_) (zk _) (by simp;omega))
 refine zA (wpAny_load (get?_update_seq new _) ?_)
 have e:((#[]:Array Value)++us.toArray).toList=us:=by simp
 show wpAny _ _ (pure ((#[]:Array Value)++us.toArray).toList) Q E _
 rw[e]
 exact zB q
theorem sorted_tup {t:Addr}{us:List Value}{Q:Value->Shared->Prop}{O:KeyOrd}{key:Nat->O.α}{κ:SortKind}(ht:IsTup s.heap t us.toArray)(h64:us.length<64)
 (ask:2<=us.length->∀(s':Shared)(a:Addr),(∀b o,s.heap.get? b=some o->b≠a)->(∀b o,s.heap.get? b=some o->s'.heap.get? b=some o)->Asks prog w A.in1.in1 s' a us key κ)
 (h:∀(D:Addr)(h':Heap)(out:List Nat)(c:Nat),Put key us.length out->s.heap.objs.size<=D->(∀b o,s.heap.get? b=some o->h'.get? b=some o) ->
  h'.get? D=some (seqObj "list" (out.map fun i=>us.getD i Value.none).toArray c)->Q (.ref D) { s with heap:=h' }) :
 wpAny (model prog w) A (call (.builtin "sorted") [.ref t]) Q E s:=by
 refine Calls.call_function_entry kind_sorted plain_sorted entry_sorted (args_sorted1 _) ?_
 unfold Builtin.«sorted»
 refine zA (m:=checkCount "sorted" 1 1 _) (zB (zA (zHv ht (by rw[sizeLine_eq];omega) (zA (zBL ?_ (by rw[sizeLine_eq];omega))))))
 generalize hh1:(s.heap.push (seqObj "list" #[] 0)).update s.heap.objs.size (Obj.mapSeq (· ++ us.toArray))=h1
 have hsz:h1.objs.size=s.heap.objs.size+1:=by rw[<-hh1,Heap.size_update,size_push']
 have hk:∀b o,s.heap.get? b=some o->h1.get? b=some o:=fun b o z=>by
  rw[<-hh1,zAL _ _ _ _ (zf (zU z)),Heap.get?_push_ne _ _ _ (zf (zU z))]
  exact z
 have hoL:(h1.push (seqObj "list" us.toArray 0)).get? h1.objs.size=some (seqObj "list" us.toArray 0):=zK _ rfl
 have keep1:∀b o,h1.get? b=some o->(h1.push (seqObj "list" us.toArray 0)).get? b=some o:=fun b o q=>zE _ q
 refine zA (zq (zAO slot_list_sort ⟨_,hoL,rfl⟩ entry_list_sort (list_sort (O:=O) (key:=key) (κ:=κ) hoL h64
  (fun h2=>ask h2 _ _ (fun b o e=>zf (zU (hk b o e))) fun b o e=>keep1 b o (hk b o e)) fun out hp=>⟨_,rfl,?_⟩) (args_list_sort _)))
 refine zB ⟨_,rfl,?_⟩
 obtain⟨c,hc⟩:=sortedHeap_at (vs:=us) (out:=(out.map fun i=>us.getD i Value.none).toArray) hoL
 refine h _ _ out c hp (by rw[hsz];exact zBA _) (fun b o e=>?_) hc
 have hb:b<h1.objs.size:=zU (hk b o e)
 rw[sortedHeap_old (zf hb) (by rw[zAg];exact zA1 hb)]
 exact keep1 b o (hk b o e)
end
end SortT
namespace L2
open PySem PySem.Spec PyProof.Rows
section
variable {X:Cx}
end
section
variable {X:Cx}{pl:List (Addr×Obj)}{N':List Str}{sc:Scope}{fp:List Addr}{s3:Shared}{H3:Hp}
end
end L2
namespace L2
open PySem PySem.Spec PyProof.Rows
section
variable {X:Cx}
noncomputable def rCatA (K:PySem.W.Frag):R2:=fun x y H Q=>∃a b xs ys,x = .ref a/\y = .ref b/\SqT K H a xs/\SqT K H b ys/\xs.length+ys.length<=sizeLine /\
 (xs=[]->Q (.ref b) H)/\(xs≠[]->ys=[]->Q (.ref a) H)/\(xs≠[]->ys≠[]->∀p,H p=none->Q (.ref p) (upd H p (.tup (xs++ys))))
theorem zLx {prog:Program}{w:World}{A:Around}{E:Value->Shared->Prop}{s:Shared}{t b:Addr}{ws:List Value}{Q:Value->Shared->Prop}(ht:IsTup s.heap t #[])(hb:IsTup s.heap b ws.toArray)
 (h:Q (.ref b) s):wpAny (model prog w) A (binaryOp .Add (.ref t) (.ref b)) Q E s:=by
 obtain⟨⟨cls,dd,data,sl⟩,ho,hc,n,hd⟩:=id ht
 obtain⟨⟨cls2,dd2,data2,sl2⟩,ho2,hc2,n2,hd2⟩:=id hb
 simp only at hc hd hc2 hd2
 subst hc hd hc2 hd2
 exact concat_meets ⟨_,ho,rfl⟩ ⟨_,ho2,rfl⟩ noFill_tuple_add seq_tuple_add PySem.F.slot_tuple_add PySem.F.entry_tuple_add (PySem.F.args_tuple_add_2 _ _)
  (tuple_addW0 t b #[] ws.toArray n n2 dd dd2 sl sl2 rfl) ⟨ho,ho2,h⟩
theorem zIl:OpR X (binaryOp .Add) (rCatA X.K):=by
 intro pins s σ H x y v u Q I rx ry h
 obtain⟨a,b,xs,ys,rfl,rfl,ha,hb,hz,q0,q1,q2⟩:=h
 by_cases hx:xs=[]
 . subst hx
   cases rx
   cases ry
   obtain⟨its,r1,p1,_⟩:=I.tuple ha
   obtain⟨its2,r2,p2,_⟩:=I.tuple hb
   cases r1
   exact zLx p1 p2 ⟨.ref b,H,I,rfl,q0 rfl⟩
 . exact zLV pins s σ H _ _ v u Q I rx ry ⟨a,b,xs,ys,rfl,rfl,ha,hb,hx,hz,q1 hx,q2 hx⟩
end
end L2
namespace L2
open PySem PySem.Spec PyProof.Rows
section
variable {X:Cx}
end
end L2
namespace HT
open PySem PySem.Spec PyProof.Rows
section
open PySem.SeqAt
open PySem.AutoSeq1 (wpAny_loadPart')
open PySem.MeetsSeq PySem.MeetsSeq2 PySem.MeetsSeq3
end
end HT
namespace L2
open PySem PySem.Spec PyProof.Rows
section
variable {X:Cx}
end
end L2
namespace HT
open PySem PySem.Spec PyProof.Rows
section
variable {prog:Program}{w:World}{A:Around}{E:Value->Shared->Prop}{s:Shared}
theorem getItem_tuple_all {t sl:Addr}{items:Array Value}{vl vu:Value}{lo hi:Option Int}{Q:Value->Shared->Prop}(ht:IsTup s.heap t items)(hs:s.heap.IsSliceOf sl vl vu .none)(pl:IsPart vl lo)(pu:IsPart vu hi)
 (hw:sIx items.size 0 lo=0/\sIx items.size items.size hi=items.size)(h:Q (.ref t) s):wpAny (model prog w) A (getItem (.ref t) (.ref sl)) Q E s:=by
 obtain⟨os,hos,hcs,hds⟩:=id hs
 have hTs:s.TypeIs (.ref sl) "slice" := ⟨os,hos,hcs⟩
 unfold getItem
 try with_reducible refine zq ?_
 first | refine zA (zB ?_) | skip
 refine zA (wpAny_sequenceKey ht.typeIs (by decide) ?_)
 refine zA (zAr (name:=Str.ofString "__getitem__") ht.typeIs PyProof.Rows.slot_tuple_getitem
  (zAO PyProof.Rows.slot_tuple_getitem ht.typeIs entry_tuple_getitem ?_ (args_tuple_getitem _ _)))
 show wpAny _ _ (Builtin.Tuple.tupleItemsOf (.ref t) >>= _) _ _ s
 refine zA (tupleItemsOf_ ht ?_)
 refine zA (zBf hTs ?_)
 rw[if_pos (by decide)]
 refine zA (zCa hs pl pu ?_)
 have hyes:(((sIx items.size 0 lo:Nat):Int)==0 && (1:Int)==1 && (sIx items.size items.size hi-sIx items.size 0 lo)==items.size)=true:=by
  rw[hw.1,hw.2];simp
 show wpAny _ _ (if (((sIx items.size 0 lo:Nat):Int)==0 && (1:Int)==1 && (sIx items.size items.size hi-sIx items.size 0 lo)==items.size)=true then _ else _) _ _ s
 rw[if_pos hyes]
 unfold Builtin.Tuple.tupleIsExact
 refine zA (zA (zBf ht.typeIs (zB ?_)))
 rw[if_pos (by decide)]
 first
  | exact zA (zBu (zB ⟨_,rfl,zB h⟩))
  | exact zA (zBu (zB (zB ⟨_,rfl,zB h⟩)))
  | exact zA (zBu (zA (zB (zB ⟨_,rfl,zB h⟩))))
  | exact zBu (zB ⟨_,rfl,zB h⟩)
end
end HT
namespace L2
open PySem PySem.Spec PyProof.Rows
section
variable {X:Cx}{e:Expr}{te:TE}{pos p2 p3 p4:Pos}
noncomputable def rSlA (K:PySem.W.Frag):V->Option Int->Option Int->Hp->VK->Prop:=fun x lo hi H Q=>∃a xs,x = .ref a/\SqT K H a xs /\
 ((HT.sIx xs.length 0 lo=0/\HT.sIx xs.length xs.length hi=xs.length)->Q (.ref a) H)/\(¬ (HT.sIx xs.length 0 lo=0/\HT.sIx xs.length xs.length hi=xs.length)->∀p,H p=none->Q (.ref p) (upd H p (.tup (zFO xs lo hi))))
theorem zLI:SlR X (rSlA X.K):=by
 intro pins s σ H x v vl vu lo hi sl Q I rx hs pl pu h
 obtain⟨a,xs,rfl,hx,q1,q2⟩:=h
 by_cases c:HT.sIx xs.length 0 lo=0/\HT.sIx xs.length xs.length hi=xs.length
 . cases rx
   obtain⟨its,r,ht,hz⟩:=I.tuple hx
   have hlen:its.toArray.size=xs.length:=by rw[zS];exact r.length.symm
   refine⟨"tuple",_,PyProof.Rows.slot_tuple_getitem.lookup,ht.typeIs,?_⟩
   exact HT.getItem_tuple_all ht hs pl pu (by rw[hlen];exact c) ⟨.ref a,H,I,rfl,q1 c⟩
 . exact sl_tup pins s σ H _ v vl vu lo hi sl Q I rx hs pl pu ⟨a,xs,rfl,hx,c,q2 c⟩
end
end L2
namespace STb
open PySem
noncomputable def Ris (xs:Array Nat):Prop:=xs.toList.Pairwise (· < ·)
theorem Ris.lt {xs:Array Nat}(h:Ris xs){i j:Nat}{a b:Nat}(hij:i<j)(hi:xs[i]? = some a)(hj:xs[j]? = some b):a<b:=by
 obtain⟨h1,e1⟩:=Array.getElem?_eq_some_iff.mp hi
 obtain⟨h2,e2⟩:=Array.getElem?_eq_some_iff.mp hj
 have:=zr.mp h i j (by simpa using h1) (by simpa using h2) hij
 simpa [e1,e2] using this
theorem zLo {xs:Array Nat}(h:Ris xs)(j:Nat):∀(fuel lo hi:Nat),hi-lo<=fuel->lo<=hi->hi<=xs.size->(∀k v,k<lo->xs[k]? = some v->v<j)->(∀k v,hi<=k->xs[k]? = some v->j<=v) ->
 lo<=SetTable.below.go xs j fuel lo hi/\SetTable.below.go xs j fuel lo hi<=hi/\(∀k v,k<SetTable.below.go xs j fuel lo hi->xs[k]? = some v->v<j)/\(∀k v,SetTable.below.go xs j fuel lo hi<=k->xs[k]? = some v->j<=v):=by
 intro fuel
 induction fuel with
 | zero=>
  intro lo hi hf hl hs h1 h2
  have:lo=hi:=by omega
  subst this
  exact⟨zG _,zG _,h1,h2⟩
 | succ fuel ih=>
  intro lo hi hf hl hs h1 h2
  unfold SetTable.below.go
  by_cases c:lo<hi
  . rw[if_pos c]
    have hm:(lo+hi)/2<xs.size:=by omega
    have em:xs[(lo+hi)/2]? = some xs[(lo+hi)/2]:=Array.getElem?_eq_getElem hm
    have eg:xs.getD ((lo+hi)/2) j=xs[(lo+hi)/2]:=by simp[Array.getD,hm]
    dsimp only
    rw[eg]
    by_cases d:xs[(lo+hi)/2]<j
    . rw[if_pos d]
      obtain⟨a,b,c1,c2⟩:=ih ((lo+hi)/2+1) hi (by omega) (by omega) hs (fun k v hk e=>by
       by_cases z:k=(lo+hi)/2
       . subst z;rw[em] at e;cases e;exact d
       . have:=h.lt (i:=k) (j:=(lo+hi)/2) (by omega) e em;omega) h2
      exact⟨by omega,b,c1,c2⟩
    . rw[if_neg d]
      obtain⟨a,b,c1,c2⟩:=ih lo ((lo+hi)/2) (by omega) (by omega) (by omega) h1 (fun k v hk e=>by
       by_cases z:k=(lo+hi)/2
       . subst z;rw[em] at e;cases e;omega
       . have:=h.lt (i:=(lo+hi)/2) (j:=k) (by omega) em e;omega)
      exact⟨a,by omega,c1,c2⟩
  . rw[if_neg c]
    have:lo=hi:=by omega
    subst this
    exact⟨zG _,zG _,h1,h2⟩
theorem zDb {xs:Array Nat}(h:Ris xs)(j:Nat):SetTable.below xs j<=xs.size/\(∀k v,k<SetTable.below xs j->xs[k]? = some v->v<j)/\(∀k v,SetTable.below xs j<=k->xs[k]? = some v->j<=v):=by
 obtain⟨_,a,b,c⟩:=zLo h j xs.size 0 xs.size (by omega) (by omega) (zG _) (fun k v hk _=>absurd hk (Nat.not_lt_zero _)) (fun k v hk e=>by
  have:=(Array.getElem?_eq_some_iff.mp e).1;omega)
 exact⟨a,b,c⟩
theorem zHz {xs:Array Nat}(h:Ris xs){i a:Nat}(e:xs[i]? = some a):SetTable.below xs (a+1)=i+1:=by
 obtain⟨h1,h2,h3⟩:=zDb h (a+1)
 have hi:=(Array.getElem?_eq_some_iff.mp e).1
 rcases Nat.lt_trichotomy (SetTable.below xs (a+1)) (i+1) with c | c | c
 . have:=h3 i a (by omega) e;omega
 . exact c
 . have hl:i+1<xs.size:=by omega
   have e2:xs[i+1]? = some xs[i+1]:=Array.getElem?_eq_getElem hl
   have a1:=h2 (i+1) _ c e2
   have a2:=h.lt (i:=i) (j:=i+1) (by omega) e e2
   omega
theorem zHy {xs:Array Nat}(h:Ris xs):SetTable.below xs 0=0:=by
 obtain⟨h1,h2,h3⟩:=zDb h 0
 rcases Nat.eq_zero_or_pos (SetTable.below xs 0) with c | c
 . exact c
 . have hl:0<xs.size:=by omega
   have:=h2 0 _ c (Array.getElem?_eq_getElem hl)
   omega
theorem zHt {xs:Array Nat}(h:Ris xs){j:Nat}(ne:xs[SetTable.below xs j]?≠some j):Ris (SetTable.insertAt xs (SetTable.below xs j) j):=by
 obtain⟨h1,h2,h3⟩:=zDb h j
 unfold Ris
 rw[SetTable.toList_insertAt]
 have hp:(xs.toList.take (SetTable.below xs j)++xs.toList.drop (SetTable.below xs j)).Pairwise (· < ·):=by rw[List.take_append_drop];exact h
 obtain⟨p1,p2,p3⟩:=List.pairwise_append.mp hp
 have lo:∀a∈xs.toList.take (SetTable.below xs j),a<j:=fun a ha=>by
  obtain⟨k,hk,e⟩:=zAC ha
  rw[zp] at hk
  rw[List.getElem_take] at e
  exact h2 k a (by omega) (by rw[<-Array.getElem?_toList,zD (by omega),e])
 have hi:∀a∈xs.toList.drop (SetTable.below xs j),j<a:=fun a ha=>by
  obtain⟨k,hk,e⟩:=zAC ha
  rw[List.length_drop] at hk
  rw[List.getElem_drop] at e
  have eg:xs[SetTable.below xs j+k]? = some a:=by rw[<-Array.getElem?_toList,zD (by omega),e]
  have:=h3 _ a (by omega) eg
  by_cases c:k=0
  . subst c
    rw[Nat.add_zero] at eg
    have:a≠j:=fun z=>ne (by rw[eg,z])
    omega
  . have hz:SetTable.below xs j<xs.size:=by simp at hk;omega
    have e0:xs[SetTable.below xs j]? = some xs[SetTable.below xs j]:=Array.getElem?_eq_getElem hz
    have a0:=h3 _ _ (zG _) e0
    have a1:=h.lt (i:=SetTable.below xs j) (j:=SetTable.below xs j+k) (by omega) e0 eg
    omega
 refine List.pairwise_append.mpr ⟨p1,List.pairwise_cons.mpr ⟨hi,p2⟩,fun a ha b hb=>?_⟩
 rcases zW.mp hb with rfl | hb
 . exact lo a ha
 . exact p3 a ha b hb
structure GT (led:Bool)(t:SetTable):Prop where
 dm:t.dummies = #[]
 ld:t.led=led
 rs:t.plain=true->Ris t.place
theorem zKK (led:Bool):GT led (SetTable.fresh 0 0 led):=⟨rfl,rfl,fun _=>List.Pairwise.nil⟩
theorem zI7 (j:Nat):SetTable.has #[] j=false:=by
 unfold SetTable.has
 simp
theorem zEa {t:SetTable}(hd:t.dummies = #[]){j:Nat}:(t.slot j = .empty->t.place[SetTable.below t.place j]?≠some j)/\t.slot j ≠ .dummy:=by
 unfold SetTable.slot
 rw[hd,zI7]
 dsimp only
 constructor
 . intro h e
   rw[e] at h
   simp at h
 . split <;> simp
theorem zGU {t:SetTable}(hd:t.dummies = #[]){ha:Nat->Int}{hh:Int}{j:Nat}{d:Option Nat}:∀(fuel:Nat)(p:SetTable.Probe),p.dummy=none->SetTable.probe.go t ha hh fuel p=some (.empty j d)->t.slot j = .empty/\d=none:=by
 intro fuel
 induction fuel with
 | zero=>intro p _ h;unfold SetTable.probe.go at h;cases h
 | succ fuel ih=>
  intro p hp h
  unfold SetTable.probe.go at h
  cases e:t.slot p.j with
  | empty=>
   rw[e] at h
   simp only[Option.some.injEq,SetTable.Met.empty.injEq] at h
   exact⟨by rw[<-h.1];exact e,by rw[<-h.2];exact hp⟩
  | dummy=>exact absurd e (zEa hd).2
  | live i=>
   rw[e] at h
   dsimp only at h
   split at h
   . cases h
   . refine ih _ ?_ h
     unfold SetTable.advance
     split
     . exact hp
     . exact hp
theorem zHw {t:SetTable}(hd:t.dummies = #[]){hh:Int}{j:Nat}{w:Bool}(h:t.freeSlot hh=some (j,w)):t.place[SetTable.below t.place j]?≠some j:=by
 unfold SetTable.freeSlot at h
 cases e:t.probe (fun _=>hh+1) hh (t.probeStart hh) with
 | none=>rw[e] at h;cases h
 | some met=>
  rw[e] at h
  cases met with
  | candidate a b c=>cases h
  | empty j' d=>
   obtain⟨e1,e2⟩:=zGU hd _ _ rfl e
   subst e2
   simp only[Option.getD_none,Option.some.injEq,Prod.mk.injEq] at h
   rw[<-h.1]
   exact (zEa hd).1 e1
theorem gt_put {led:Bool}{t:SetTable}(g:GT led t){j:Nat}(h:t.place[SetTable.below t.place j]?≠some j):GT led (t.put j).1:=by
 unfold SetTable.put
 refine⟨?_,g.ld,fun hp=>zHt (g.rs hp) h⟩
 dsimp only
 rw[g.dm,zI7]
 rfl
theorem zDn {led:Bool}{t:SetTable}(g:GT led t)(n:Nat):GT led (t.standIn n):=⟨rfl,g.ld,fun h=>by cases h⟩
theorem gt_or {led:Bool}{t:SetTable}(g:GT led t)(n:Nat):GT led (t.orStandIn n):=by
 unfold SetTable.orStandIn
 split
 . exact g
 . exact zDn g n
theorem gt_lay {led:Bool}{t:SetTable}(g:GT led t)(es:Array (Int×Value))(h:Int)(x:Value):GT led (layNew t es h x).2.1:=by
 unfold layNew
 cases e:t.freeSlot h with
 | none=>exact zDn g _
 | some q=>
  obtain⟨j,w⟩:=q
  exact gt_or (gt_put g (zHw g.dm e)) _
theorem zHe {f:Nat->Option Nat}:∀(l:List Nat),l.Pairwise (· < ·)->((l.filterMap fun j=>(f j).map (j,·)).map (·.1)).Pairwise (· < ·):=by
 intro l h
 rw[List.pairwise_map,List.pairwise_filterMap]
 refine h.imp fun {a b} hab x hx y hy=>?_
 cases ea:f a with
 | none=>rw[ea] at hx;cases hx
 | some u=>
  cases eb:f b with
  | none=>rw[eb] at hy;cases hy
  | some v=>
   rw[ea] at hx
   rw[eb] at hy
   cases hx
   cases hy
   exact hab
theorem zKJ {led:Bool}{t:SetTable}(g:GT led t)(es:Array (Int×Value))(n:Nat):GT led (relayAll t es n).2.1:=by
 unfold relayAll
 cases e:t.relaid (es.map (·.1)) n with
 | none=>exact zDn g _
 | some q=>
  obtain⟨t',order⟩:=q
  dsimp only
  split
  . unfold SetTable.relaid SetTable.laid at e
    simp only[Option.bind_eq_bind,Option.bind_eq_some_iff,Option.pure_def,Option.some.injEq,Prod.mk.injEq] at e
    obtain⟨owner,_,e1,_⟩:=e
    rw[<-e1]
    refine⟨rfl,g.ld,fun _=>?_⟩
    show List.Pairwise _ (List.map _ _).toArray.toList
    exact zHe _ List.pairwise_lt_range
  . exact zDn g _
end STb
namespace STb
open PySem PySem.Spec PyProof.Rows L2
section
variable {prog:Program}{w:World}{A:Around}{E:Value->Shared->Prop}{s:Shared}
structure Brs (prog:Program)(w:World)(led:Bool)(S:Int->Bool)(n:Nat)(el:Array (Int×Value))(tb:SetTable):Prop where
 elm:ElemsOf (intKind prog w) el.toList
 mem:∀k,S k=true↔∃e∈el.toList,(intKind prog w).is k e.2=true
 few:el.size<scanBound
 fit:tb.fits el.size=true
 siz:el.size=n
 gt:GT led tb
noncomputable def zFM (prog:Program)(w:World)(led:Bool)(h:Heap)(a:Addr)(S:Int->Bool)(n:Nat):Prop:=
 ∃ob el ep tb,h.get? a=some ob/\ob.ExactSet/\ob.data = .set el ep tb/\Brs prog w led S n el tb
theorem zFM.keep {led:Bool}{h h':Heap}{a:Addr}{S:Int->Bool}{n:Nat}(x:zFM prog w led h a S n)(k:∀o,h.get? a=some o->h'.get? a=some o):zFM prog w led h' a S n:=
 let ⟨ob,el,ep,tb,g1,g2,g3,g4⟩:=x;⟨ob,el,ep,tb,k _ g1,g2,g3,g4⟩
theorem zFM.congr {led:Bool}{h:Heap}{a:Addr}{S S':Int->Bool}{n n':Nat}(x:zFM prog w led h a S n)(e:∀k,S' k=S k)(en:n'=n):zFM prog w led h a S' n':=by
 obtain⟨ob,el,ep,tb,g1,g2,g3,g4⟩:=x
 subst en
 exact⟨ob,el,ep,tb,g1,g2,g3,⟨g4.elm,fun k=>by rw[e k];exact g4.mem k,g4.few,g4.fit,g4.siz,g4.gt⟩⟩
theorem zKe {h:Heap}{a:Addr}{ob:Obj}{el:Array (Int×Value)}{ep:Nat}{tb:SetTable}(g1:h.get? a=some ob)(g3:ob.data = .set el ep tb)(el':Array (Int×Value))(tb':SetTable) :
 (h.update a (Obj.putSet el' tb')).get? a=some { ob with data:=.set el' (ep+1) tb' }:=by
 have q:=zi (Obj.putSet el' tb') g1 (by rw[putSet_of el' tb' g3];rfl)
 rwa [putSet_of el' tb' g3] at q
theorem zKY {led:Bool}{a:Addr}{ob:Obj}{el el1:Array (Int×Value)}{ep:Nat}{tb tb1:SetTable}{S:Int->Bool}{n:Nat}{wd:Bool}{R:Option Bool->Shared->Prop}{note:Bool->Sem Unit}
 (hn:∀(b:Bool)(s₁:Shared)(Q':Unit->Shared->Prop),Q' () s₁->wpAny (model prog w) A (note b) Q' E s₁)
 (g1:s.heap.get? a=some ob)(g2:ob.ExactSet)(g3:ob.data = .set el ep tb)(B:Brs prog w led S n el1 tb1)
 (q:∀h',Heap.SameBut a s.heap h'->zFM prog w led h' a S n->R (some true) { s with heap:=h' }) :
 wpAny (model prog w) A (storeSet a el1 tb1 >>= fun _=>if (!wd && tb1.tooFull)=true then (note (relayAll tb1 el1 (SetTable.grown el1.size)).2.2 >>= fun _=>storeSet a (relayAll tb1 el1 (SetTable.grown el1.size)).1 (relayAll tb1 el1 (SetTable.grown el1.size)).2.1 >>= fun _=>pure (some true)) else pure (some true)) R E s:=by
 refine zA (wpAny_storeSet_of g1 g3 ?_ (fits_of_scanBound B.few))
 have p1:=zKe g1 g3 el1 tb1
 have b1:=zAo s.heap a (Obj.putSet el1 tb1)
 by_cases c:(!wd && tb1.tooFull)=true
 . rw[if_pos c]
   have pm:=relayAll_perm tb1 el1 (SetTable.grown el1.size)
   have pf:=relayAll_fits tb1 el1 (SetTable.grown el1.size)
   have pg:=zKJ B.gt el1 (SetTable.grown el1.size)
   generalize relayAll tb1 el1 (SetTable.grown el1.size)=ra at pm pf pg ⊢
   obtain⟨el2,tb2,gv⟩:=ra
   dsimp only at pm pf pg ⊢
   have z:el2.size=el1.size:=by rw[<-Array.length_toList,pm.length_eq,Array.length_toList]
   refine zA (hn _ _ _ (zA (wpAny_storeSet_of p1 rfl ?_ (fits_of_scanBound (by rw[z];exact B.few)))))
   refine zB (q _ (b1.trans (zAo _ a _)) ⟨_,el2,_,tb2,zKe p1 rfl el2 tb2,g2,rfl,⟨B.elm.perm pm,fun k=>(B.mem k).trans ?_,by rw[z];exact B.few,pf,by rw[z];exact B.siz,pg⟩⟩)
   exact⟨fun ⟨e,he,u⟩=>⟨e,pm.mem_iff.mpr he,u⟩,fun ⟨e,he,u⟩=>⟨e,pm.mem_iff.mp he,u⟩⟩
 . rw[if_neg c]
   exact zB (q _ b1 ⟨_,el1,_,tb1,p1,g2,rfl,B⟩)
theorem add_g {led:Bool}{a:Addr}{S:Int->Bool}{n:Nat}{k:Int}{tk:Tok}{Q:Bool->Shared->Prop}(G:zFM prog w led s.heap a S n)(room:n+1<scanBound)
 (q:∀h',Heap.SameBut a s.heap h'->zFM prog w led h' a (fun j=>S j || decide (j=k)) (if S k then n else n+1)->Q (!S k) { s with heap:=h' }) :
 wpAny (model prog w) A (setAddHashed a (.int k tk) ((intKind prog w).hash k)) Q E s:=by
 have kk:(intKind prog w).is k (.int k tk)=true:=intKind_is _ _ _ _
 obtain⟨ob,el,ep,tb,g1,g2,g3,B⟩:=G
 unfold setAddHashed setAddHashedIn
 refine zq (zA (zBR g1 g3 B.fit ?_))
 dsimp only
 rw[byScan_of (knd:=intKind prog w) (x:=.int k tk) rfl B.few B.elm]
 rw[if_pos rfl]
 unfold setAddByScan
 refine zA (zA (zBu (zA (wpAny_setScan_of kk g1 g3 B.fit B.elm ?_))))
 cases fi:el.toList.findIdx? (fun e=>(intKind prog w).is k e.2) with
 | some j=>
  obtain⟨hj,hp,_⟩:=List.findIdx?_eq_some_iff_getElem.mp fi
  have yes:S k=true:=(B.mem k).mpr ⟨_,zAy hj,hp⟩
  refine zB (zB ?_)
  have r:=q s.heap (Heap.SameBut.refl a s.heap) ⟨ob,el,ep,tb,g1,g2,g3,⟨B.elm,fun i=>?_,B.few,B.fit,by rw[yes];exact B.siz,B.gt⟩⟩
  . rw[yes] at r
    exact r
  . rw[Bool.or_eq_true,decide_eq_true_eq,<-B.mem i]
    exact⟨fun z=>z.elim id fun e=>by rw[e];exact yes,.inl⟩
 | none=>
  have no:S k=false:=by
   cases hk:S k with
   | false=>rfl
   | true=>
    obtain⟨e,he,hp⟩:=(B.mem k).mp hk
    have:=List.findIdx?_eq_none_iff.mp fi e he
    rw[hp] at this
    cases this
  dsimp only
  have pm:=layNew_perm tb el ((intKind prog w).hash k) (.int k tk)
  have pf:=layNew_fits tb el ((intKind prog w).hash k) (.int k tk)
  have pg:=gt_lay B.gt el ((intKind prog w).hash k) (.int k tk)
  generalize layNew tb el ((intKind prog w).hash k) (.int k tk)=la at pm pf pg ⊢
  obtain⟨el1,tb1,wd,gv⟩:=la
  dsimp only at pm pf pg ⊢
  rw[Array.toList_push] at pm
  have z:el1.size=n+1:=by
   rw[<-Array.length_toList,pm.length_eq,zH,Array.length_toList,B.siz]
   rfl
  have B1:Brs prog w led (fun j=>S j || decide (j=k)) (n+1) el1 tb1:=⟨(B.elm.push kk rfl).perm pm,mem_push_iff kk B.mem pm,by rw[z];exact room,pf,z,pg⟩
  have fin:∀h',Heap.SameBut a s.heap h'->zFM prog w led h' a (fun j=>S j || decide (j=k)) (n+1)->Q true { s with heap:=h' }:=fun h' hs hG=>by
   have r:=q h' hs
   rw[no] at r
   exact r hG
  have nt:∀(b:Bool)(s₁:Shared)(Q':Unit->Shared->Prop),Q' () s₁->wpAny (model prog w) A (match b with | true=>rule "set.scan.the-table-gave-way" | false=>pure ()) Q' E s₁:=fun b s₁ Q' u=>by
   cases b
   . exact zB u
   . exact zBu u
  refine zA (nt gv _ _ ?_)
  by_cases c:tb1.plain=true
  . rw[if_pos c]
    refine zA (wpAny_of_eq (m':=pure true) rfl (zB ?_))
    rw[if_pos rfl]
    exact zKY nt g1 g2 g3 B1 fun h' hs hG=>zB (fin h' hs hG)
  . rw[if_neg c]
    refine zA (zB ?_)
    rw[if_pos rfl]
    exact zKY nt g1 g2 g3 B1 fun h' hs hG=>zB (fin h' hs hG)
end
end STb
namespace STb
open PySem PySem.Spec PyProof.Rows L2
theorem zCB:Slot "set_iterator" "__next__" "set_iterator.__next__" := .of (owner := "set_iterator") (n := "__next__") (by rw[typeLookup_type,builtinLookup_eq_fast];kernel_rfl) (by decide +kernel) (by decide +kernel) (by decide +kernel) (by first | exact .inl (by decide +kernel) | exact .inr (by decide +kernel)) (by rw[isSubtype_type];kernel_rfl)
theorem zIL:Slot "set_iterator" "__iter__" "set_iterator.__iter__" := .of (owner := "set_iterator") (n := "__iter__") (by rw[typeLookup_type,builtinLookup_eq_fast];kernel_rfl) (by decide +kernel) (by decide +kernel) (by decide +kernel) (by first | exact .inl (by decide +kernel) | exact .inr (by decide +kernel)) (by rw[isSubtype_type];kernel_rfl)
theorem zB9:entryFor table "set_iterator.__next__" = some Builtin.«set_iterator.__next__» := entryFor_of_tree (by kernel_rfl)
theorem zEv:entryFor table "set_iterator.__iter__" = some Builtin.«dict_keyiterator.__iter__» := entryFor_alias (id' := "dict_keyiterator.__iter__") (by kernel_rfl) (by first | rfl | decide +kernel) (by decide +kernel) (by kernel_rfl)
theorem zER:entryFor table "set.__iter__" = some Builtin.«frozenset.__iter__» := entryFor_alias (id' := "frozenset.__iter__") (by kernel_rfl) (by first | rfl | decide +kernel) (by decide +kernel) (by kernel_rfl)
theorem zGy:Manifest.owners.lookup (String.ofList ['r','o','t','a','r','e','t','i','_','t','e','s'].reverse)=some Manifest.sig_set_iterator:=by kernel_rfl
theorem zCI (a:Value):argsOk "set_iterator.__next__" ⟨[a],[]⟩:=by
 unfold argsOk
 rw[signature?_of (id := "set_iterator.__next__") (n:=['_','_','t','x','e','n','_','_']) (o:=['r','o','t','a','r','e','t','i','_','t','e','s']) (by kernel_rfl) zGy]
 kernel_rfl
theorem zFY (a:Value):argsOk "set_iterator.__iter__" ⟨[a],[]⟩:=by
 unfold argsOk
 rw[signature?_of (id := "set_iterator.__iter__") (n:=['_','_','r','e','t','i','_','_']) (o:=['r','o','t','a','r','e','t','i','_','t','e','s']) (by kernel_rfl) zGy]
 kernel_rfl
theorem zGh {α:Type}:∀{l:List α}{k:Nat}{x:α},l[k]? = some x->(x::l.eraseIdx k).Perm l
 | [],_,_,h=>by simp at h
 | _::_,0,_,h=>by simp at h;subst h;exact zB0 _
 | y::r,k+1,x,h=>by
  show (x::y::r.eraseIdx k).Perm (y::r)
  exact (List.Perm.swap y x _).trans ((zGh (by simpa using h)).cons y)
theorem zId {α:Type}(next:Nat->Nat):∀(fuel k:Nat)(left:List α)(out:Array α),left.length=fuel->(pickOrder.go next fuel k left out).toList.Perm (out.toList++left)
 | 0,k,left,out,h=>by
  have:left=[]:=zAJ.mp h
  subst this
  unfold pickOrder.go
  rw[zw]
 | fuel+1,k,left,out,h=>by
  unfold pickOrder.go
  have hl:next k%left.length<left.length:=Nat.mod_lt _ (by omega)
  have e:left[next k%left.length]? = some left[next k%left.length]:=zD hl
  rw[e]
  dsimp only
  refine (zId next fuel (k+1) _ _ (by rw[List.length_eraseIdx,if_pos hl];omega)).trans ?_
  rw[Array.toList_push,zBC]
  exact (zGh e).append_left _
theorem zFl {α:Type}(next:Nat->Nat)(xs:Array α):(pickOrder next xs).toList.Perm xs.toList:=by
 have:=zId next xs.size 0 xs.toList #[] (by simp)
 simpa [pickOrder] using this
section
variable {prog:Program}{w:World}{A:Around}{E:Value->Shared->Prop}
theorem ch_wp {src:Source}{n:Nat}{s:Shared}{Q:Nat->Shared->Prop}(hn:n≠0)(h:∀i d',i<n->Q i { s with drawn:=d' }):wpAny (model prog w) A (choose src n) Q E s:=
 fun _ _ _=>⟨hn,h _ _ (Nat.mod_lt _ (Nat.pos_of_ne_zero hn))⟩
theorem zJD {α:Type}:∀(k:Nat)(xs:List α)(s:Shared)(Q:List α->Shared->Prop),xs.length=k->(∀ys d',ys.Perm xs->Q ys { s with drawn:=d' })->wpAny (model prog w) A (drawOrder k xs) Q E s
 | 0,xs,s,Q,h,q=>by
  have:xs=[]:=zAJ.mp h
  subst this
  unfold drawOrder
  exact zB (q [] s.drawn (zB0 _))
 | k+1,[],s,Q,h,q=>by cases h
 | k+1,x::r,s,Q,h,q=>by
  unfold drawOrder
  refine zA (ch_wp (by simp) fun i d' hi=>?_)
  have e:(x::r)[i]? = some (x::r)[i]:=zD hi
  rw[e]
  dsimp only
  refine zA (zJD k _ _ _ (by rw[List.length_eraseIdx,if_pos hi];omega) fun ys d2 hp=>zB ?_)
  exact q _ d2 ((hp.cons _).trans (zGh e))
end
noncomputable def zEQ (h:Heap)(a:Addr)(el:Array (Int×Value))(ep:Nat)(tb:SetTable):Prop:=∃ob,h.get? a=some ob/\ob.ExactSet/\ob.data = .set el ep tb
theorem zEQ.keep {h h':Heap}{a:Addr}{el:Array (Int×Value)}{ep:Nat}{tb:SetTable}(x:zEQ h a el ep tb)(k:∀o,h.get? a=some o->h'.get? a=some o):zEQ h' a el ep tb:=let ⟨ob,g,r⟩:=x;⟨ob,k _ g,r⟩
theorem zEQ.typeIs {s:Shared}{a:Addr}{el:Array (Int×Value)}{ep:Nat}{tb:SetTable}(x:zEQ s.heap a el ep tb):s.TypeIs (.ref a) "set" := let ⟨ob,g,c,_⟩:=x;⟨ob,g,c.1⟩
theorem zEQ.lt {h:Heap}{a:Addr}{el:Array (Int×Value)}{ep:Nat}{tb:SetTable}(x:zEQ h a el ep tb):a<h.objs.size:=let ⟨_,g,_⟩:=x;zU g
noncomputable def SI (h:Heap)(I:Addr)(f:Value)(i n ep:Nat)(a:Addr):Prop:=∃o,h.get? I=some o/\o.cls = .type "set_iterator" /\ o.data = .fields #[f,.int i 0,.ref a,.int n 0,.int ep 0]
theorem SI.typeIs {s:Shared}{I:Addr}{f:Value}{i n ep:Nat}{a:Addr}(x:SI s.heap I f i n ep a):s.TypeIs (.ref I) "set_iterator" := let ⟨o,h,c,_⟩:=x;⟨o,h,c⟩
theorem SI.keep {h h':Heap}{I:Addr}{f:Value}{i n ep:Nat}{a:Addr}(x:SI h I f i n ep a)(k:∀o,h.get? I=some o->h'.get? I=some o):SI h' I f i n ep a:=let ⟨o,g,r⟩:=x;⟨o,k _ g,r⟩
section
variable {prog:Program}{w:World}{A:Around}{E:Value->Shared->Prop}{s:Shared}{a I:Addr}{el:Array (Int×Value)}{ep:Nat}{tb:SetTable}
noncomputable def zDi (f:Value)(n ep:Nat)(a:Addr):Obj:={ cls:=.type "set_iterator",data:=.fields #[f,.int 0 0,.ref a,.int n 0,.int ep 0] }
theorem zLl {Q:Value->Shared->Prop}(hm:zEQ s.heap a el ep tb)(hf:tb.fits el.size=true)
 (qa:(w.params.followText "set-order" = true\/tb.plain=true\/el.size<=1)->Q (.ref s.heap.objs.size) { s with heap:=s.heap.push (zDi (.int 0 0) el.size ep a) })
 (qb:∀(ys:List Nat)(d':Drawn),ys.Perm (List.range el.size)->Q (.ref (s.heap.push { cls:=.type "tuple",data:=.seq (ys.map fun (i:Nat)=>rawInt i).toArray }).objs.size) { s with heap:=(s.heap.push { cls:=.type "tuple",data:=.seq (ys.map fun (i:Nat)=>rawInt i).toArray }).push (zDi (.ref s.heap.objs.size) el.size ep a),drawn:=d' }) (hz:el.size<=100000) :
 wpAny (model prog w) A (pyIter (.ref a)) Q E s:=by
 obtain⟨ob,g1,g2,g3⟩:=id hm
 refine wpAny_pyIter_slot hm.typeIs F.slot_set_iter (zAO F.slot_set_iter hm.typeIs zER ?_ (F.args_set_iter_1 _))
 unfold Builtin.«frozenset.__iter__»
 refine zA ?_
 refine zA (zB (zB ?_))
 refine zA ?_
 unfold Builtin.Frozenset.sizeOf
 refine zA (wpAny_setEntries_of g1 g3 hf (zB ?_))
 unfold setDrawn setsByText
 refine zA (zA (zBR g1 g3 hf (zA (zA (wpAny_askSetting (zB (zB ?_)))))))
 show wpAny _ _ (if (!w.params.followText "set-order" && (!tb.plain && decide (el.size > 1)))=true then _ else _) _ _ s
 by_cases c:(!w.params.followText "set-order" && (!tb.plain && decide (el.size > 1)))=true
 . rw[if_pos c]
   refine zA (zJD _ _ _ _ (by rw[zAW]) fun ys d' hp=>zA ?_)
   unfold newTuple
   refine zAN ?_ ?_
   . unfold setEpoch
     refine zA (zA (zBR (zE _ g1) g3 hf (zB ?_)))
     refine zA (zAN (zB ⟨_,rfl, "set_iterator",_,⟨_,zK _ rfl,rfl⟩,zCB.lookup,?_⟩))
     exact qb ys d' hp
   . show (List.toArray _).size<=sizeLine
     rw[zS,zC,hp.length_eq,zAW]
     have:sizeLine=16777216:=rfl
     omega
 . rw[if_neg c]
   refine zA (zB ?_)
   unfold setEpoch
   refine zA (zA (zBR g1 g3 hf (zB ?_)))
   refine zA (zAN (zB ⟨_,rfl, "set_iterator",_,⟨_,zK _ rfl,rfl⟩,zCB.lookup,?_⟩))
   refine qa ?_
   by_cases c1:w.params.followText "set-order" = true
   . exact .inl c1
   . right
     by_cases c2:tb.plain=true
     . exact .inl c2
     . right
       by_cases c3:el.size<=1
       . exact c3
       . exact absurd (by simp[c1,c2];omega) c
theorem zIJ {slot given:Nat}{Q:Option (Value×Nat)->Shared->Prop}(hm:zEQ s.heap a el ep tb)(hf:tb.fits el.size=true)(ht:w.params.followText "set-order" = true)
 (q:Q (((pickOrder (w.params.setOrder a ep) el)[given]?).map fun e=>(e.2,slot)) s):wpAny (model prog w) A (setNext a slot given ep) Q E s:=by
 obtain⟨ob,g1,g2,g3⟩:=id hm
 unfold setNext setsByText
 refine zA (zBR g1 g3 hf (zA (zA (wpAny_askSetting (zB ?_)))))
 show wpAny _ _ (if w.params.followText "set-order" = true then _ else _) _ _ s
 rw[if_pos ht]
 show wpAny _ _ (if (ep != ep)=true then _ else _) _ _ s
 rw[if_neg (by simp)]
 unfold setWalk setsByText
 refine zA (zA (zBR g1 g3 hf (zA (zA (wpAny_askSetting (zB ?_))))))
 show wpAny _ _ (if w.params.followText "set-order" = true then _ else _) _ _ s
 rw[if_pos ht]
 refine zA (wpAny_askSetting (zB (zB q)))
theorem zGx {slot given i:Nat}{Q:Option (Value×Nat)->Shared->Prop}(hm:zEQ s.heap a el ep tb)(hf:tb.fits el.size=true)(ht:w.params.followText "set-order" = false) (hp:tb.plain=true\/el.size<=1)(hl:tb.led=true)(hi:SetTable.below tb.place slot=i)
 (q:Q (match el[i]?,tb.place[i]? with | some (_,x),some j=>some (x,j+1) | _,_=>none) s):wpAny (model prog w) A (setNext a slot given ep) Q E s:=by
 obtain⟨ob,g1,g2,g3⟩:=id hm
 unfold setNext setsByText
 refine zA (zBR g1 g3 hf (zA (zA (wpAny_askSetting (zB ?_)))))
 show wpAny _ _ (if w.params.followText "set-order" = true then _ else _) _ _ s
 rw[if_neg (by rw[ht];simp)]
 show wpAny _ _ (if (!tb.plain && decide (el.size > 1))=true then _ else _) _ _ s
 rw[if_neg (by rcases hp with z | z <;> simp[z])]
 show wpAny _ _ ((if (!tb.led && !el.isEmpty)=true then _ else _) >>= _) _ _ s
 rw[if_neg (by rw[hl];simp)]
 refine zA (zB ?_)
 dsimp only
 rw[hi]
 exact zB q
noncomputable def zJb (prog:Program)(w:World)(a:Addr)(slot i ep:Nat)(r:Option (Value×Nat))(s:Shared):Prop:=∀(A:Around)(E:Value->Shared->Prop)(Q:Option (Value×Nat)->Shared->Prop),Q r s->wpAny (model prog w) A (setNext a slot i ep) Q E s
theorem si_upd {h:Heap}{f f':Value}{i n:Nat}{o:Obj}(ho:h.get? I=some o)(hc:o.cls = .type "set_iterator") (hd:o.data = .fields #[f,.int i 0,.ref a,.int n 0,.int ep 0]) :
 SI ((h.update I (Obj.mapFields (·.setIfInBounds 0 f'))).update I (Obj.mapFields (·.setIfInBounds 1 (rawInt ((i:Int)+1))))) I f' (i+1) n ep a:=by
 have e1:(h.update I (Obj.mapFields (·.setIfInBounds 0 f'))).get? I=some (Obj.mapFields (·.setIfInBounds 0 f') o):=zi _ ho (Obj.isFreed_of_fields (Obj.data_mapFields hd _))
 have d1:=Obj.data_mapFields hd (·.setIfInBounds 0 f')
 refine⟨_,zi _ e1 (Obj.isFreed_of_fields (Obj.data_mapFields d1 _)),(Obj.cls_mapFields ..).trans ((Obj.cls_mapFields ..).trans hc),?_⟩
 rw[Obj.data_mapFields d1]
 simp[rawInt]
theorem si_up1 {h:Heap}{f:Value}{i n:Nat}{o:Obj}(ho:h.get? I=some o)(hc:o.cls = .type "set_iterator") (hd:o.data = .fields #[f,.int i 0,.ref a,.int n 0,.int ep 0]) :
 SI (h.update I (Obj.mapFields (·.setIfInBounds 1 (rawInt ((i:Int)+1))))) I f (i+1) n ep a:=by
 refine⟨_,zi _ ho (Obj.isFreed_of_fields (Obj.data_mapFields hd _)),(Obj.cls_mapFields ..).trans hc,?_⟩
 rw[Obj.data_mapFields hd]
 simp[rawInt]
theorem zKk {slot i nx:Nat}{x:Value}{Q:Option Value->Shared->Prop}(hit:SI s.heap I (.int slot 0) i el.size ep a)(hm:zEQ s.heap a el ep tb)(hf:tb.fits el.size=true)(hs:zJb prog w a slot i ep (some (x,nx)) s)
 (hQ:∀h',SI h' I (.int nx 0) (i+1) el.size ep a->Heap.SameBut I s.heap h'->Q (some x) { s with heap:=h' }):wpAny (model prog w) A (pyNext (.ref I)) Q E s:=by
 obtain⟨o,ho,hc,hd⟩:=id hit
 obtain⟨ob,g1,g2,g3⟩:=id hm
 unfold pyNext
 refine zA (wpAny_attempt (zAr (name:=Str.ofString "__next__") hit.typeIs zCB (zAO zCB hit.typeIs zB9 ?_ (zCI _))))
 unfold Builtin.«set_iterator.__next__»
 refine zA (zB ?_)
 refine zA (wpAny_fieldsOf ho hd ?_)
 refine zA (wpAny_setEntries_of g1 g3 hf ?_)
 rw[if_neg (by simp)]
 dsimp only
 rw[zAX,zAX,zAX]
 refine zA (hs _ _ _ ?_)
 dsimp only
 refine zA (zBt ho hd (by simp) ?_)
 have e1:(s.heap.update I (Obj.mapFields (·.setIfInBounds 0 (rawInt (nx:Int))))).get? I=some (Obj.mapFields (·.setIfInBounds 0 (rawInt (nx:Int))) o):=zi _ ho (Obj.isFreed_of_fields (Obj.data_mapFields hd _))
 refine zA (zBt e1 (Obj.data_mapFields hd _) (by simp) ?_)
 refine zB ⟨_,rfl,zB (hQ _ (si_upd ho hc hd) ((zAo ..).trans (zAo ..)))⟩
theorem zFW {h0:Heap}{Q:Option Value->Shared->Prop}(hh:A.handled=none)(hQ:∀h',(∀b o,h0.get? b=some o->h'.get? b=some o)->Q none { s with heap:=h' }){R:Fin->Shared->Prop} :
 wpAny (model prog w) A.in1 (newExc (.type "StopIteration") [] >>= fun e=>raiseNew (α:=Fin) e) R (fun e s'=>wpAny (model prog w) A (isInstance e (.type "StopIteration") >>= fun b=>if b=true then pure none else throw e) Q E s') { s with heap:=h0 }:=by
 refine zA ?_
 simp only[newExc,newTuple]
 refine zA (zAN ?_ (by size_fits))
 refine zA (m:=firstArgMember _ _) (wpAny_of_eq (m':=pure Value.none) (by first | rfl | (simp only[firstArgMember];rfl)) (zB ?_))
 refine zAN ?_ (by size_fits)
 simp only[raiseNew]
 refine zA (wpAny_handled ?_)
 rw[show A.in1.handled=none from hh]
 refine zA (zB (wpAny_throw ?_))
 refine zA (zBI (T := "StopIteration") (b:=true) ⟨_,zK _ rfl,rfl⟩ isSubtype_stop ?_)
 exact zB (hQ _ fun b o e=>zE _ (zE _ e))
theorem end_a {slot i:Nat}{Q:Option Value->Shared->Prop}(hh:A.handled=none)(hit:SI s.heap I (.int slot 0) i el.size ep a)(hm:zEQ s.heap a el ep tb)(hf:tb.fits el.size=true)(hs:zJb prog w a slot i ep none s)
 (hQ:∀h',(∀b o,b≠I->s.heap.get? b=some o->h'.get? b=some o)->Q none { s with heap:=h' }):wpAny (model prog w) A (pyNext (.ref I)) Q E s:=by
 obtain⟨o,ho,hc,hd⟩:=id hit
 obtain⟨ob,g1,g2,g3⟩:=id hm
 unfold pyNext
 refine zA (wpAny_attempt (zAr (name:=Str.ofString "__next__") hit.typeIs zCB (zAO zCB hit.typeIs zB9 ?_ (zCI _))))
 unfold Builtin.«set_iterator.__next__»
 refine zA (zB ?_)
 refine zA (wpAny_fieldsOf ho hd ?_)
 refine zA (wpAny_setEntries_of g1 g3 hf ?_)
 rw[if_neg (by simp)]
 dsimp only
 rw[zAX,zAX,zAX]
 refine zA (hs _ _ _ ?_)
 dsimp only
 refine zA (zBt ho hd (by simp) ?_)
 refine zFW hh fun h' k=>hQ h' fun b o' nb e=>k b o' ((zAo s.heap I _).extBut b o' nb e)
end
end STb
namespace STb
open PySem PySem.Spec PyProof.Rows L2
section
variable {prog:Program}{w:World}{A:Around}{E:Value->Shared->Prop}{s:Shared}{a I tp:Addr}{el:Array (Int×Value)}{ep:Nat}{tb:SetTable}
noncomputable def zGo (h:Heap)(tp:Addr)(ys:List Nat):Prop:=∃o n,h.get? tp=some o/\o.data = .seq (ys.map fun (i:Nat)=>rawInt i).toArray n
theorem zGo.keep {h h':Heap}{tp:Addr}{ys:List Nat}(x:zGo h tp ys)(k:∀o,h.get? tp=some o->h'.get? tp=some o):zGo h' tp ys:=let ⟨o,n,e,d⟩:=x;⟨o,n,k _ e,d⟩
theorem next_b {i y:Nat}{ys:List Nat}{e:Int×Value}{Q:Option Value->Shared->Prop}(hit:SI s.heap I (.ref tp) i el.size ep a)(hm:zEQ s.heap a el ep tb)(hf:tb.fits el.size=true)(ht:zGo s.heap tp ys)(hy:ys[i]? = some y)(he:el[y]? = some e)
 (hQ:∀h',SI h' I (.ref tp) (i+1) el.size ep a->Heap.SameBut I s.heap h'->Q (some e.2) { s with heap:=h' }):wpAny (model prog w) A (pyNext (.ref I)) Q E s:=by
 obtain⟨o,ho,hc,hd⟩:=id hit
 obtain⟨ob,g1,g2,g3⟩:=id hm
 obtain⟨ot,n,t1,t2⟩:=ht
 unfold pyNext
 refine zA (wpAny_attempt (zAr (name:=Str.ofString "__next__") hit.typeIs zCB (zAO zCB hit.typeIs zB9 ?_ (zCI _))))
 unfold Builtin.«set_iterator.__next__»
 refine zA (zB ?_)
 refine zA (wpAny_fieldsOf ho hd ?_)
 refine zA (wpAny_setEntries_of g1 g3 hf ?_)
 rw[if_neg (by simp)]
 refine zA (zAw t1 t2 ?_)
 dsimp only
 have ey:(ys.map fun (i:Nat)=>rawInt i).toArray[(i:Int).toNat]? = some (.int (y:Int) 0):=by
  rw[zAX,zy,zT,hy]
  rfl
 rw[ey]
 dsimp only
 rw[zAX,zAX]
 unfold setNextDrawn
 refine zA (zA (zBR g1 g3 hf ?_))
 show wpAny _ _ (if (ep != ep)=true then _ else _) _ _ s
 rw[if_neg (by simp)]
 obtain⟨e1,e2⟩:=e
 show wpAny _ _ (match el[y]? with | some (_,x)=>_ | _=>_) _ _ s
 rw[he]
 refine zB ?_
 refine zA (zBt ho hd (by simp) ?_)
 exact zB ⟨_,rfl,zB (hQ _ (si_up1 ho hc hd) (zAo ..))⟩
theorem end_b {i:Nat}{ys:List Nat}{Q:Option Value->Shared->Prop}(hh:A.handled=none)(hit:SI s.heap I (.ref tp) i el.size ep a)(hm:zEQ s.heap a el ep tb)(hf:tb.fits el.size=true)(ht:zGo s.heap tp ys)(hy:ys[i]? = none)
 (hQ:∀h',(∀b o,b≠I->s.heap.get? b=some o->h'.get? b=some o)->Q none { s with heap:=h' }):wpAny (model prog w) A (pyNext (.ref I)) Q E s:=by
 obtain⟨o,ho,hc,hd⟩:=id hit
 obtain⟨ob,g1,g2,g3⟩:=id hm
 obtain⟨ot,n,t1,t2⟩:=ht
 unfold pyNext
 refine zA (wpAny_attempt (zAr (name:=Str.ofString "__next__") hit.typeIs zCB (zAO zCB hit.typeIs zB9 ?_ (zCI _))))
 unfold Builtin.«set_iterator.__next__»
 refine zA (zB ?_)
 refine zA (wpAny_fieldsOf ho hd ?_)
 refine zA (wpAny_setEntries_of g1 g3 hf ?_)
 rw[if_neg (by simp)]
 refine zA (zAw t1 t2 ?_)
 dsimp only
 have ey:(ys.map fun (i:Nat)=>rawInt i).toArray[(i:Int).toNat]? = none:=by
  rw[zAX,zy,zT,hy]
  rfl
 rw[ey]
 dsimp only
 refine zA (zBt ho hd (by simp) ?_)
 have e1:(s.heap.update I (Obj.mapFields (·.setIfInBounds 0 (rawInt 0)))).get? I=some (Obj.mapFields (·.setIfInBounds 0 (rawInt 0)) o):=zi _ ho (Obj.isFreed_of_fields (Obj.data_mapFields hd _))
 refine zA (zBt e1 (Obj.data_mapFields hd _) (by simp) ?_)
 refine zFW hh fun h' k=>hQ h' fun b o' nb e=>k b o' ((zAo _ I _).extBut b o' nb ((zAo s.heap I _).extBut b o' nb e))
theorem zIO {f:Value}{i:Nat}{Q:Value->Shared->Prop}(hit:SI s.heap I f i el.size ep a)(h:Q (.ref I) s):wpAny (model prog w) A (pyIter (.ref I)) Q E s:=by
 refine wpAny_pyIter_slot hit.typeIs zIL (zAO zIL hit.typeIs zEv ?_ (zFY _))
 show wpAny _ _ (ret (.ref I)) _ _ s
 exact zB ⟨_,rfl, "set_iterator",_,hit.typeIs,zCB.lookup,h⟩
noncomputable def zHh (w:World)(a:Addr)(ep:Nat)(el:Array (Int×Value)):List (Int×Value):=if w.params.followText "set-order" = true then (pickOrder (w.params.setOrder a ep) el).toList else el.toList
theorem zD1:(zHh w a ep el).Perm el.toList:=by
 unfold zHh
 split
 . exact zFl _ _
 . exact zB0 _
theorem zIW {xs:Array Nat}(h:xs.size<=1):Ris xs:=by
 unfold Ris
 have hl:xs.toList.length<=1:=by simpa using h
 generalize xs.toList=l at hl
 cases l with
 | nil=>exact List.Pairwise.nil
 | cons x r=>cases r with
  | nil=>exact List.pairwise_singleton _ _
  | cons y r=>simp at hl
theorem walk_a (hh:A.handled=none)(hIa:a≠I)(hf:tb.fits el.size=true)(hc:w.params.followText "set-order" = true\/tb.plain=true\/el.size<=1) (gt:GT (!w.params.followText "set-order") tb) :
 Walks prog w A I [I,a] [I] el.size (fun i v=>∃e,(zHh w a ep el)[i]? = some e/\v=e.2) (fun i h=>∃slot:Nat,SI h I (.int slot 0) i el.size ep a/\zEQ h a el ep tb/\(w.params.followText "set-order" = false->SetTable.below tb.place slot=i)) where
 sub:=fun b hb=>by simp at hb;simp[hb]
 frame:=fun _ _ _ ⟨slot,h1,h2,h3⟩ hk=>⟨slot,h1.keep fun o e=>hk I (by simp) o e,h2.keep fun o e=>hk a (by simp) o e,h3⟩
 item:=fun i s Q E hi ⟨slot,h1,h2,h3⟩ hQ=>by
  have lo:i<(zHh w a ep el).length:=by rw[zD1.length_eq];simpa using hi
  cases ht:w.params.followText "set-order" with
  | true=>
   have ei:(pickOrder (w.params.setOrder a ep) el)[i]? = some (zHh w a ep el)[i]:=by
    rw[<-Array.getElem?_toList]
    have:(pickOrder (w.params.setOrder a ep) el).toList=zHh w a ep el:=by unfold zHh;rw[if_pos ht]
    rw[this]
    exact zD lo
   refine zKk (x:=(zHh w a ep el)[i].2) (nx:=slot) h1 h2 hf (fun A' E' Q' q=>zIJ h2 hf ht (by rw[ei];exact q)) fun h' st sb=>?_
   exact hQ _ h' s.toks ⟨_,zD lo,rfl⟩ ⟨slot,st,h2.keep fun o e=>sb.extBut a o hIa e,fun z=>by rw[ht] at z;cases z⟩ fun b o hb e=>sb.extBut b o (fun z=>hb (by simp[z])) e
  | false=>
   have hp:tb.plain=true\/el.size<=1:=hc.resolve_left (by rw[ht];simp)
   have ps:tb.place.size=el.size:=by
    simp only[SetTable.fits,zAz,beq_iff_eq] at hf
    exact hf.1
   have rs:Ris tb.place:=hp.elim gt.rs fun z=>zIW (by omega)
   have eo:zHh w a ep el=el.toList:=by unfold zHh;rw[if_neg (by rw[ht];simp)]
   have e1:el[i]? = some el[i]:=Array.getElem?_eq_getElem hi
   have e2:tb.place[i]? = some (tb.place[i]'(by omega)):=Array.getElem?_eq_getElem (by omega)
   refine zKk (x:=el[i].2) (nx:=tb.place[i]'(by omega)+1) h1 h2 hf (fun A' E' Q' q=>zGx (i:=i) h2 hf ht hp (by rw[gt.ld,ht];rfl) (h3 ht) (by rw[e1,e2];exact q)) fun h' st sb=>?_
   exact hQ _ h' s.toks ⟨el[i],by rw[eo,Array.getElem?_toList];exact e1,rfl⟩ ⟨_,st,h2.keep fun o e=>sb.extBut a o hIa e,fun _=>zHz rs e2⟩ fun b o hb e=>sb.extBut b o (fun z=>hb (by simp[z])) e
 done:=fun s Q E ⟨slot,h1,h2,h3⟩ hQ=>by
  cases ht:w.params.followText "set-order" with
  | true=>
   have ei:(pickOrder (w.params.setOrder a ep) el)[el.size]? = none:=by
    rw[<-Array.getElem?_toList]
    exact zAB (by rw[(zFl _ _).length_eq];simp)
   exact end_a hh h1 h2 hf (fun A' E' Q' q=>zIJ h2 hf ht (by rw[ei];exact q)) fun h' k=>hQ h' s.toks fun b o hb e=>k b o (fun z=>hb (by simp[z])) e
  | false=>
   have hp:tb.plain=true\/el.size<=1:=hc.resolve_left (by rw[ht];simp)
   exact end_a hh h1 h2 hf (fun A' E' Q' q=>zGx (i:=el.size) h2 hf ht hp (by rw[gt.ld,ht];rfl) (h3 ht) (by rw[Array.getElem?_eq_none (zG _)];exact q)) fun h' k=>hQ h' s.toks fun b o hb e=>k b o (fun z=>hb (by simp[z])) e
 self:=fun i s Q E ⟨slot,h1,_⟩ h=>zIO h1 h
theorem walk_b {ys:List Nat}(hh:A.handled=none)(hIa:a≠I)(hIt:tp≠I)(hf:tb.fits el.size=true)(hp:ys.Perm (List.range el.size)) :
 Walks prog w A I [I,a,tp] [I] el.size (fun i v=>∃y e,ys[i]? = some y/\el[y]? = some e/\v=e.2) (fun i h=>SI h I (.ref tp) i el.size ep a/\zEQ h a el ep tb/\zGo h tp ys) where
 sub:=fun b hb=>by simp at hb;simp[hb]
 frame:=fun _ _ _ ⟨h1,h2,h3⟩ hk=>⟨h1.keep fun o e=>hk I (by simp) o e,h2.keep fun o e=>hk a (by simp) o e,h3.keep fun o e=>hk tp (by simp) o e⟩
 item:=fun i s Q E hi ⟨h1,h2,h3⟩ hQ=>by
  have hl:ys.length=el.size:=by rw[hp.length_eq,zAW]
  have e1:ys[i]? = some ys[i]:=zD (by omega)
  have hy:ys[i]<el.size:=zBz.mp (hp.mem_iff.mp (zAy _))
  have e2:el[ys[i]]? = some el[ys[i]]:=Array.getElem?_eq_getElem hy
  refine next_b h1 h2 hf h3 e1 e2 fun h' st sb=>?_
  exact hQ _ h' s.toks ⟨_,_,e1,e2,rfl⟩ ⟨st,h2.keep fun o e=>sb.extBut a o hIa e,h3.keep fun o e=>sb.extBut tp o hIt e⟩ fun b o hb e=>sb.extBut b o (fun z=>hb (by simp[z])) e
 done:=fun s Q E ⟨h1,h2,h3⟩ hQ=>by
  have hl:ys.length=el.size:=by rw[hp.length_eq,zAW]
  exact end_b hh h1 h2 hf h3 (zAB (by omega)) fun h' k=>hQ h' s.toks fun b o hb e=>k b o (fun z=>hb (by simp[z])) e
 self:=fun i s Q E ⟨h1,_⟩ h=>zIO h1 h
end
end STb
namespace STb
open PySem PySem.Spec PyProof.Rows PySem.Calls L2
section
variable {prog:Program}{w:World}{A:Around}{E:Value->Shared->Prop}{s:Shared}{a:Addr}{el:Array (Int×Value)}{ep:Nat}{tb:SetTable}
theorem zHC {Q:Bool->Shared->Prop}(hT:s.TypeIs (.ref a) "set") (h:Q false s):wpAny (model prog w) A (Builtin.List.listLengthHint (.ref a)) Q E s:=by
 unfold Builtin.List.listLengthHint
 refine zA (wpAny_specialOf hT PySem.F.slot_set_len.lookup ?_)
 generalize hid:("set.__len__" : String)=id0
 wp_delta
 rw[show splitId id0=some ("set", "__len__") from by subst hid;decide +kernel]
 subst hid
 refine zA (zBI (T := "set") (b:=true) hT sub_set_self ?_)
 refine wpAny_ite_split (fun hab=>absurd hab (by decide)) (fun _=>?_)
 refine wpAny_ite_split (fun _=>zA (zBf hT (zB h))) (fun hab=>absurd (by decide +kernel) hab)
theorem zHD {I S:Addr}{fp:List Addr}{n:Nat}{P:Nat->Value->Prop}{St:Nat->Heap->Prop}{res:Value}{c:Nat}{R:Result->Shared->Prop}{s0:Shared}(W:Walks prog w A.in1 I fp [I] n P St)(hSf:S∉fp)(hn:n<=sizeLine)(hI:s0.heap.objs.size<=I)
 (k0:∀b o,b≠S->s0.heap.get? b=some o->s.heap.get? b=some o)(st:St 0 s.heap)(hS:s.heap.get? S=some { cls:=.type "list",data:=.seq #[] c })
 (q:∀(s':Shared)(acc:Array Value)(c':Nat),s'.gens=s.gens->s'.drawn=s.drawn->s'.os=s.os->(∀b o,b≠S->s0.heap.get? b=some o->s'.heap.get? b=some o)->s'.heap.get? S=some { cls:=.type "list",dict:=none,data:=.seq acc c',slots:=#[] }->ItemsOf P acc n->R (.ok (.ret res)) s') :
 codeAny (model prog w) A (.builtin "list.extend.loop" ⟨[.ref S,.ref I,res],[]⟩) R s:=by
 refine codeAny_extend_loopS W.toS hn S hSf res n 0 s #[] c rfl (zk _) st hS (ItemsOf.nil _) fun s' acc c' mv hS' ha=>?_
 refine q s' acc c' mv.gens mv.drawn mv.os (fun b o hb e=>mv.heap b o (fun z=>?_) (k0 b o hb e)) hS' ha
 rcases zW.mp z with z | z
 . exact hb z
 . have hlt:=zU e
   rw[zX.mp z] at hlt
   exact absurd (zo hlt hI) (zBM _)
noncomputable def Gath (el:Array (Int×Value))(acc:Array Value):Prop:=∃l:List (Int×Value),l.Perm el.toList/\acc.toList=l.map (·.2)
theorem zKp {acc:Array Value}(h:ItemsOf (fun i v=>∃e,(zHh w a ep el)[i]? = some e/\v=e.2) acc el.size):Gath el acc:=by
 refine⟨zHh w a ep el,zD1,?_⟩
 have hl:(zHh w a ep el).length=el.size:=by rw[zD1.length_eq];simp
 apply List.ext_getElem?
 intro j
 by_cases hj:j<el.size
 . have hz:j<acc.size:=by rw[h.1];exact hj
   obtain⟨e,he,hv⟩:=h.2 j acc[j] (by simp[hz])
   rw[Array.getElem?_toList,Array.getElem?_eq_getElem hz,hv,zT,he]
   rfl
 . rw[zAB (by rw[Array.length_toList,h.1];omega),zAB (by rw[zC];omega)]
theorem zHf {α:Type}{l:List α}{ys:List Nat}(h:ys.Perm (List.range l.length)):(ys.filterMap fun i=>l[i]?).Perm l:=by
 refine (h.filterMap _).trans ?_
 rw[List.filterMap_getElem?_range_length]
theorem zKo {ys:List Nat}{acc:Array Value}(hp:ys.Perm (List.range el.size))(h:ItemsOf (fun i v=>∃y e,ys[i]? = some y/\el[y]? = some e/\v=e.2) acc el.size):Gath el acc:=by
 have hl:ys.length=el.size:=by rw[hp.length_eq,zAW]
 refine⟨ys.map fun y=>el.toList.getD y (0,.none),?_,?_⟩
 . have e:(ys.map fun y=>el.toList.getD y (0,.none))=ys.filterMap fun i=>el.toList[i]?:=by
    rw[<-List.filterMap_eq_map]
    refine fm_eq fun y hy=>?_
    have hy':y<el.toList.length:=by have:=zBz.mp (hp.mem_iff.mp hy);simpa using this
    simp only[Function.comp]
    rw[zP,zD hy']
    rfl
   rw[e]
   exact zHf (by simpa using hp)
 . apply List.ext_getElem?
   intro j
   by_cases hj:j<el.size
   . have hz:j<acc.size:=by rw[h.1];exact hj
     obtain⟨y,e,h1,h2,hv⟩:=h.2 j acc[j] (by simp[hz])
     rw[Array.getElem?_toList,Array.getElem?_eq_getElem hz,hv,zT,zT,h1]
     show some e.2=some (el.toList.getD y (0,.none)).2
     rw[zP,Array.getElem?_toList,h2]
     rfl
   . rw[zAB (by rw[Array.length_toList,h.1];omega),zAB (by rw[zC,zC];omega)]
where
 fm_eq {α β:Type}{f g:α->Option β}:∀{l:List α},(∀m∈l,f m=g m)->l.filterMap f=l.filterMap g
  | [],_=>rfl
  | x::r,h=>by
   rw[zBr,zBr,h x zN,fm_eq fun m hm=>h m (zO _ hm)]
theorem zHa {S:Addr}{res:Value}{c:Nat}{R:Result->Shared->Prop}(hh:A.handled=none)(hm:zEQ s.heap a el ep tb)(hf:tb.fits el.size=true)(gt:GT (!w.params.followText "set-order") tb) (hz:el.size<=100000)(hSa:S≠a)
 (hS:s.heap.get? S=some { cls:=.type "list",data:=.seq #[] c })
 (q:∀(s':Shared)(acc:Array Value)(c':Nat),s'.gens=s.gens->s'.os=s.os->(∀b o,b≠S->s.heap.get? b=some o->s'.heap.get? b=some o)->s'.heap.get? S=some { cls:=.type "list",dict:=none,data:=.seq acc c',slots:=#[] }->Gath el acc->R (.ok (.ret res)) s') :
 wpAny (model prog w) A.in1 (Builtin.List.listExtendWith (.ref S) (.ref a) res)
  (fun fin s'=>match fin with | .done f=>R (.ok f) s' | .again c'=>c'.quiet=true/\codeAny (model prog w) A c' R s') (fun e s'=>R (.error e) s') s:=by
 have nS:el.size<=sizeLine:=by have:sizeLine=16777216:=rfl;omega
 unfold Builtin.List.listExtendWith
 refine zA (zBf (T := "set") hm.typeIs ?_)
 have h1:Builtin.List.listSameRef (.ref S) (.ref a)=false:=by simp[Builtin.List.listSameRef,hSa]
 have h2:(Value.type "set" == Value.type "list")=false:=by decide
 have h3:(Value.type "set" == Value.type "tuple")=false:=by decide
 simp only[h1,h2,h3,Bool.or_false,zBh,if_false]
 have nSI:∀I,s.heap.objs.size<=I->S≠I:=fun I h z=>absurd (zo (zU hS) h) (by rw[z];exact zBM _)
 have naI:∀I,s.heap.objs.size<=I->a≠I:=fun I h z=>absurd (zo hm.lt h) (by rw[z];exact zBM _)
 refine zA (zLl hm hf (fun hc=>?_) (fun ys d' hp=>?_) hz)
 . have W:=walk_a (prog:=prog) (w:=w) (A:=A.in1) (I:=s.heap.objs.size) (ep:=ep) hh (naI _ (zG _)) hf hc gt
   have nf:S∉[s.heap.objs.size,a]:=by simp only[zW,List.not_mem_nil,or_false,not_or];exact⟨nSI _ (zG _),hSa⟩
   have kp:∀b o,s.heap.get? b=some o->(s.heap.push (zDi (.int 0 0) el.size ep a)).get? b=some o:=fun b o e=>zE _ e
   have st0:∃slot:Nat,SI (s.heap.push (zDi (.int 0 0) el.size ep a)) s.heap.objs.size (.int slot 0) 0 el.size ep a/\zEQ (s.heap.push (zDi (.int 0 0) el.size ep a)) a el ep tb/\(w.params.followText "set-order" = false->SetTable.below tb.place slot=0):=by
    refine⟨0,⟨_,zK _ rfl,rfl,rfl⟩,hm.keep fun o e=>kp _ o e,fun ht=>zHy ?_⟩
    have ps:tb.place.size=el.size:=by
     simp only[SetTable.fits,zAz,beq_iff_eq] at hf
     exact hf.1
    exact (hc.resolve_left (by rw[ht];simp)).elim gt.rs fun z=>zIW (by omega)
   refine zA (zq (zHC (zEQ.typeIs (hm.keep fun o e=>kp _ o e)) ?_))
   refine wpAny_ite_split (fun _=>?_) (fun _=>?_)
   . refine zA (zBu (zA ?_))
     show wpAny _ _ (updateSeq S (·.push .none) >>= fun _=>updateSeq S (·.pop)) _ _ _
     refine zA (zAf (kp _ _ hS) rfl ?_)
     have hS2:=zi (Obj.mapSeq (·.push Value.none)) (kp _ _ hS) rfl
     refine zAf (hz:=by seq_fits) hS2 rfl ?_
     have hS3:=zi (Obj.mapSeq (·.pop)) hS2 rfl
     have up:∀b o,b≠S->(s.heap.push (zDi (.int 0 0) el.size ep a)).get? b=some o->(((s.heap.push (zDi (.int 0 0) el.size ep a)).update S (Obj.mapSeq (·.push Value.none))).update S (Obj.mapSeq (·.pop))).get? b=some o:=fun b o hb e=>(zAi _ _ (Ne.symm hb)).trans ((zAi _ _ (Ne.symm hb)).trans e)
     refine zB ⟨plainId_quiet PySem.F.plain_extend_loop _,zHD W nf nS (zG _) (fun b o hb e=>up b o hb (kp b o e)) (W.frame 0 _ _ st0 fun b hb o e=>up b o (fun z=>nf (z ▸ hb)) e) hS3 fun s' acc c' e1 _ e3 k hS' ha=>q s' acc c' e1 e3 k hS' (zKp ha)⟩
   . exact zB ⟨plainId_quiet PySem.F.plain_extend_loop _,zHD W nf nS (zG _) (fun b o _ e=>kp b o e) st0 (kp _ _ hS) fun s' acc c' e1 _ e3 k hS' ha=>q s' acc c' e1 e3 k hS' (zKp ha)⟩
 . have hT:(s.heap.push { cls:=.type "tuple",data:=.seq (ys.map fun (i:Nat)=>rawInt i).toArray }).objs.size=s.heap.objs.size+1:=zAg ..
   have hI:s.heap.objs.size<=(s.heap.push { cls:=.type "tuple",data:=.seq (ys.map fun (i:Nat)=>rawInt i).toArray }).objs.size:=by rw[hT];exact zBA _
   have ntI:s.heap.objs.size≠(s.heap.push { cls:=.type "tuple",data:=.seq (ys.map fun (i:Nat)=>rawInt i).toArray }).objs.size:=by rw[hT];exact zf (Nat.lt_succ_self _)
   have W:=walk_b (prog:=prog) (w:=w) (A:=A.in1) (I:=(s.heap.push { cls:=.type "tuple",data:=.seq (ys.map fun (i:Nat)=>rawInt i).toArray }).objs.size) (tp:=s.heap.objs.size) (tb:=tb) (ep:=ep) hh (naI _ hI) ntI hf hp
   have nf:S∉[(s.heap.push { cls:=.type "tuple",data:=.seq (ys.map fun (i:Nat)=>rawInt i).toArray }).objs.size,a,s.heap.objs.size]:=by
    simp only[zW,List.not_mem_nil,or_false,not_or]
    exact⟨nSI _ hI,hSa,nSI _ (zG _)⟩
   have kp:∀b o,s.heap.get? b=some o->((s.heap.push { cls:=.type "tuple",data:=.seq (ys.map fun (i:Nat)=>rawInt i).toArray }).push (zDi (.ref s.heap.objs.size) el.size ep a)).get? b=some o:=fun b o e=>zE _ (zE _ e)
   have st0:SI ((s.heap.push { cls:=.type "tuple",data:=.seq (ys.map fun (i:Nat)=>rawInt i).toArray }).push (zDi (.ref s.heap.objs.size) el.size ep a)) (s.heap.push { cls:=.type "tuple",data:=.seq (ys.map fun (i:Nat)=>rawInt i).toArray }).objs.size (.ref s.heap.objs.size) 0 el.size ep a/\zEQ ((s.heap.push { cls:=.type "tuple",data:=.seq (ys.map fun (i:Nat)=>rawInt i).toArray }).push (zDi (.ref s.heap.objs.size) el.size ep a)) a el ep tb/\zGo ((s.heap.push { cls:=.type "tuple",data:=.seq (ys.map fun (i:Nat)=>rawInt i).toArray }).push (zDi (.ref s.heap.objs.size) el.size ep a)) s.heap.objs.size ys:=
    ⟨⟨_,zK _ rfl,rfl,rfl⟩,hm.keep fun o e=>kp _ o e,⟨_,_,zE _ (zK _ rfl),rfl⟩⟩
   generalize (s.heap.push { cls:=.type "tuple",data:=.seq (ys.map fun (i:Nat)=>rawInt i).toArray }).objs.size=I0 at hT hI ntI W nf st0 kp ⊢
   generalize (s.heap.push { cls:=.type "tuple",data:=.seq (ys.map fun (i:Nat)=>rawInt i).toArray }).push (zDi (.ref s.heap.objs.size) el.size ep a)=h0 at st0 kp ⊢
   refine zA (zq (zHC (zEQ.typeIs (hm.keep fun o e=>kp _ o e)) ?_))
   refine wpAny_ite_split (fun _=>?_) (fun _=>?_)
   . refine zA (zBu (zA ?_))
     show wpAny _ _ (updateSeq S (·.push .none) >>= fun _=>updateSeq S (·.pop)) _ _ _
     refine zA (zAf (kp _ _ hS) rfl ?_)
     have hS2:=zi (Obj.mapSeq (·.push Value.none)) (kp _ _ hS) rfl
     refine zAf (hz:=by seq_fits) hS2 rfl ?_
     have hS3:=zi (Obj.mapSeq (·.pop)) hS2 rfl
     have up:∀b o,b≠S->h0.get? b=some o->((h0.update S (Obj.mapSeq (·.push Value.none))).update S (Obj.mapSeq (·.pop))).get? b=some o:=fun b o hb e=>(zAi _ _ (Ne.symm hb)).trans ((zAi _ _ (Ne.symm hb)).trans e)
     refine zB ⟨plainId_quiet PySem.F.plain_extend_loop _,zHD (s0:=s) W nf nS hI (fun b o hb e=>up b o hb (kp b o e)) (W.frame 0 _ _ st0 fun b hb o e=>up b o (fun z=>nf (z ▸ hb)) e) hS3 fun s' acc c' e1 _ e3 k hS' ha=>q s' acc c' e1 e3 k hS' (zKo hp ha)⟩
   . exact zB ⟨plainId_quiet PySem.F.plain_extend_loop _,zHD (s0:=s) W nf nS hI (fun b o _ e=>kp b o e) st0 (kp _ _ hS) fun s' acc c' e1 _ e3 k hS' ha=>q s' acc c' e1 e3 k hS' (zKo hp ha)⟩
theorem zGO {R:List Value->Shared->Prop}(hh:A.handled=none)(hm:zEQ s.heap a el ep tb)(hf:tb.fits el.size=true)(gt:GT (!w.params.followText "set-order") tb) (hz:el.size<=100000)
 (q:∀(s':Shared)(acc:Array Value),s'.gens=s.gens->s'.os=s.os->(∀b o,s.heap.get? b=some o->s'.heap.get? b=some o)->Gath el acc->R acc.toList s'):wpAny (model prog w) A (collect (.ref a)) R E s:=by
 unfold collect
 refine zA (wpAny_runValue (codeAny_builtin entry_proto_collect' ?_))
 rw[Around.under_plainId PySem.F.plain_proto_collect _]
 refine zA (m:=newList []) (zAN ?_)
 refine zB ⟨plainId_quiet PySem.F.plain_list_iadd _,codeAny_builtin entry_list_iadd' ?_⟩
 rw[Around.under_plainId PySem.F.plain_list_iadd _]
 have hS:(s.heap.push { cls:=.type "list",data:=.seq ([]:List Value).toArray }).get? s.heap.objs.size=some { cls:=.type "list",data:=.seq #[] }:=zK _ rfl
 show wpAny _ A.in1 (Builtin.List.listExtendWith (.ref s.heap.objs.size) (.ref a) (.ref s.heap.objs.size)) _ _ _
 have key:=zHa (prog:=prog) (w:=w) (A:=A) (s:={ s with heap:=s.heap.push { cls:=.type "list",data:=.seq ([]:List Value).toArray } }) (res:=.ref s.heap.objs.size)
  (R:=fun (u:Result)(s':Shared)=>∃(acc:Array Value)(c':Nat),u = .ok (.ret (.ref s.heap.objs.size))/\s'.gens=s.gens/\s'.os=s.os/\(∀b o,s.heap.get? b=some o->s'.heap.get? b=some o)/\s'.heap.get? s.heap.objs.size=some { cls:=.type "list",dict:=none,data:=.seq acc c',slots:=#[] }/\Gath el acc)
  hh (hm.keep fun o e=>zE _ e) hf gt hz (Nat.ne_of_gt hm.lt) hS (fun s' acc c' e1 e2 k hS' g=>⟨acc,c',rfl,e1,e2,fun b o e=>k b o (zf (zU e)) (zE _ e),hS',g⟩)
 refine zAM key (fun fin s' x=>?_) fun e s' x=>?_
 . cases fin with
   | done f=>
    obtain⟨acc,c',e,e1,e2,k,hS',g⟩:=x
    cases e
    exact zA (wpAny_load hS' (zB (q s' acc e1 e2 k g)))
   | again c1=>
    refine⟨x.1,codeAny_mono x.2 fun u s2 y=>?_⟩
    obtain⟨acc,c',rfl,e1,e2,k,hS',g⟩:=y
    exact zA (wpAny_load hS' (zB (q s2 acc e1 e2 k g)))
 . obtain⟨_,_,e',_⟩:=x
   cases e'
end
end STb
namespace STb
open PySem PySem.Spec PyProof.Rows L2
section
variable {prog:Program}{w:World}{A:Around}{E:Value->Shared->Prop}{s:Shared}
theorem zKl {I S:Addr}{fp:List Addr}{n:Nat}{P:Nat->Value->Prop}{St:Nat->Heap->Prop}{led:Bool}{R:Result->Shared->Prop}(W:Walks prog w A.in1 I fp [I] n P St)(hSf:S∉fp)(hSI:S≠I)(val:Nat->Int)(hv:∀i v,P i v->∃t,v = .int (val i) t)(hb:n+1<scanBound) :
 ∀(k i:Nat)(s:Shared),n-i=k->i<=n->St i s.heap->zFM prog w led s.heap S (fun z=>(firstMet val i).any fun x=>x==z) (firstMet val i).length ->
  (∀s':Shared,s'.gens=s.gens->s'.drawn=s.drawn->s'.os=s.os->(∀b o,b≠S->b≠I->s.heap.get? b=some o->s'.heap.get? b=some o)->zFM prog w led s'.heap S (fun z=>(firstMet val n).any fun x=>x==z) (firstMet val n).length->R (.ok (.ret .none)) s') ->
  codeAny (model prog w) A (.builtin "set.update.loop" ⟨[.ref S,.ref I],[]⟩) R s:=by
 intro k
 induction k with
 | zero=>
  intro i s hk hi st G q
  obtain rfl:i=n:=by omega
  refine codeAny_builtin PyProof.Rows.F.entry_set_update_loop ?_
  rw[Around.under_plainId PyProof.Rows.F.plain_set_update_loop _]
  refine zA (m:=pyNext (.ref I)) (W.done s _ _ st fun h' tk kp=>?_)
  refine zB (q _ rfl rfl rfl (fun b o _ hbI e=>kp b o (fun z=>hbI (by simpa using z)) e) (G.keep fun o e=>kp S o (fun z=>hSI (by simpa using z)) e))
 | succ k ih=>
  intro i s hk hi st G q
  have hlt:i<n:=by omega
  refine codeAny_builtin PyProof.Rows.F.entry_set_update_loop ?_
  rw[Around.under_plainId PyProof.Rows.F.plain_set_update_loop _]
  refine zA (m:=pyNext (.ref I)) (W.item i s _ _ hlt st fun v h' tk hP st' kp=>?_)
  obtain⟨t,rfl⟩:=hv i v hP
  have G':zFM prog w led h' S (fun z=>(firstMet val i).any fun x=>x==z) (firstMet val i).length:=G.keep fun o e=>kp S o (fun z=>hSI (by simpa using z)) e
  refine zA (m:=holding [Value.int (val i) t] (setAdd S (.int (val i) t))) (zq ?_)
  unfold setAdd
  refine zq (zA ((intKind prog w).pyHash (k:=val i) (intKind_is _ _ _ _) ?_))
  refine add_g (s:={ s with heap:=h',toks:=tk+1 }) G' (by have:=firstMet_length_le val i;omega) fun h2 sb G2=>?_
  have Gi:zFM prog w led h2 S (fun z=>(firstMet val (i+1)).any fun x=>x==z) (firstMet val (i+1)).length:=G2.congr (fun z=>by rw[firstMet_succ,step_any]) (by rw[firstMet_succ,step_length])
  refine zB ⟨plainId_quiet PyProof.Rows.F.plain_set_update_loop _,ih (i+1) _ (by omega) hlt (W.frame _ _ _ st' fun b hb o e=>(sb.2 b fun z=>hSf (z ▸ hb)).trans e) Gi fun s'' e1 e2 e3 kp2 G3=>?_⟩
  exact q s'' e1 e2 e3 (fun b o hbS hbI e=>kp2 b o hbS hbI ((sb.2 b hbS).trans (kp b o (fun z=>hbI (by simpa using z)) e))) G3
noncomputable def zB1 (w:World):Obj:={ cls:=.type "set",dict:=none,data:=.set #[] 0 (.fresh 0 0 (!w.params.followText "set-order")) }
theorem zFa (h:Heap):zFM prog w (!w.params.followText "set-order") (h.push (zB1 w)) h.objs.size (fun _=>false) 0:=
 ⟨_,#[],0,_,zK _ rfl,⟨rfl,rfl,rfl⟩,rfl,⟨fun e he=>by simp at he,fun k=>by simp,by decide,by rfl,rfl,zKK _⟩⟩
theorem new_g (a:Value){Q₁:Value->Shared->Prop}(h:Q₁ (.ref s.heap.objs.size) { s with heap:=s.heap.push (zB1 w) }):codeAny (model prog w) A (.call (.builtin "set.__new__") ⟨[.type "set",a],[]⟩) (wants Q₁ E) s:=by
 refine codeAny_of_tree (zA (m:=checkBuiltinCall "set.__new__" ⟨[.type "set",a],[]⟩) (wpAny_of_eq (PySem.F.newCall_set_1 a) (zB ⟨plainId_quiet PySem.F.plain_set_new _,codeAny_builtin PySem.F.entry_set_new ?_⟩)))
 rw[Around.under_plainId PySem.F.plain_set_new _]
 unfold Builtin.«set.__new__» Builtin.Frozenset.newClass
 have sub:=sub_set_self
 obtain⟨hp,g,d,tk,os⟩:=s
 dsimp only
 wp_walk
 refine wpAny_askSetting (zB ?_)
 dsimp only
 simp only[newObj]
 exact zA (wpAny_alloc (zB (zB h)))
theorem zLf {l:Addr}{its:List Value}{ns:List Int}{Q:Value->Shared->Prop}(hA:A.handled=none)(hl:s.heap.IsList l its.toArray)(hi:IntsAre its ns)(hz:its.length+1<scanBound)
 (q:∀(h:Heap)(tk:Nat),(∀b o,s.heap.get? b=some o->h.get? b=some o)->zFM prog w (!w.params.followText "set-order") h s.heap.objs.size (fun z=>(firstMet (fun i=>ns.getD i 0) its.length).any fun x=>x==z) (firstMet (fun i=>ns.getD i 0) its.length).length->Q (.ref s.heap.objs.size) { s with heap:=h,toks:=tk }) :
 wpAny (model prog w) A (call (.type "set") [.ref l]) Q E s:=by
 refine zBS (codeAny_of_tree (zB ⟨Code.quiet_builtin _ (by decide +kernel),codeAny_builtin PySem.F.entry_type_call ?_⟩))
 unfold Builtin.«type.__call__»
 dsimp only
 rw[if_neg (by rw[PySem.F.called_set.notType];decide)]
 rw[if_neg (by rw[PySem.F.called_set.canCreate];decide)]
 obtain⟨c,tl,hm⟩:=PySem.F.called_set.mro
 refine zA (wpAny_of_eq (PySem.F.typeCall_set_1 _) (zB (zA (wpAny_of_eq hm (zB ?_)))))
 refine zA (wpAny_of_eq PySem.F.called_set.made (zB (zA (zB ?_))))
 refine zA (zq (zBS (codeAny_mono (new_g (E:=E) (.ref l) (Q₁:=fun obj s₁=>obj = .ref s.heap.objs.size/\s₁={ s with heap:=s.heap.push (zB1 w) }) ⟨rfl,rfl⟩) fun r s₁ e=>?_)))
 match r,e with
 | .ok (.ret obj),e=>
  obtain⟨rfl,rfl⟩:=e
  have h0:∀b o,s.heap.get? b=some o->(s.heap.push (zB1 w)).get? b=some o:=fun b o e=>zE _ e
  have ht:∀h:Heap,(∀b o,s.heap.get? b=some o->h.get? b=some o)->h.IsList l its.toArray:=fun h K=>by
   obtain⟨o,ho,hr⟩:=hl
   exact⟨o,K _ _ ho,hr⟩
  have hlt:l<s.heap.objs.size:=by
   obtain⟨o,ho,_⟩:=hl
   exact zU ho
  have tyS:Shared.TypeIs { s with heap:=s.heap.push (zB1 w) } (.ref s.heap.objs.size) "set" := ⟨_,zK _ rfl,rfl⟩
  show wpAny _ _ _ _ _ _
  refine zA (zBI tyS PySem.F.called_set.sub ?_)
  refine zA (zq ?_)
  unfold callSpecial?
  refine zA (wpAny_specialOf tyS PySem.F.called_set.init.lookup (zq (zA (wpAny_of_eq (PySem.F.called_set.init.bind _) (zB (zA (zBS (codeAny_call_builtin PySem.F.called_set.init.plain PySem.F.entry_set_init (check_set_init_1 tyS ?_)))))))))
  unfold Builtin.«set.__init__»
  refine zA (wpAny_of_eq (m':=pure ()) rfl (zB ?_))
  dsimp only
  refine zA (zA (zA (zBf tyS (wpAny_of_eq (m':=pure (Value.type "set")) rfl (zB (wpAny_of_eq (m':=pure "set") rfl (zB ?_)))))))
  refine zA (wpAny_of_eq (m':=pure ()) rfl (zB (zA (zB ?_))))
  refine zA (zA (zA (wpAny_load (zK _ rfl) ?_)))
  refine wpAny_of_eq (m':=pure (#[],0,SetTable.fresh 0 0 (!w.params.followText "set-order"))) (by unfold zB1;cases w.params.followText "set-order" <;> rfl) (zB (wpAny_of_eq (m':=pure false) (by cases w.params.followText "set-order" <;> rfl) (zB ?_)))
  have tyT:∀h tk,(∀b o,s.heap.get? b=some o->h.get? b=some o)->Shared.TypeIs { s with heap:=h,toks:=tk } (.ref l) "list" := fun h tk K=>by
   obtain⟨o,ho,hr⟩:=ht h K
   exact⟨o,ho,hr.1⟩
  show wpAny _ _ (Builtin.Frozenset.updateFrom "set.__init__" s.heap.objs.size (.ref l) >>= _) _ _ _
  unfold Builtin.Frozenset.updateFrom
  refine zA (zA (zA (zBI (tyT _ _ h0) PySem.F.sub_list_set (zBI (tyT _ _ h0) (b:=false) PySem.F.sub_list_frozenset ?_))))
  refine zA (zBf (tyT _ _ h0) ?_)
  refine zA (wpAny_pyIter_list (ht _ h0) (zA (wpAny_runValue ?_)))
  have hsz:(s.heap.push (zB1 w)).objs.size=s.heap.objs.size+1:=zAg ..
  have nli:l≠(s.heap.push (zB1 w)).objs.size:=zf (by rw[hsz];exact zA1 hlt)
  have nsi:s.heap.objs.size≠(s.heap.push (zB1 w)).objs.size:=by rw[hsz];exact zf (Nat.lt_succ_self _)
  refine zKl (led:=!w.params.followText "set-order") (Walks.list (prog:=prog) (w:=w) (A:=(A.under (Code.builtin "type.__call__" { pos:=[.type "set",.ref l] })).in1.in1) hA (s.heap.push (zB1 w)).objs.size l nli its.toArray) ?_ nsi (fun i=>ns.getD i 0) ?_ (by simpa using hz) its.toArray.size 0 _ rfl (zk _) ?_ ?_ ?_
  . intro z
    rcases zW.mp z with z | z
    . exact nsi z
    . exact absurd (zX.mp z) (Nat.ne_of_gt hlt)
  . intro i v hv
    rw[zy] at hv
    exact hi.int_at i v hv
  . exact⟨⟨_,zK _ rfl,rfl,rfl⟩,ht _ fun b o e=>zE _ (h0 b o e)⟩
  . exact (zFa (prog:=prog) (w:=w) s.heap).keep fun o e=>zE _ e
  . intro s' e1 e2 e3 kp so
    refine zB (zB (zB (zB ?_)))
    obtain⟨h',g',d',t',o'⟩:=s'
    cases e1
    cases e2
    cases e3
    refine q h' t' (fun b o e=>kp b o (zf (zU e)) (fun z=>?_) (zE _ (h0 b o e))) (by simpa using so)
    have hb:b<s.heap.objs.size:=zU e
    rw[z,hsz] at hb
    exact absurd hb (Nat.not_lt.mpr (zBA _))
 | .ok .next,e=>exact e.elim
 | .ok .brk,e=>exact e.elim
 | .ok .cont,e=>exact e.elim
 | .error v,e=>exact e
theorem mk_tup {l:Addr}{its:List Value}{ns:List Int}{Q:Value->Shared->Prop}(hA:A.handled=none)(hl:s.heap.IsTuple l its.toArray)(hi:IntsAre its ns)(hz:its.length+1<scanBound)
 (q:∀(h:Heap)(tk:Nat),(∀b o,s.heap.get? b=some o->h.get? b=some o)->zFM prog w (!w.params.followText "set-order") h s.heap.objs.size (fun z=>(firstMet (fun i=>ns.getD i 0) its.length).any fun x=>x==z) (firstMet (fun i=>ns.getD i 0) its.length).length->Q (.ref s.heap.objs.size) { s with heap:=h,toks:=tk }) :
 wpAny (model prog w) A (call (.type "set") [.ref l]) Q E s:=by
 refine zBS (codeAny_of_tree (zB ⟨Code.quiet_builtin _ (by decide +kernel),codeAny_builtin PySem.F.entry_type_call ?_⟩))
 unfold Builtin.«type.__call__»
 dsimp only
 rw[if_neg (by rw[PySem.F.called_set.notType];decide)]
 rw[if_neg (by rw[PySem.F.called_set.canCreate];decide)]
 obtain⟨c,tl,hm⟩:=PySem.F.called_set.mro
 refine zA (wpAny_of_eq (PySem.F.typeCall_set_1 _) (zB (zA (wpAny_of_eq hm (zB ?_)))))
 refine zA (wpAny_of_eq PySem.F.called_set.made (zB (zA (zB ?_))))
 refine zA (zq (zBS (codeAny_mono (new_g (E:=E) (.ref l) (Q₁:=fun obj s₁=>obj = .ref s.heap.objs.size/\s₁={ s with heap:=s.heap.push (zB1 w) }) ⟨rfl,rfl⟩) fun r s₁ e=>?_)))
 match r,e with
 | .ok (.ret obj),e=>
  obtain⟨rfl,rfl⟩:=e
  have h0:∀b o,s.heap.get? b=some o->(s.heap.push (zB1 w)).get? b=some o:=fun b o e=>zE _ e
  have ht:∀h:Heap,(∀b o,s.heap.get? b=some o->h.get? b=some o)->h.IsTuple l its.toArray:=fun h K=>by
   obtain⟨o,ho,hr⟩:=hl
   exact⟨o,K _ _ ho,hr⟩
  have hlt:l<s.heap.objs.size:=by
   obtain⟨o,ho,_⟩:=hl
   exact zU ho
  have tyS:Shared.TypeIs { s with heap:=s.heap.push (zB1 w) } (.ref s.heap.objs.size) "set" := ⟨_,zK _ rfl,rfl⟩
  show wpAny _ _ _ _ _ _
  refine zA (zBI tyS PySem.F.called_set.sub ?_)
  refine zA (zq ?_)
  unfold callSpecial?
  refine zA (wpAny_specialOf tyS PySem.F.called_set.init.lookup (zq (zA (wpAny_of_eq (PySem.F.called_set.init.bind _) (zB (zA (zBS (codeAny_call_builtin PySem.F.called_set.init.plain PySem.F.entry_set_init (check_set_init_1 tyS ?_)))))))))
  unfold Builtin.«set.__init__»
  refine zA (wpAny_of_eq (m':=pure ()) rfl (zB ?_))
  dsimp only
  refine zA (zA (zA (zBf tyS (wpAny_of_eq (m':=pure (Value.type "set")) rfl (zB (wpAny_of_eq (m':=pure "set") rfl (zB ?_)))))))
  refine zA (wpAny_of_eq (m':=pure ()) rfl (zB (zA (zB ?_))))
  refine zA (zA (zA (wpAny_load (zK _ rfl) ?_)))
  refine wpAny_of_eq (m':=pure (#[],0,SetTable.fresh 0 0 (!w.params.followText "set-order"))) (by unfold zB1;cases w.params.followText "set-order" <;> rfl) (zB (wpAny_of_eq (m':=pure false) (by cases w.params.followText "set-order" <;> rfl) (zB ?_)))
  have tyT:∀h tk,(∀b o,s.heap.get? b=some o->h.get? b=some o)->Shared.TypeIs { s with heap:=h,toks:=tk } (.ref l) "tuple" := fun h tk K=>by
   obtain⟨o,ho,hr⟩:=ht h K
   exact⟨o,ho,hr.1⟩
  show wpAny _ _ (Builtin.Frozenset.updateFrom "set.__init__" s.heap.objs.size (.ref l) >>= _) _ _ _
  unfold Builtin.Frozenset.updateFrom
  refine zA (zA (zA (zBI (tyT _ _ h0) PySem.F.sub_tuple_set (zBI (tyT _ _ h0) (b:=false) rfl ?_))))
  refine zA (zBf (tyT _ _ h0) ?_)
  refine zA (wpAny_pyIter_tuple (ht _ h0) (zA (wpAny_runValue ?_)))
  have hsz:(s.heap.push (zB1 w)).objs.size=s.heap.objs.size+1:=zAg ..
  have nli:l≠(s.heap.push (zB1 w)).objs.size:=zf (by rw[hsz];exact zA1 hlt)
  have nsi:s.heap.objs.size≠(s.heap.push (zB1 w)).objs.size:=by rw[hsz];exact zf (Nat.lt_succ_self _)
  refine zKl (led:=!w.params.followText "set-order") (Walks.tuple (prog:=prog) (w:=w) (A:=(A.under (Code.builtin "type.__call__" { pos:=[.type "set",.ref l] })).in1.in1) hA (s.heap.push (zB1 w)).objs.size l nli its.toArray) ?_ nsi (fun i=>ns.getD i 0) ?_ (by simpa using hz) its.toArray.size 0 _ rfl (zk _) ?_ ?_ ?_
  . intro z
    rcases zW.mp z with z | z
    . exact nsi z
    . exact absurd (zX.mp z) (Nat.ne_of_gt hlt)
  . intro i v hv
    rw[zy] at hv
    exact hi.int_at i v hv
  . exact⟨⟨_,zK _ rfl,rfl,rfl⟩,ht _ fun b o e=>zE _ (h0 b o e)⟩
  . exact (zFa (prog:=prog) (w:=w) s.heap).keep fun o e=>zE _ e
  . intro s' e1 e2 e3 kp so
    refine zB (zB (zB (zB ?_)))
    obtain⟨h',g',d',t',o'⟩:=s'
    cases e1
    cases e2
    cases e3
    refine q h' t' (fun b o e=>kp b o (zf (zU e)) (fun z=>?_) (zE _ (h0 b o e))) (by simpa using so)
    have hb:b<s.heap.objs.size:=zU e
    rw[z,hsz] at hb
    exact absurd hb (Nat.not_lt.mpr (zBA _))
 | .ok .next,e=>exact e.elim
 | .ok .brk,e=>exact e.elim
 | .ok .cont,e=>exact e.elim
 | .error v,e=>exact e
end
end STb
namespace L2
open PySem PySem.Spec PyProof.Rows STb
theorem zFH (val:Nat->Int):∀i,(firstMet val i).Nodup
 | 0=>List.nodup_nil
 | i+1=>by
  have ih:=zFH val i
  rw[firstMet_succ]
  unfold step_dedup
  split
  . exact ih
  . rename_i h
    refine zA2.mpr ⟨ih,by simp,fun a ha b hb e=>h ?_⟩
    rw[zX.mp hb] at e
    subst e
    exact List.any_eq_true.mpr ⟨_,ha,by simp⟩
theorem zEe:∀{l2 l1:List Int},l2.Nodup->(∀x∈l2,x∈l1)->l1.length<=l2.length->l1.Perm l2
 | [],l1,_,_,h=>by
  have:l1=[]:=zAJ.mp (by simpa using h)
  subst this
  exact zB0 _
 | x::r,l1,nd,hs,h=>by
  have hx:x∈l1:=hs x zN
  have nx:x∉r:=(zAV.mp nd).1
  refine (List.perm_cons_erase hx).trans ((zEe (zAV.mp nd).2 (fun y hy=>?_) ?_).cons x)
  . exact (List.mem_erase_of_ne (a:=y) (b:=x) (fun z=>nx (by rw[<-z];exact hy))).mpr (hs y (zO _ hy))
  . rw[List.length_erase_of_mem hx]
    simp only[zj] at h
    omega
theorem zEk {prog:Program}{w:World}:∀{l:List (Int×Value)},ElemsOf (intKind prog w) l->∃ns:List Int,IntsAre (l.map (·.2)) ns/\∀z,z∈ns↔∃e∈l,(intKind prog w).is z e.2=true
 | [],_=>⟨[],.nil,fun z=>by simp⟩
 | e::r,h=>by
  obtain⟨ns,h1,h2⟩:=zEk (l:=r) h.tail
  obtain⟨⟨k,hk,_⟩,_⟩:=h.head
  obtain⟨t,et⟩:=Value.isInt_shape hk
  refine⟨k::ns,?_,fun z=>?_⟩
  . rw[zAU,et]
    exact .cons k t h1
  . rw[zW,h2]
    constructor
    . rintro (rfl | ⟨e',he',hz⟩)
      . exact⟨e,zN,hk⟩
      . exact⟨e',zO _ he',hz⟩
    . rintro ⟨e',he',hz⟩
      rcases zW.mp he' with rfl | he'
      . exact .inl ((intKind prog w).inj _ _ _ hz hk)
      . exact .inr ⟨e',he',hz⟩
theorem fm_mem (ns:List Int)(z:Int):((firstMet (fun i=>ns.getD i 0) ns.length).any fun x=>x==z)=true↔z∈ns:=by
 rw[firstMet_any]
 have e:(List.range ns.length).map (fun i=>ns.getD i 0)=ns:=by
  apply List.ext_getElem
  . simp
  . intro i h1 h2
    simp[h2]
 rw[e,List.any_eq_true]
 exact⟨fun ⟨x,hx,h⟩=>by rw[<-eq_of_beq h];exact hx,fun h=>⟨z,h,by simp⟩⟩
theorem zCe {ms:List Int}(h1:ms.Pairwise (· <= ·))(h2:ms.Nodup):ms.Pairwise (· < ·):=by
 rw[zr] at h1 ⊢
 intro i j hi hj hij
 have a:=h1 i j hi hj hij
 have b:ms[i]≠ms[j]:=fun z=>by have:=(List.getElem_inj h2).mp z;omega
 omega
section
open PySem.W PySem.Calls SortT
variable {prog:Program}{w:World}{A:Around}{E:Value->Shared->Prop}{s:Shared}
theorem zGN {a:Addr}{S:Int->Bool}{n:Nat}{Q:Value->Shared->Prop}(hh:A.handled=none)(G:zFM prog w (!w.params.followText "set-order") s.heap a S n) (h64:n<64)
 (q:∀(s1:Shared)(h':Heap)(D:Addr)(ms:List Int)(us:List Value)(c:Nat),s1.gens=s.gens->s1.os=s.os->(∀b o,s.heap.get? b=some o->s1.heap.get? b=some o)->(∀b o,s1.heap.get? b=some o->h'.get? b=some o)->s1.heap.objs.size<=D->h'.get? D=some (seqObj "list" us.toArray c)->zBK (ms.map V.int) us->ms.Pairwise (· <= ·)->(∀z,z∈ms↔S z=true)->ms.length=n->Q (.ref D) { s1 with heap:=h' }) :
 wpAny (model prog w) A (call (.builtin "sorted") [.ref a]) Q E s:=by
 obtain⟨ob,el,ep,tb,g1,g2,g3,B⟩:=G
 refine Calls.call_function_entry kind_sorted plain_sorted entry_sorted (args_sorted1 _) ?_
 unfold Builtin.«sorted»
 refine zA (m:=checkCount "sorted" 1 1 _) (zB ?_)
 refine zA (zGO (A:=A.in1) hh ⟨ob,g1,g2,g3⟩ B.fit B.gt (by have:=B.siz;omega) fun s1 acc e1 e2 k1 hg=>?_)
 obtain⟨l,lp,la⟩:=hg
 obtain⟨ns,hI,hm⟩:=zEk (B.elm.perm lp)
 have hl:l.length=n:=by rw[lp.length_eq,Array.length_toList,B.siz]
 have hvl:acc.toList.length=n:=by rw[la,zC,hl]
 rw[<-la] at hI
 generalize acc.toList=vs at hI hvl
 refine zA (zBL ?_ (by rw[sizeLine_eq];omega))
 have hoL:(s1.heap.push (seqObj "list" vs.toArray 0)).get? s1.heap.objs.size=some (seqObj "list" vs.toArray 0):=zK _ rfl
 have kp1:∀b o,s1.heap.get? b=some o->(s1.heap.push (seqObj "list" vs.toArray 0)).get? b=some o:=fun b o z=>zE _ z
 refine zA (zq (zAO slot_list_sort ⟨_,hoL,rfl⟩ entry_list_sort (SortT.list_sort (O:=intO) (key:=fun i=>ns.getD i 0) (κ:=oneType') hoL (by omega) (fun h2=>zGG hI h2) fun out hp=>⟨_,rfl,?_⟩) (args_list_sort _)))
 refine zB ⟨_,rfl,?_⟩
 obtain⟨c,hc⟩:=sortedHeap_at (vs:=vs) (out:=(out.map fun i=>vs.getD i Value.none).toArray) hoL
 obtain⟨ms,pm,pr,rz,pl⟩:=zG5 hI hp
 refine q s1 _ _ ms _ c e1 e2 k1 (fun b o z=>?_) (zG _) hc rz pr (fun z=>?_) (by rw[pl,<-hI.length,hvl])
 . have hb:b<s1.heap.objs.size:=zU z
   rw[sortedHeap_old (zf hb) (by rw[zAg];exact zA1 hb)]
   exact kp1 b o z
 . rw[pm.mem_iff,hm z,B.mem z]
   exact⟨fun ⟨e,he,u⟩=>⟨e,lp.mem_iff.mp he,u⟩,fun ⟨e,he,u⟩=>⟨e,lp.mem_iff.mpr he,u⟩⟩
end
section
variable {X:Cx}
noncomputable def zJo (K:PySem.W.Frag)(ta:TA):TE:=fun σ H Q=>ta σ H fun vs H1=>∃(p:Addr)(ns:List Int),vs=[.ref p]/\(SqL K H1 p (ns.map V.int)\/SqT K H1 p (ns.map V.int))/\ns.length<64/\∀(l:Addr)(ms:List Int),H1 l=none->ms.Pairwise (· < ·)->(∀z:Int,z∈ms↔z∈ns)->Q (.ref l) (upd H1 l (.lst (ms.map V.int)))
theorem zFm {a:Expr}{ta:TA}{p1 p2 pos1 pos2:Pos}(hc:X.calm=true)(hgS:Gl X "sorted") (hmS:X.mg "sorted" = none) (hgT:Gl X "set") (hmT:X.mg "set" = none) (ha:PA X [a] ta)(hs:starEach [a] X.env=[(false,eval a X.env)]:=by rfl)
 (hs2:starEach [.Call (.Name "set" p2) [a] [] pos2] X.env=[(false,eval (.Call (.Name "set" p2) [a] [] pos2) X.env)]:=by rfl) :
 PE X (.Call (.Name "sorted" p1) [.Call (.Name "set" p2) [a] [] pos2] [] pos1) (zJo X.K ta):=by
 intro pins s σ H Q I h
 refine zAu (zCc I hgS hmS (by decide +kernel:bootBuiltins "sorted" = some (.builtin "sorted")) ?_ (by decide) (by decide))
 refine PyProof.Rows.callWith_builtin1 ?_ hs2 rfl
 rw[hs2]
 refine Calls.spliced_cons ?_
 refine Call_ (zCc I hgT hmT (by decide +kernel:bootBuiltins "set" = some (.type "set")) (PyProof.Rows.callWith_type1 (thn (ha pos2 pins s σ H _ I h) fun us s1 ⟨vs,H1,I1,r1,q1⟩=>?_) hs rfl))
 obtain⟨p,ns,e,hq,h64,q⟩:=q1
 subst e
 obtain⟨u,rfl,rx⟩:=zDQ r1
 cases rx
 have lh:(firstMet (fun i=>ns.getD i 0) ns.length).length<=ns.length:=firstMet_length_le _ _
 have key:∀(h:Heap)(tk:Nat),(∀b o,s1.heap.get? b=some o->h.get? b=some o)->zFM X.prog X.w (!X.w.params.followText "set-order") h s1.heap.objs.size (fun z=>(firstMet (fun i=>ns.getD i 0) ns.length).any fun x=>x==z) (firstMet (fun i=>ns.getD i 0) ns.length).length ->
  wpAny (model X.prog X.w) X.A (call (.builtin "sorted") [.ref s1.heap.objs.size]) (EP X pins σ Q) X.xe { s1 with heap:=h,toks:=tk }:=by
  intro h tk K so
  refine zGN (I1.ok.hd hc) so (by omega) fun s2 h' D ms us c e1 e2 k1 k2 hD ho rz pr hm hlen=>?_
  obtain⟨hp2,g2,d2,t2,o2⟩:=s2
  cases e1
  cases e2
  have kk:∀b o,s1.heap.get? b=some o->hp2.get? b=some o:=fun b o z=>k1 b o (K b o z)
  have I2:Inv X pins σ H1 { s1 with heap:=hp2,gens:=s1.gens,drawn:=d2,toks:=t2 }:=I1.call (ch:=[]) (Un.kept kk) (I1.hok.kept kk) I1.bare fun _ z=>nomatch z
  have cov:=zEe (l2:=firstMet (fun i=>ns.getD i 0) ns.length) (l1:=ms) (zFH _ _) (fun x hx=>(hm x).mpr (List.any_eq_true.mpr ⟨x,hx,by simp⟩)) (by omega)
  refine⟨.ref D,_,zCS (t':=t2) I2 hD k2 ho rz ?_,rfl,q D ms (I2.hok.fresh hD) (zCe pr (cov.nodup_iff.mpr (zFH _ _))) fun z=>(hm z).trans (fm_mem ns z)⟩
  have:sizeLine=16777216:=rfl
  rw[zC]
  omega
 have sb:scanBound=4096:=rfl
 rcases hq with hq | hq
 . obtain⟨its,rv,pl,hz⟩:=I1.list hq
   have hi:=zBd rv
   have hil:=hi.length
   refine zLf (I1.ok.hd hc) pl.isList hi (by omega) fun h tk K so=>?_
   rw[hil] at so
   exact Calls.spliced_nil (key h tk K so)
 . obtain⟨its,rv,pl,hz⟩:=I1.tuple hq
   have hi:=zBd rv
   have hil:=hi.length
   refine mk_tup (I1.ok.hd hc) pl hi (by omega) fun h tk K so=>?_
   rw[hil] at so
   exact Calls.spliced_nil (key h tk K so)
end
end L2
namespace L2
open PySem PyProof.Rows
section
variable {prog:Program}{w:World}{A:Around}{s0:Shared}{I S:Addr}{its:List Value}{itAt:Nat->Heap->Prop}
theorem zIt {R:Result->Shared->Prop}{kw:List (Str×Value)}(M:zKX prog w A.in1 s0 I its itAt)(bt:Nat->Nat->Bool)(hS:s0.heap.objs.size<=S)(hI:s0.heap.objs.size<=I)(hSI:S≠I)
 (cmp:∀(i j:Nat)(vi vj:Value)(h:Heap)(tk:Nat)(Q E:Value->Shared->Prop),Kp s0 h->its[i]? = some vi->its[j]? = some vj->Q (.bool (bt i j)) { s0 with heap:=h,toks:=tk }->wpAny (model prog w) A.in1 (richCompare .Gt vi vj) Q E { s0 with heap:=h,toks:=tk })
 (hR:∀(v:Value)(h:Heap)(tk:Nat),its[argBest bt (its.length-1)]? = some v->Kp s0 h->R (.ok (.ret v)) { s0 with heap:=h,toks:=tk })
 : ∀(r j:Nat)(h:Heap)(tk:Nat)(vb:Value)(c:Nat),its.length-(j+1)=r->j+1<=its.length->Kp s0 h->itAt (j+1) h->its[argBest bt j]? = some vb ->
  h.get? S=some { cls:=.type "list",data:=.seq #[vb,vb] c }->codeAny (model prog w) A (.builtin "max.loop" { pos:=[.ref I,.none,.ref S],kw:=kw }) R { s0 with heap:=h,toks:=tk }:=by
 intro r
 induction r with
 | zero=>
  intro j h tk vb c hr hj K hit hv hSo
  refine codeAny_builtin PySem.F.entry_max_loop ?_
  unfold Builtin.«max.loop»
  refine zA (zAw hSo rfl ?_)
  dsimp only
  refine zA (zAY (M.fin (j+1) h tk _ _ K hit (zAB (by omega)) fun h' k=>?_))
  have hS':=k S _ hSI hSo
  refine zA (zAf hS' rfl (zA (zBV (zB ?_))) (by show 2<=sizeLine;decide) (by show 0<=sizeLine+1;decide))
  refine hR vb _ tk ?_ ((K.but hI k).upd hS)
  rw[show its.length-1=j by omega];exact hv
 | succ r ih=>
  intro j h tk vb c hr hj K hit hv hSo
  obtain⟨x,hx⟩:∃x,its[j+1]? = some x:=⟨_,zD (by omega)⟩
  refine codeAny_builtin PySem.F.entry_max_loop ?_
  unfold Builtin.«max.loop»
  refine zA (zAw hSo rfl ?_)
  dsimp only
  refine zA (zAY (M.next (j+1) h tk x _ _ K hit hx fun h' hit' k=>?_))
  have K':Kp s0 h':=K.but hI fun b o hb e=>by rw[k b hb];exact e
  have hS':h'.get? S=some { cls:=.type "list",data:=.seq #[vb,vb] c }:=by rw[k S hSI];exact hSo
  refine zA (zB ?_)
  refine zA (zAY (zq (zA (cmp (j+1) (argBest bt j) x vb h' tk _ _ K' hx hv ?_))))
  refine zA (zq (zAq (zA (zBV (zB ?_)))))
  have eb:argBest bt (j+1)=if bt (j+1) (argBest bt j)=true then j+1 else argBest bt j:=argBest.eq_2 bt j
  cases e:bt (j+1) (argBest bt j) with
  | true=>
   rw[if_pos e] at eb
   refine zA (zAf hS' rfl (zA (zBV (zB ⟨rfl,?_⟩))) (by show 2<=sizeLine;decide) (by show 2<=sizeLine+1;decide))
   exact ih (j+1) _ tk x c (by omega) (by omega) (K'.upd hS) (M.stay _ _ _ hit' (zAL _ _ _ _ (Ne.symm hSI))) (by rw[eb];exact hx) (zi _ hS' rfl)
  | false=>
   rw[e,if_neg (by decide)] at eb
   refine zA (zBV (zB ⟨rfl,?_⟩))
   exact ih (j+1) h' tk vb c (by omega) (by omega) K' hit' (by rw[eb];exact hv) hS'
theorem zEg {R:Result->Shared->Prop}{d:Value}(M:zKX prog w A.in1 s0 I its itAt)(bt:Nat->Nat->Bool)(hS:s0.heap.objs.size<=S)(hI:s0.heap.objs.size<=I)(hSI:S≠I)
 (cmp:∀(i j:Nat)(vi vj:Value)(h:Heap)(tk:Nat)(Q E:Value->Shared->Prop),Kp s0 h->its[i]? = some vi->its[j]? = some vj->Q (.bool (bt i j)) { s0 with heap:=h,toks:=tk }->wpAny (model prog w) A.in1 (richCompare .Gt vi vj) Q E { s0 with heap:=h,toks:=tk })
 (hR:∀(v:Value)(h:Heap)(tk:Nat),its[argBest bt (its.length-1)]? = some v->Kp s0 h->R (.ok (.ret v)) { s0 with heap:=h,toks:=tk })
 (h0:its=[]->∀(h:Heap)(tk:Nat),Kp s0 h->R (.ok (.ret d)) { s0 with heap:=h,toks:=tk })
 (h:Heap)(tk:Nat)(c:Nat)(K:Kp s0 h)(hit:itAt 0 h)(hSo:h.get? S=some { cls:=.type "list",data:=.seq #[] c }) :
 codeAny (model prog w) A (.builtin "max.loop" { pos:=[.ref I,.none,.ref S],kw:=[(Str.ofString "default",d)] }) R { s0 with heap:=h,toks:=tk }:=by
 refine codeAny_builtin PySem.F.entry_max_loop ?_
 unfold Builtin.«max.loop»
 refine zA (zAw hSo rfl ?_)
 dsimp only
 cases e:its with
 | nil=>
  subst e
  refine zA (zAY (M.fin 0 h tk _ _ K hit rfl fun h' k=>?_))
  exact zA (zBu (zB (h0 rfl h' tk (K.but hI k))))
 | cons x xs=>
  have hx:its[0]? = some x:=by rw[e];rfl
  refine zA (zAY (M.next 0 h tk x _ _ K hit hx fun h' hit' k=>?_))
  have K':Kp s0 h':=K.but hI fun b o hb e=>by rw[k b hb];exact e
  have hS':h'.get? S=some { cls:=.type "list",data:=.seq #[] c }:=by rw[k S hSI];exact hSo
  refine zA (zB ?_)
  refine zA (zAf hS' rfl (zB ⟨rfl,?_⟩) (by show 0<=sizeLine;decide) (by show 2<=sizeLine+1;decide))
  refine zIt M bt hS hI hSI cmp hR (its.length-1) 0 _ tk x (c+1) rfl (by rw[e];simp) (K'.upd hS) (M.stay _ _ _ hit' (zAL _ _ _ _ (Ne.symm hSI))) hx (zi _ hS' rfl)
end
theorem zJT {prog:Program}{w:World}{A:Around}{s:Shared}{p:Addr}{its:List Value}{d:Value}{Q E:Value->Shared->Prop}(hA:A.handled=none)(bt:Nat->Nat->Bool)(hp:s.heap.IsList p its.toArray\/s.heap.IsTuple p its.toArray)
 (cmp:∀(i j:Nat)(vi vj:Value)(h:Heap)(tk:Nat)(Q E:Value->Shared->Prop),Kp s h->its[i]? = some vi->its[j]? = some vj->Q (.bool (bt i j)) { s with heap:=h,toks:=tk }->wpAny (model prog w) A.in1 (richCompare .Gt vi vj) Q E { s with heap:=h,toks:=tk })
 (hR:∀(v:Value)(h:Heap)(tk:Nat),its[argBest bt (its.length-1)]? = some v->Kp s h->Q v { s with heap:=h,toks:=tk })
 (h0:its=[]->∀(h:Heap)(tk:Nat),Kp s h->Q d { s with heap:=h,toks:=tk }) :
 wpAny (model prog w) A (call (.builtin "max") [.ref p] [(Str.ofString "default",d)]) Q E s:=by
 refine zBS (codeAny_call_builtin PySem.F.plain_max PySem.F.entry_max (wpAny_of_eq (show checkBuiltinCall "max" { pos:=[.ref p],kw:=[(Str.ofString "default",d)] }=pure () from rfl) (zB ?_)))
 unfold Builtin.max
 refine zA (wpAny_of_eq (show Builtin.Builtins.bindParams "max" ["key", "default"] 0 { kw:=[(Str.ofString "default",d)] }=pure [none,some d] from rfl) (zB ?_))
 dsimp only
 refine zA (zB ?_)
 have kp0:∀(o1 o2:Obj),Kp s ((s.heap.push o1).push o2):=fun o1 o2 b o e=>zE _ (zE _ e)
 rcases hp with hp | hp
 . refine zA (wpAny_pyIter_list hp (zA (zBL (zB ⟨rfl,?_⟩) (by show 0<=sizeLine;decide))))
   have hSe:(s.heap.push { cls:=.type "list_iterator",data:=.fields #[.ref p,.int 0 0] }).objs.size=s.heap.objs.size+1:=zAg ..
   rw[hSe]
   refine zEg (s0:=s) (I:=s.heap.objs.size) (S:=s.heap.objs.size+1) (itAt:=fun j h=>h.IsListIter s.heap.objs.size p j) ⟨fun j h h' a e=>?_,fun j h tk v Q E K hit hv q=>?_,fun j h tk Q E K hit hv q=>?_⟩ bt (zBA _) (zG _) (Nat.succ_ne_self _) cmp hR h0 _ s.toks 0 (kp0 _ _) ?_ ?_
   . obtain⟨o,ho,hc⟩:=a
     exact⟨o,by rw[e];exact ho,hc⟩
   . obtain⟨o,ho,hc⟩:=hp
     exact zBX hit ⟨o,K _ _ ho,hc⟩ (by rw[zy];exact hv) fun h' a b=>q h' a fun c hc=>b.2 c hc
   . obtain⟨o,ho,hc⟩:=hp
     exact wpAny_pyNext_list_end hA hit ⟨o,K _ _ ho,hc⟩ (by rw[zy];exact hv) fun h' b=>q h' b
   . exact⟨_,zE _ (zK _ rfl),rfl,rfl⟩
   . rw[<-hSe];exact zK _ rfl
 . refine zA (wpAny_pyIter_tuple hp (zA (zBL (zB ⟨rfl,?_⟩) (by show 0<=sizeLine;decide))))
   have hSe:(s.heap.push { cls:=.type "tuple_iterator",data:=.fields #[.ref p,.int 0 0] }).objs.size=s.heap.objs.size+1:=zAg ..
   rw[hSe]
   refine zEg (s0:=s) (I:=s.heap.objs.size) (S:=s.heap.objs.size+1) (itAt:=fun j h=>h.IsTupleIter s.heap.objs.size p j) ⟨fun j h h' a e=>?_,fun j h tk v Q E K hit hv q=>?_,fun j h tk Q E K hit hv q=>?_⟩ bt (zBA _) (zG _) (Nat.succ_ne_self _) cmp hR h0 _ s.toks 0 (kp0 _ _) ?_ ?_
   . obtain⟨o,ho,hc⟩:=a
     exact⟨o,by rw[e];exact ho,hc⟩
   . obtain⟨o,ho,hc⟩:=hp
     exact wpAny_pyNext_tuple_item hit ⟨o,K _ _ ho,hc⟩ (by rw[zy];exact hv) fun h' a b=>q h' a fun c hc=>b.2 c hc
   . obtain⟨o,ho,hc⟩:=hp
     exact wpAny_pyNext_tuple_end hA hit ⟨o,K _ _ ho,hc⟩ (by rw[zy];exact hv) fun h' b=>q h' b
   . exact⟨_,zE _ (zK _ rfl),rfl,rfl⟩
   . rw[<-hSe];exact zK _ rfl
theorem zH0 (f:Nat->Int)(k:Nat):argBest (fun i j=>decide (f i > f j)) k<=k/\∀j,j<=k->f j<=f (argBest (fun i j=>decide (f i > f j)) k):=by
 have e:(fun i j=>decide (f i > f j))=fun i j=>decide (-f i < -f j):=by
  funext i j
  rw[Bool.eq_iff_iff,zAZ,zAZ]
  omega
 rw[e]
 obtain⟨h1,h2⟩:=argBest_lt (fun i=>-f i) k
 refine⟨h1,fun j hj=>?_⟩
 have:=h2 j hj
 omega
section
variable {X:Cx}
noncomputable def rMaxD (K:PySem.W.Frag)(x dv:V)(H:Hp)(Q:VK):Prop:=∃(p:Addr)(ns:List Int),x = .ref p/\(SqL K H p (ns.map V.int)\/SqT K H p (ns.map V.int))/\(ns=[]->Q dv H)/\(∀n∈ns,(∀m∈ns,m<=n)->Q (.int n) H)
noncomputable def tMaxD (K:PySem.W.Frag)(t:TA)(td:TE):TE:=fun σ H Q=>t σ H fun vs H1=>∃x,vs=[x]/\td σ H1 fun dv H2=>rMaxD K x dv H2 Q
theorem zGW {e de:Expr}{t:TA}{td:TE}{pos np kpos:Pos}(hc:X.calm=true)(hu:X.A.units+1<cLine)(hg:Gl X "max") (hm:X.mg "max" = none) (he:PA X [e] t)(hd:PE X de td)
 (hs1:backTo pos (starEach [e] X.env)=(false,eval e X.env)::backTo pos (starEach [] X.env):=by rfl)(hs2:(backTo pos (starEach [e] X.env)).any (·.1)=false:=by rfl) :
 PE X (.Call (.Name "max" np) [e] [⟨some "default",de,kpos⟩] pos) (tMaxD X.K t td):=by
 intro pins s σ H Q I h
 refine zAu (zCc I hg hm (by decide +kernel:bootBuiltins "max" = some (.builtin "max")) ?_)
 refine PyProof.Rows.callWith_kw (thn (he pos pins s σ H _ I h) fun us s1 ⟨vs,H1,I1,r,q1⟩=>?_) hs1 hs2
 obtain⟨x,rfl,q1⟩:=q1
 obtain⟨u,rfl,rx⟩:=zDQ r
 show wpAny _ _ (evalAll ((do let v <-eval de X.env;standAt pos;pure v)::[])) _ _ s1
 refine wpAny_evalAll_cons (zA (thn (hd pins s1 σ H1 _ I1 q1) fun ud s2 ⟨dv,H2,I2,rd,q2⟩=>zA (wpAny_standAt (zB (wpAny_evalAll_nil ?_)))))
 show wpAny _ _ (call (.builtin "max") [u] [(Str.ofString "default",ud)]) _ _ s2
 obtain⟨p,ns,rfl,hp,q0,q⟩:=q2
 obtain⟨ys,ey⟩:∃ys,ys=ns.map V.int:=⟨_,rfl⟩
 rw[<-ey] at hp
 cases rx
 obtain⟨its,rv,hpp⟩:∃its:List Value,zBK ys its/\(s2.heap.IsList p its.toArray\/s2.heap.IsTuple p its.toArray):=by
  rcases hp with hp | hp
  . obtain⟨its,r',pl,_⟩:=I2.list hp
    exact⟨its,r',.inl pl.isList⟩
  . obtain⟨its,r',pl,_⟩:=I2.tuple hp
    exact⟨its,r',.inr pl⟩
 have hlen:=rv.length
 have e0:its=[]->ns=[]:=fun z=>by
  have:ys=[]:=zAJ.mp (by rw[hlen,z];rfl)
  rw[ey] at this
  exact zBW.mp this
 subst ey
 have hI:IntsAre its ns:=zBd rv
 have hl:=hI.length
 have look:∀(i:Nat)(v:Value),its[i]? = some v->∃t,v = .int (ns.getD i 0) t:=fun i v hv=>by
  have hi:i<ns.length:=by have:=(zJ.mp hv).1;omega
  obtain⟨u,hu,ru⟩:=rv.get (i:=i) (x:=.int ns[i]) (by simp[hi])
  rw[hv] at hu;cases hu
  obtain⟨t,rfl⟩:=(show ∃t,v=Value.int ns[i] t from ru)
  exact⟨t,by rw[zP,zD hi];rfl⟩
 refine zJT (I2.ok.hd hc) (fun i j=>decide (ns.getD i 0 > ns.getD j 0)) hpp (fun i j vi vj h tk Q E K hi hj q=>?_) (fun v h tk hv K=>?_) (fun z h tk K=>⟨dv,H2,I2.kept K,rd,q0 (e0 z)⟩)
 . obtain⟨t1,rfl⟩:=look i vi hi
   obtain⟨t2,rfl⟩:=look j vj hj
   exact PyProof.Rows.gt_int q
 . obtain⟨b1,b2⟩:=zH0 (fun i=>ns.getD i 0) (its.length-1)
   have hlt:=(zJ.mp hv).1
   generalize eb:argBest (fun i j=>decide (ns.getD i 0 > ns.getD j 0)) (its.length-1)=bi at hv hlt b1 b2
   obtain⟨t,rfl⟩:=look bi v hv
   have hy:bi<ns.length:=by omega
   refine⟨.int (ns.getD bi 0),H2,I2.kept K,⟨t,rfl⟩,q _ ?_ fun m hm=>?_⟩
   . rw[zP,zD hy];exact zAy hy
   . obtain⟨j,hj,ej⟩:=zAC hm
     have:=b2 j (by omega)
     have g1:ns.getD j 0=m:=by rw[zP,zD hj,ej];rfl
     rw[g1] at this
     exact this
end
end L2
namespace L2
open PySem PySem.Spec PyProof.Rows
theorem zD9 (l:Addr)(items:Array Value)(n:Nat)(b:Addr)(o:Obj)(items2:Array Value)(n2:Nat)(hlong:¬ (!items.isEmpty && Builtin.List.listTooLong (items.size+items2.size))=true)(hs1:items.size<=sizeLine)(hs2:items.size+items2.size<=sizeLine+1) :
 Meets (Builtin.«list.extend» ⟨[.ref l,.ref b],[]⟩) (fun _ R s=>s.heap.get? l=some { cls:=.type "list",dict:=none,data:=.seq items n,slots:=#[] }/\(s.heap.get? b=some o/\o.cls = .type "tuple" /\ o.data = .seq items2 n2)/\R (.ok (.ret Value.none)) { s with heap:=s.heap.update l (Obj.mapSeq fun x=>x++items2),toks:=s.toks }):=
 .of_wp fun prog w A R s h=>by
  obtain⟨hl,⟨hb,hc,hd⟩,h⟩:=h
  show wpAny _ A.in1 (Builtin.List.listExtendWith (.ref l) (.ref b) .none) _ _ s
  unfold Builtin.List.listExtendWith
  refine zA (zBf ⟨o,hb,hc⟩ ?_)
  have h1:(Builtin.List.listSameRef (.ref l) (.ref b) || Value.type "tuple" == Value.type "list" || Value.type "tuple" == Value.type "tuple")=true:=by simp
  simp only[h1,if_true]
  refine zA ?_
  unfold Builtin.List.listItems
  refine zA (zAw hb hd (zB ?_))
  refine zA ?_
  refine zA (zAw hl rfl (zB ?_))
  rw[if_neg hlong]
  show wpAny _ A.in1 (updateSeq l (· ++ items2) >>= fun _=>ret .none) _ _ s
  refine zA (zAf hl rfl ?_ (by omega) (by rw[Array.size_append];exact hs2))
  exact zB ⟨_,rfl,h⟩
section
variable {X:Cx}
noncomputable def zJ0:V->List V->Hp->VK->Prop:=fun x vs H Q=>∃l b xs zs,x = .ref l/\vs=[.ref b]/\H l=some (.lst xs)/\H b=some (.tup zs)/\xs.length+zs.length<=sizeLine/\Q .non (upd H l (.lst (xs++zs)))
theorem zHj:MtM X "list.extend" zJ0:=by
 intro pins s σ H x vs v us Q I rx rv h
 obtain⟨l,b,xs,zs,rfl,rfl,hH,hB,hz,q⟩:=h
 cases rx
 obtain⟨u,rfl,ru⟩:=rv.one
 cases ru
 obtain⟨z,its,n,r,hl,e⟩:=I.lstM hH
 obtain⟨z2,its2,r2,o2,ho2,hc2,n2,hd2⟩:=I.hok b _ hB
 have hl2:=r2.length
 have hsz:its.toArray.size+its2.toArray.size<=sizeLine:=by rw[zS,zS];omega
 have hlong:¬ (!its.toArray.isEmpty && Builtin.List.listTooLong (its.toArray.size+its2.toArray.size))=true:=by
  rw[zKA hsz,Bool.and_false]
  exact zh
 refine call_meets PySem.F.slot_list_extend ⟨_,e,rfl⟩ PySem.F.entry_list_extend (PySem.F.args_list_extend_2 _ _)
  (zD9 l its.toArray n b o2 its2.toArray n2 hlong (by rw[zS];omega) (by omega)) ⟨e,⟨ho2,hc2,hd2⟩,?_⟩
 refine⟨.non,_,I.lset (its':=its++its2) hH e (by simp) (r.append r2) ?_,rfl,q⟩
 rw[zH]
 omega
end
end L2
namespace L2
open PySem PySem.Spec PyProof.Rows
noncomputable def SmP (P:Addr)(H H':Hp):Prop:=∀b o,H b=some o->(b=P/\∃ps,o = .tbl ps)\/H' b=some o
theorem SmP.refl {P:Addr}(H:Hp):SmP P H H:=fun _ _ e=>.inr e
theorem SmP.get {P:Addr}{H H':Hp}(k:SmP P H H'){b:Addr}{o:HO}(e:H b=some o)(h:∀ps,o ≠ .tbl ps):H' b=some o:=by
 rcases k b o e with ⟨_,ps,z⟩ | z
 . exact absurd z (h ps)
 . exact z
theorem SmP.smT {P:Addr}{H H':Hp}(h:SmP P H H'):SmT H H':=fun b o e=>(h b o e).imp (fun z=>z.2) id
section
variable {X:Cx}{pins:List (Addr×Obj)}{σ:St}{H:Hp}{s:Shared}
end
section
variable {X:Cx}
end
end L2
namespace L2
open PySem PySem.Spec PyProof.Rows
noncomputable def CXO (P:Program)(w:World):CXT:=fun outer H s E e s'=>
 ∃(ea t:Addr)(C:Value)(H':Hp)(B:Heap),e = .ref ea/\s'.os=s.os/\AllBare s'.gens/\Un (frs outer) [] H H' s.heap s'.heap/\HOk P w H' s'.heap /\
  Heap.FlyingW B outer ea C (.ref t) s'.heap/\(∀b u,H' b=some u->∃o,B.get? b=some o)/\(∀b o,s.heap.get? b=some o->H b=none->b∉frs outer->B.get? b=some o)/\(∀b o,s.heap.get? b=some o->b∉frs outer->∃o',B.get? b=some o')/\E C none H'
theorem zBc.there {P:Program}{w:World}{H:Hp}{h:Heap}{a:Addr}{o:HO}(x:zBc P w H h a o):∃ob,h.get? a=some ob:=by
 cases o with
 | lst xs=>obtain⟨_,_,_,_,e⟩:=x;exact⟨_,e⟩
 | tup xs=>obtain⟨⟨_,o2,e2,_⟩,_⟩:=x;exact⟨_,e2⟩
 | dK kvs=>obtain⟨_,_,_,_,o,_,_,e,_⟩:=x;exact⟨_,e⟩
 | dT kvs=>obtain⟨_,_,_,_,o,_,_,e,_⟩:=x;exact⟨_,e⟩
 | set S n=>obtain⟨o,_,_,_,e,_⟩:=x;exact⟨_,e⟩
 | ins C dx fs=>obtain⟨_,_,_,e,_⟩:=x;exact⟨_,e⟩
 | own y=>obtain⟨_,e⟩:=x;exact⟨_,e⟩
 | xd fs=>obtain⟨_,⟨_,_,_,e,_⟩,_⟩:=x;exact⟨_,e⟩
 | rng lo hi=>obtain⟨_,_,_,e⟩:=x;exact⟨_,e⟩
 | frz ob u=>obtain⟨e,_⟩:=x;exact⟨_,e⟩
 | tbl ps=>exact⟨_,show h.get? a=some _ from x⟩
 | met f y=>exact⟨_,show h.get? a=some _ from x⟩
 | ext φ=>obtain⟨_,⟨_,e⟩,_⟩:=x;exact⟨_,e⟩
theorem HOk.stays {P:Program}{w:World}{H:Hp}{h h' B:Heap}(x:HOk P w H h)(k:B.StaysIn h)(k':B.StaysIn h')(tr:∀b u,H b=some u->∃o,B.get? b=some o):HOk P w H h':=fun a o e=>
 (x a o e).stay (fun b u hb q=>by
  have:∃v,H b=some v:=by
   rcases hb with rfl | hb
   . exact⟨_,e⟩
   . exact⟨_,hb⟩
  obtain⟨v,hv⟩:=this
  obtain⟨o',ho'⟩:=tr b v hv
  have e2:o'=u:=za ((k b o' ho').symm.trans q)
  exact e2 ▸ k' b o' ho') (fun _ q=>q) fun _ _ q=>q
section
variable {P:Program}{w:World}{K:PySem.W.Frag}{mg:Str->Option Value}{base:Heap}{N:List Str}{qual:Str}{scope:Scope}{f:Addr}{cd:Value}{A:Around}{outer:List Env}{s0 s:Shared}{H0 H:Hp}{E:XK}{pins:List (Addr×Obj)}{σ:St}
theorem zIY {h':Heap}{ea:Addr}{C:Value}{vs:List Value}(I:Inv (zF3 (CXO P w) P w K mg base N qual scope f cd A outer s0 H0 E) pins σ H s)(hx:Heap.MadeExcOf s.heap h' ea C vs)(hE:E C none H) :
 (zF3 (CXO P w) P w K mg base N qual scope f cd A outer s0 H0 E).xe (.ref ea) { s with heap:=h' }:=by
 have hfr:frs (zF3 (CXO P w) P w K mg base N qual scope f cd A outer s0 H0 E).stack=(envOfC qual scope s0.heap.objs.size f cd::outer).filterMap (·.frame):=rfl
 have hin:∀env∈(envOfC qual scope s0.heap.objs.size f cd::outer),∀a,env.frame=some a->a∈(envOfC qual scope s0.heap.objs.size f cd::outer).filterMap (·.frame):=fun env he b hb=>List.mem_filterMap.mpr ⟨env,he,hb⟩
 refine wpAny_leaves_madeW (base:=PySem.W.hideAll s.heap ((envOfC qual scope s0.heap.objs.size f cd::outer).filterMap (·.frame))) I.ok.frames rfl (fun b o q=>PySem.W.of_hideAll _ q) (PySem.W.funFrames_hide I.stack hin) hx fun h'' t fl _ _ up=>?_
 have st:(PySem.W.hideAll s.heap ((envOfC qual scope s0.heap.objs.size f cd::outer).filterMap (·.frame))).StaysIn h'':=fl.1
 have old:∀b o,s0.heap.get? b=some o->H0 b=none->b∉frs outer->(PySem.W.hideAll s.heap ((envOfC qual scope s0.heap.objs.size f cd::outer).filterMap (·.frame))).get? b=some o:=fun b o e n hb=>by
  refine PySem.W.hideAll_get _ (I.base.keep b o e n hb (by intro z;cases z)) fun z=>?_
  rcases zW.mp (I.stkSub b z) with q | q
  . exact absurd (zU e) (by rw[q];exact Nat.not_lt_of_le (zG _))
  . exact hb q
 have al:∀b o,s0.heap.get? b=some o->b∉frs outer->∃o',(PySem.W.hideAll s.heap ((envOfC qual scope s0.heap.objs.size f cd::outer).filterMap (·.frame))).get? b=some o':=fun b o e hb=>by
  obtain⟨o1,e1⟩:=I.base.there b o e (by intro z;cases z)
  refine⟨o1,PySem.W.hideAll_get _ e1 fun z=>?_⟩
  rcases zW.mp (I.stkSub b z) with q | q
  . exact absurd (zU e) (by rw[q];exact Nat.not_lt_of_le (zG _))
  . exact hb q
 have tr:∀b u,H b=some u->∃o,(PySem.W.hideAll s.heap ((envOfC qual scope s0.heap.objs.size f cd::outer).filterMap (·.frame))).get? b=some o:=fun b u e=>by
  obtain⟨o,ho⟩:=(I.hok b u e).there
  refine⟨o,PySem.W.hideAll_get _ ho fun z=>?_⟩
  have:=I.stkFree b z
  rw[e] at this
  cases this
 refine⟨ea,t,C,H,_,rfl,I.os,I.bare,⟨fun b o e n hb hx'=>st b o (old b o e n hb),fun b o e n hb hx'=>?_,I.base.free,fun b o e hx'=>?_,I.base.tups,I.base.frzs,I.base.tbls⟩,I.hok.stays (fun b o q=>PySem.W.of_hideAll _ q) st tr,fl,tr,old,al,hE⟩
 . obtain⟨sl,e1⟩:=I.base.slot b o e n hb (by intro z;cases z)
   obtain⟨_,o2,e2,nd⟩:=I.stack.mem (show b∈(envOfC qual scope s0.heap.objs.size f cd::outer).filterMap (·.frame) from zO _ hb)
   have e3:o2={ o with slots:=sl }:=za (e2.symm.trans e1)
   obtain⟨sl2,e4⟩:=up b _ (hx.keeps b _ e1) (fun vs=>by rw[<-e3];exact nd vs)
   exact⟨sl2,e4⟩
 . obtain⟨o1,e1⟩:=I.base.there b o e (by intro z;cases z)
   by_cases hb:b∈(envOfC qual scope s0.heap.objs.size f cd::outer).filterMap (·.frame)
   . obtain⟨_,o2,e2,nd⟩:=I.stack.mem hb
     obtain⟨sl2,e4⟩:=up b _ (hx.keeps b _ e2) nd
     exact⟨_,e4⟩
   . exact⟨_,st b _ (PySem.W.hideAll_get _ e1 hb)⟩
end
noncomputable abbrev bmV:List Value:=[.type "ValueError",.type "Exception",.type "BaseException",.type "object"]
theorem zGg {K:PySem.W.Frag}{h:Heap}{C:Addr}{bmB:List Value}{newId:String}(X:K.In h)(q:PySem.W.excIn K C bmB newId=true) :
 ∃bm N nm qn bs hdct sn sub ab col dd k0 k1 k2 k3 k5 mN,h.get? C=some (excClassObj nm qn C N bs bm hdct sn sub ab col dd k0 k1 k2 k3 k5 newId)/\h.Ns N mN/\mN "__init__" = none/\OwnTail h bmB bm:=by
 unfold PySem.W.excIn at q
 split at q
 . next dd cd sl look=>
   split at q
   . next D bm k0 k1 k2 k3 n k5 em es=>
     simp only[zAz,beq_iff_eq,Bool.not_eq_true'] at q
     obtain⟨⟨⟨⟨⟨q1,q2⟩,q3⟩,q4⟩,q5⟩,q6⟩:=q
     subst q1 q2
     cases cd
     simp only at em q3 q5 q6
     subst em q3
     cases sl
     simp only at es
     subst es
     exact⟨_,_,_,_,_,_,_,_,_,_,_,_,_,_,_,_,_,X _ _ look,.of_isNs (PySem.W.isNs_of_in X q5),PySem.W.nsMap_none_of_in X q5 q6,PySem.W.tail_of_in X q4⟩
   . cases q
 . cases q
noncomputable def tRaise (C:Addr)(t:TA)(E:XK):TS:=fun _ σ H=>t σ H fun _ H1=>E (.ref C) none H1
theorem zJ2 {X:Cx}{x:Str}{C:Addr}{e:Expr}{t:TA}{E:XK}{np cpos pos:Pos}(hg:Gl X x)(hm:X.mg x=some (.ref C))(q:PySem.W.excIn X.K C bmV "ValueError.__new__" = true) (hc:X.calm=true)(ha:PA X [e] t)
 (hxe:∀(pins:List (Addr×Obj))(σ:St)(H:Hp)(s:Shared)(h':Heap)(ea:Addr)(vs:List Value),Inv X pins σ H s->Heap.MadeExcOf s.heap h' ea (.ref C) vs->E (.ref C) none H->X.xe (.ref ea) { s with heap:=h' })
 (hs:starEach [e] X.env=[(false,eval e X.env)]:=by rfl)(hd:(x==("__debug__" : Str))=false:=by decide) (hl:∀ σ H Q,t σ H Q->t σ H fun vs H1=>vs.length<=1/\Q vs H1) :
 PS X (.Raise (some (.Call (.Name x np) [e] [] cpos)) none pos) (tRaise C t E):=by
 intro pins s σ H D I h
 obtain⟨bm,Nn,nm,qn,bs,hdct,sn,sub,ab,col,dd,k0,k1,k2,k3,k5,mN,hC,hN,hni,T⟩:=zGg I.mod.kin q
 refine wpAny_Raise_call_subT (C:=C) (nm:=nm) (q:=qn) (N:=Nn) (bs:=bs) (bm:=bm) (hdct:=hdct) (sn:=sn) (sub:=sub) (ab:=ab) (col:=col) (dd:=dd) (k0:=k0) (k1:=k1) (k2:=k2) (k3:=k3) (k5:=k5)
  PySem.F.excBase_ValueError (mN:=mN) (T.hasType (by rfl)) (I.ok.hd hc) (by rw[hs];rfl) hni (zDX I hg hm ⟨rfl,?_⟩ hd)
 have ha':=ha cpos pins s σ H _ I (hl σ H _ h)
 rw[hs] at ha' ⊢
 refine Calls.evalArgs_plain (thn ha' fun us s2 ⟨vs,H2,I2,r2,z2,q2⟩=>?_)
 exact⟨rfl,by rw[<-r2.length];have:sizeLine=16777216:=rfl;show vs.length<=_;omega,I2.bk _ _ hC,hN.keeps I2.bk,T.keeps I2.bk,fun h' ea mx=>hxe pins σ H2 s2 h' ea us I2 mx q2⟩
theorem Fun.okX {P:Program}{w:World}{K:PySem.W.Frag}{mg:Str->Option Value}{base:Heap}{x qual:Str}{st:Stmt}{f:Addr}{fd:FuncData}{N ps:List Str}{k:Nat}{sp:Sp}(F:Fun K x qual st f fd)(S:zAI N ps (defScope st))(len:∀vs H Q E,sp vs H Q E->vs.length=ps.length)
 (hbody:∀(cdv:Value)(A:Around)(outer:List Env)(s:Shared)(H:Hp)(vs:List V)(Q:VK)(E:XK),zCm k (A.deeper (envOfC qual (defScope st) s.heap.objs.size f cdv))->sp vs H Q E ->
  ∃t,PSs (zF3 (CXO P w) P w K mg base N qual (defScope st) f cdv A outer s H E) (defBody st) t/\t { nx:=fun _ H'=>Q .non H',rt:=Q } (start N vs) H):zAa P w K mg base (CXO P w) (k+1) f fd ps sp:=by
 obtain⟨oc,od,kV,doc,pm,an,cdv,ct,osl,rfl,lk,hcd⟩:=F.ex
 exact zKL lk hcd S len fun A outer s H vs Q E hr hsp=>hbody cdv A outer s H vs Q E hr hsp
end L2
namespace L2
open PySem PySem.Spec PyProof.Rows
section
variable {X:Cx}{pins:List (Addr×Obj)}{σ:St}{H:Hp}{s:Shared}
theorem zH9 {M:Model}{A:Around}{E:Value->Shared->Prop}{i:Nat}{x:Str}{v:V}{Q:Unit->Shared->Prop}(I:Inv X pins σ H s)(hN:X.N.Nodup)(hi:X.N[i]? = some x)(hk:X.env.kindOf x=some .local)(hv:σ[i]? = some (some v))
 (h:∀s',Inv X pins (σ.set i none) H s'->Q () s'):wpAny M A (unbindName X.env x) Q E s:=by
 obtain⟨m,hn,hl⟩:=id I.loc
 have hcls:(X.env.scope.kind == .class || (X.env.scope.kind == .module && X.env.locals != X.env.globals))=false:=by rw[I.ok.kind];rfl
 have hk':X.env.scope.names.lookup x=some .local:=hk
 obtain⟨u,_,lk⟩:=hl i x v hi hv (.inl hk')
 have hm:m x=some u:=by
  rcases lk with ⟨_,e⟩ | ⟨q,_⟩
  . exact e
  . rcases q with q | q <;> (rw[hk] at q;cases q)
 obtain⟨oL,_,_,hoL,_⟩:=id hn
 have neL:∀b o,X.s₀.heap.get? b=some o->b≠X.env.locals:=fun b o e=>zf (zo (zU e) I.ok.above)
 refine wpAny_unbindName_local hk hn hm hcls fun h' uu hn' hs=>h _ ⟨I.ok,I.os,I.bare,⟨fun b o e n hb hx=>(hs.2 b (neL b o e)).trans (I.base.keep b o e n hb hx),fun b o e n hb hx=>?_,I.base.free,fun b o e hx=>?_,I.base.tups,I.base.frzs,I.base.tbls⟩,⟨_,hn',fun j y v' e1 e2 e3=>?_⟩,fun y c e=>?_,I.free,I.freeC,fun p hp=>?_,fun b ob e=>?_,by simpa using I.len⟩
 . obtain⟨sl,e1⟩:=I.base.slot b o e n hb hx
   exact⟨sl,(hs.2 b (neL b o e)).trans e1⟩
 . obtain⟨o',e1⟩:=I.base.there b o e hx
   exact⟨o',(hs.2 b (neL b o e)).trans e1⟩
 . have hj:j≠i:=fun z=>by
    subst z
    have:j<σ.length:=(zJ.mp hv).1
    rw[List.getElem?_set_self this] at e2
    cases e2
   rw[List.getElem?_set_ne (Ne.symm hj)] at e2
   obtain⟨u',r',q⟩:=hl j y v' e1 e2 e3
   refine⟨u',r',?_⟩
   rcases q with ⟨k,e⟩ | ⟨k,c,e,z⟩
   . have ny:y≠x:=fun e=>hj (zFC hN e1 (e ▸ hi))
     exact .inl ⟨k,by simp[ny,e]⟩
   . exact .inr ⟨k,c,e,z.sameBut hs (I.cne y c e)⟩
 . obtain⟨w',z⟩:=I.cell y c e
   exact⟨w',z.sameBut hs (I.cne y c e)⟩
 . obtain⟨e,n,ne,nf,d⟩:=I.pin p hp
   exact⟨(hs.2 p.1 ne).trans e,n,ne,nf,d⟩
 . refine (I.hok b ob e).stay (fun c w' hc q=>(hs.2 c ?_).trans q) (fun _ q=>q) fun _ _ q=>q
   rintro rfl
   rcases hc with rfl | hc
   . rw[I.free] at e;cases e
   . rw[I.free] at hc;cases hc
end
theorem zHl {M:Model}{A:Around}{E:Value->Shared->Prop}{s:Shared}{nm qn nm' qn':Str}{C W Nn Nn':Addr}{bs bm bs' bm':List Value}{hdct hdct':Bool}{sn sn':List Str}{sub sub':List Value}{ab ab':Bool}{col col':Option Bool}{dd dd':Option Addr}
 {k0 k1 k2 k3 k5 k0' k1' k2' k3' k5':Option Value}{newId newId':String}{e:Addr}{oe:Obj}{Q:Bool->Shared->Prop}
 (hC:s.heap.get? C=some (excClassObj nm qn C Nn bs bm hdct sn sub ab col dd k0 k1 k2 k3 k5 newId))(hW:s.heap.get? W=some (excClassObj nm' qn' W Nn' bs' bm' hdct' sn' sub' ab' col' dd' k0' k1' k2' k3' k5' newId'))
 (he:s.heap.get? e=some oe)(hcls:oe.cls = .ref C)(hb:bm'.contains (.type "BaseException")=true) (hs:(Value.ref C::bm).contains (.ref W)=true)(hq:Q true s):wpAny M A (excMatches (.ref e) (.ref W)) Q E s:=by
 obtain⟨h,g,d,t,os⟩:=s
 have hWB:(Value.ref W::bm').contains (.type "BaseException")=true:=by rw[List.contains_cons,hb,Bool.or_true]
 have f:=tc_notTuple
 unfold excMatches
 repeat (first | (with_reducible refine zA8 he ?_;rw[hcls]) | with_reducible refine zA8 hW ?_ | (with_reducible refine wpAny_isSubtype_exc hW ?_;rw[hWB]) | (with_reducible refine wpAny_isSubtype_exc hC ?_;rw[hs]) | wp_step)
 exact hq
end L2
namespace L2
open PySem PySem.Spec PyProof.Rows
noncomputable def subIn (K:PySem.W.Frag)(C W:Addr):Bool:=match K.lookup C with
 | some ⟨_,_,.cls cd,_⟩=>cd.mro.contains (.ref W)
 | _=>false
theorem sub_of {K:PySem.W.Frag}{h:Heap}{C W:Addr}{nm qn:Str}{Nn:Addr}{bs bm:List Value}{hdct:Bool}{sn:List Str}{sub:List Value}{ab:Bool}{col:Option Bool}{dd:Option Addr}{k0 k1 k2 k3 k5:Option Value}{newId:String}
 (X:K.In h)(q:subIn K C W=true)(hC:h.get? C=some (excClassObj nm qn C Nn bs bm hdct sn sub ab col dd k0 k1 k2 k3 k5 newId)):(Value.ref C::bm).contains (.ref W)=true:=by
 unfold subIn at q
 split at q
 . next look=>
   have e:=(X _ _ look).symm.trans hC
   unfold excClassObj at e
   cases e
   exact q
 . cases q
noncomputable def Cx.held (X:Cx)(ea:Addr)(oe:Obj):Cx:={ X with A:=X.A.mark (some (.ref ea)),calm:=false,pn:=(ea,oe)::X.pn,xe:=fun _ _=>False }
section
variable {X:Cx}{pins:List (Addr×Obj)}{σ:St}{H:Hp}{s:Shared}{ea:Addr}{oe:Obj}
theorem Inv.hold (I:Inv X pins σ H s)(h1:s.heap.get? ea=some oe)(h2:H ea=none)(h3:ea≠X.env.locals)(h4:ea∉X.fs)(h5:∀v,oe.data ≠ .cell v):Inv (X.held ea oe) pins σ H s:=
 ⟨⟨I.ok.mod,I.ok.kind,I.ok.glob,I.ok.blt,I.ok.above,I.ok.inj,I.ok.has,I.ok.cab,(fun z=>by cases z),I.ok.frames,I.ok.stk,I.ok.exf,I.ok.bs,I.ok.bsz,I.ok.noex,I.ok.exfs,I.ok.funs,I.ok.frf⟩,I.os,I.bare,I.base,I.loc,I.cell,I.free,I.freeC,
  fun p hp=>by
   rcases zW.mp (show p∈(ea,oe)::(X.pn++pins) from hp) with rfl | hp
   . exact⟨h1,h2,h3,h4,h5⟩
   . exact I.pin p hp,I.hok,I.len⟩
theorem Inv.letgo (ok:X.Ok)(I:Inv (X.held ea oe) pins σ H s):Inv X pins σ H s:=
 ⟨ok,I.os,I.bare,I.base,I.loc,I.cell,I.free,I.freeC,fun p hp=>I.pin p (zO _ hp),I.hok,I.len⟩
end
theorem zIx {st:List Env}{H1 H':Hp}{s1 s':Shared}{ea:Addr}{C a0:Value}{B h5:Heap}(un:Un (frs st) [] H1 H' s1.heap s'.heap)(fl:Heap.FlyingW B st ea C a0 s'.heap)
 (old:∀b o,s1.heap.get? b=some o->H1 b=none->b∉frs st->B.get? b=some o)(al:∀b o,s1.heap.get? b=some o->b∉frs st->∃o',B.get? b=some o')(st5:B.StaysIn h5)(up:s'.heap.UpToSlots h5):Un (frs st) [] H1 H' s1.heap h5:=by
 refine⟨fun b o e n hb _=>st5 b o (old b o e n hb),fun b o e n hb _=>?_,un.free,fun b o e _=>?_,un.tups,un.frzs,un.tbls⟩
 . obtain⟨sl2,e2⟩:=un.slot b o e n hb (by intro z;cases z)
   obtain⟨_,o3,e3,nd⟩:=fl.2.2.1.mem hb
   obtain⟨sl4,e4⟩:=up b _ e3 nd
   have e5:=za (e3.symm.trans e2)
   rw[e5] at e4
   exact⟨sl4,e4⟩
 . by_cases hb:b∈frs st
   . obtain⟨_,o3,e3,nd⟩:=fl.2.2.1.mem hb
     obtain⟨sl4,e4⟩:=up b _ e3 nd
     exact⟨_,e4⟩
   . obtain⟨o3,e3⟩:=al b o e hb
     exact⟨_,st5 b o3 e3⟩
noncomputable def endsH (i:Nat)(D:zH7):zH7:={ D with nx:=fun σ H=>D.nx (σ.set i none) H,bk:=fun σ H=>D.bk (σ.set i none) H,ct:=fun σ H=>D.ct (σ.set i none) H }
noncomputable def EH (K:PySem.W.Frag)(W:Addr)(ts:Addr->Obj->Addr->TS)(i:Nat)(D:zH7)(σ:St):XK:=fun C _ H'=>∃Ca,C = .ref Ca/\PySem.W.excIn K Ca bmV "ValueError.__new__" = true/\subIn K Ca W=true/\∀ea oe,oe.cls = .ref Ca->H' ea=none->ts ea oe Ca (endsH i D) (σ.set i (some (.ref ea))) H'
noncomputable def tTry (K:PySem.W.Frag)(W:Addr)(tb:XK->TS)(ts:Addr->Obj->Addr->TS)(i:Nat):TS:=fun D σ H=>tb (EH K W ts i D σ) D σ H
noncomputable def PX (X:Cx)(body:List Stmt)(tb:XK->TS):Prop:=∀(pins:List (Addr×Obj))(s:Shared)(σ:St)(H:Hp)(D:zH7)(E1:XK),Inv X pins σ H s->tb E1 D σ H ->
 wpAny (model X.prog X.w) X.A (execs body X.env) (SP X pins D) (fun e s'=>∃H1 s1,Inv X pins σ H1 s1/\CXO X.prog X.w X.stack H1 s1 E1 e s') s
theorem ps_try {X:Cx}{body:List Stmt}{n x:Str}{i:Nat}{b0:Stmt}{suite:List Stmt}{pos hpos np:Pos}{W:Addr}{tb:XK->TS}{ts:Addr->Obj->Addr->TS}(hN:X.N.Nodup)(hi:X.N[i]? = some n)(hk:X.env.kindOf n=some .local)
 (hst:X.stack=X.env::X.outer)(hfl:X.env.frame=some X.env.locals)(hex:X.ex=[])(hg:Gl X x)(hm:X.mg x=some (.ref W))(qW:PySem.W.excIn X.K W bmV "ValueError.__new__" = true)
 (hb:PX X body tb)(hs:∀(ea:Addr)(oe:Obj)(C:Addr),oe.cls = .ref C->PSs (X.held ea oe) (b0::suite) (ts ea oe C))(hd:(x==("__debug__" : Str))=false:=by decide) :
 PS X (.Try body [.ExceptHandler (some (.Name x np)) (some n) (b0::suite) hpos] [] [] pos) (tTry X.K W tb ts i):=by
 intro pins s σ H D I h
 refine wpAny_Try_except (zAM (hb pins s σ H D _ I h) (fun fl s' hq=>?_) fun e s' hq=>?_)
 . cases fl with
   | next=>exact wpAny_execs_nil hq
   | brk=>exact hq
   | cont=>exact hq
   | ret u=>exact hq
 . obtain⟨H1,s1,I1,ea,t,C,H',B,rfl,os,bare,un,hok,fl,tr,old,al,Ca,rfl,qC,sub,hts⟩:=hq
   have hfr:X.A.frames=some (X.env::X.outer):=by rw[<-hst];exact I.ok.frames
   have fl':=fl
   rw[hst] at fl'
   have hHe:H' ea=none:=by
    cases z:H' ea with
    | none=>rfl
    | some u=>
     obtain⟨o,ho⟩:=tr ea u z
     rw[fl.2.1] at ho;cases ho
   refine wpAny_looks_onW hfr hfl fl' fun h4 held up4=>?_
   refine wpAny_landsW held fun h5 fl5 up5=>?_
   have key:∀(h6:Heap),Heap.FlyingW B (X.env::X.outer) ea (.ref Ca) (.ref t) h6->s'.heap.UpToSlots h6->∃oe,h6.get? ea=some oe/\oe.cls = .ref Ca/\Inv (X.held ea oe) pins σ H' { s' with heap:=h6 }:=fun h6 fl6 up6=>by
    obtain⟨oe,ws,hoe,hc,hdt,_⟩:=fl6.first
    have un6:Un (frs X.stack) [] H1 H' s1.heap h6:=zIx un fl old al fl6.1 up6
    have I6:Inv X pins σ H' { s' with heap:=h6 }:=I1.call' (s':={ s' with heap:=h6 }) os un6 (hok.stays fl.1 fl6.1 tr) bare (fun b z=>absurd z (by simp))
    have nfr:ea∉frs X.stack:=fun z=>by
     rw[hst] at z
     obtain⟨_,o,ho,nd⟩:=fl6.2.2.1.mem z
     rw[hoe] at ho
     cases ho
     exact nd ws hdt
    have hfs:frs X.stack=X.env.locals::X.fs:=by
     rw[hst]
     unfold frs
     rw[zBr,hfl]
     rfl
    rw[hfs] at nfr
    exact⟨oe,hoe,hc,I6.hold hoe hHe (fun z=>nfr (z ▸ zN)) (fun z=>nfr (zO _ z)) (fun v z=>by rw[hdt] at z;cases z)⟩
   obtain⟨oe5,hoe5,hc5,I5⟩:=key h5 fl5 (up4.trans up5)
   refine wpAny_handleBy_cons (codeAny_handlers_test (zDX (X:=X.held ea oe5) I5 hg hm ?_ hd)) (by intro q;cases q)
   obtain⟨bm,Nn,nm,qn,bs,hdct,sn,sb,ab,col,dd,k0,k1,k2,k3,k5,mN,hC,_,_,_⟩:=zGg I5.kIn qC
   obtain⟨bm',Nn',nm',qn',bs',hdct',sn',sb',ab',col',dd',k0',k1',k2',k3',k5',mN',hW,_,_,TW⟩:=zGg I5.kIn qW
   refine zHl hC hW hoe5 hc5 (TW.hasType (by rfl)) (sub_of I5.kIn sub hC) ?_
   refine codeAny_handlers_suite_as (lands_againW fl5 fun h6 fl6 up6=>?_)
   obtain⟨oe6,hoe6,hc6,I6⟩:=key h6 fl6 ((up4.trans up5).trans up6)
   refine zCY (X:=X.held ea oe6) I6 hN hi (.inl hk) (v:=.ref ea) rfl (fun s7 I7=>?_) (.inr hk)
   refine zAM (hs ea oe6 Ca hc6 pins s7 _ H' (endsH i D) I7 (hts ea oe6 hc6 hHe)) (fun f s8 hq=>?_) fun _ _ z=>z.elim
   have fin:∀{σ':St}{H2:Hp}{Q:Unit->Shared->Prop},Inv (X.held ea oe6) pins σ' H2 s8->(∀s9,Inv X pins (σ'.set i none) H2 s9->Q () s9)->wpAny (model X.prog X.w) X.A (do bindName X.env n .none;unbindBehindTheSuite X.env n hpos) Q X.xe s8:=fun {σ' H2 Q} J hQ=>by
    have J1:=Inv.letgo I.ok J
    have hiσ:i<σ'.length:=by rw[J1.len];exact (zJ.mp hi).1
    refine zA (wpAny_bindName (zCY J1 hN hi (.inl hk) (v:=.non) rfl (fun s9 J2=>?_) (.inr hk)))
    unfold unbindBehindTheSuite
    refine wpAny_onRaise (zH9 J2 hN hi hk (v:=.non) (List.getElem?_set_self hiσ) fun s10 J3=>?_)
    rw[List.set_set] at J3
    exact hQ s10 J3
   cases f with
   | next=>
    obtain⟨σ',H2,J,q⟩:=hq
    exact fin J fun s9 J9=>⟨_,H2,J9,q⟩
   | brk=>
    obtain⟨σ',H2,J,q⟩:=hq
    exact fin J fun s9 J9=>⟨_,H2,J9,q⟩
   | cont=>
    obtain⟨σ',H2,J,q⟩:=hq
    exact fin J fun s9 J9=>⟨_,H2,J9,q⟩
   | ret u=>
    obtain⟨v,σ',H2,J,r,q⟩:=hq
    exact fin J fun s9 J9=>⟨v,_,H2,J9,r,q⟩
end L2
namespace L2
open PySem PySem.Spec PySem.W PyProof.Rows Builtin Builtin.ObjectAttr Builtin.Getset_descriptor
section
variable {prog:Program}{w:World}{A:Around}{E:Value->Shared->Prop}{s:Shared}{K:Frag}{x C:Addr}{ox:Obj}
structure zEX (K:Frag)(C:Addr):Prop where
 ga:findIn K (.ref C) "__getattribute__" = some (some (.builtin "BaseException.__getattribute__"))
 gn:findIn K (.ref C) "__getattr__" = some none
 cl:findIn K (.ref C) "__class__" = some (some (.builtin "object.__class__"))
 mo:mroIn K C (.type "object")=some true
 mb:mroIn K C (.type "BaseException")=some true
 ci:(clsIn K C).isSome=true
noncomputable def zDj (h:Heap)(x C:Addr):Prop:=∃o,h.get? x=some o/\o.cls = .ref C
theorem zDj.type {M:Model}{h:Heap}{x C:Addr}(I:zDj h x C):Looks M h (typeOf (.ref x)) (.ref C):=by
 obtain⟨o,e,c⟩:=I
 rw[<-c]
 exact (Looks.ld e).andThen .now
theorem zKM {tp:Value}{R:Result->Shared->Prop}(X:K.In s.heap)(I:zDj s.heap x C)(hm:mroIn K C (.type "object")=some true) (h:R (.ok (.ret (.ref C))) s) :
 codeAny (model prog w) A (.call (.builtin "getset_descriptor.__get__") ⟨[.builtin "object.__class__",.ref x,tp],[]⟩) R s:=by
 obtain⟨h0,g0,d0,t0,o0⟩:=s
 have T0:=I.type (M:=model prog w)
 have T1:=looks_mroIn (M:=model prog w) X hm
 refine codeAny_call_builtin KF.slot_gs.plain KF.entry_gs (KF.slot_gs.check _ _ _ _ _ _ _ _ KF.type_class (KF.args_gs _ _ _) ?_)
 unfold Builtin.«getset_descriptor.__get__» descrGet;rw[dga_obj]
 apply zA;apply zB
 unfold descrGetter descrCheckInstance descrNameAndClass isInstance;simp only[KF.owner_class]
 repeat lk
 refine⟨Code.quiet_builtin _ (by decide +kernel),codeAny_builtin KF.entry_class (?_:wpAny _ _ _ _ _ _)⟩
 unfold Builtin.«object.__class__»;unfold shownTypeOf
 repeat lk
 exact h
theorem zJB {tk:Tok}{Q:PySem.Fin->Shared->Prop}(X:K.In s.heap)(I:zDj s.heap x C)(F':zEX K C)(hq:Q (.done (.ret (.ref C))) s) :
 wpAny (model prog w) A (Builtin.«object.__getattribute__» ⟨[.ref x,.str "__class__" tk],[]⟩) Q E s:=by
 obtain⟨h,g,d,t,os⟩:=s
 have L0:=I.type (M:=model prog w)
 have L1:=looks_findIn (M:=model prog w) X F'.cl
 have hT5:(⟨h,g,d,t,os⟩:Shared).TypeIs (.builtin "object.__class__") "getset_descriptor" := F.typeOf_object_class
 have f5:=F.typeOf_object_class
 have f6:=F.slot_gs_get.lookup
 have f7:=F.slot_gs_set.lookup
 repeat (any_goals (first | assumption | with_reducible refine L0.at ?_ | with_reducible refine L1.at ?_ | wp_step))
 refine zKM (s:=⟨h,g,d,t,os⟩) X I F'.mo ?_
 repeat (any_goals (first | assumption | wp_step))
theorem zJC {M:Model}{nameV:Value}{Q:Unit->Shared->Prop}(X:K.In s.heap)(I:zDj s.heap x C)(F':zEX K C)(hq:Q () s):wpAny M A (checkBuiltinCall "BaseException.__getattribute__" ⟨[.ref x,nameV],[]⟩) Q E s:=by
 obtain⟨h,g,d,t,os⟩:=s
 have L0:=I.type (M:=M)
 have L1:=looks_mroIn (M:=M) X F'.mb
 have e1:builtinKind "BaseException.__getattribute__" = some .slot:=by decide +kernel
 have e2:splitId "BaseException.__getattribute__" = some ("BaseException", "__getattribute__"):=by decide +kernel
 have ha:=F.args_bexc_ga (.ref x) nameV
 simp only[checkBuiltinCall,e1,e2]
 refine zA ?_
 unfold isInstance
 repeat (any_goals (first | assumption | with_reducible refine L0.at ?_ | with_reducible refine L1.at ?_ | wp_step))
theorem zKN {tk:Tok}{R:Result->Shared->Prop}(X:K.In s.heap)(I:zDj s.heap x C)(F':zEX K C)(hq:R (.ok (.ret (.ref C))) s) :
 codeAny (model prog w) A (.call (.builtin "BaseException.__getattribute__") ⟨[.ref x,.str "__class__" tk],[]⟩) R s:=
 codeAny_call_builtin F.attrBase_ValueError.ga.plain F.entry_bexc_ga (zJC X I F' (zJB X I F' hq))
theorem exc_by {tk:Tok}{fill:Bool}{Q:Value->Shared->Prop}(X:K.In s.heap)(I:zDj s.heap x C)(F':zEX K C)(hq:Q (.ref C) s):wpAny (model prog w) A (getAttrBy (.ref x) (.str "__class__" tk) fill) Q E s:=by
 obtain⟨h,g,d,t,os⟩:=s
 have L0:=I.type (M:=model prog w)
 have L1:=looks_findIn (M:=model prog w) X F'.ga
 have L2:=looks_findIn (M:=model prog w) X F'.gn
 have f3:=F.attrBase_ValueError.ga.bind (.ref x)
 have hx2:(Value.builtin "BaseException.__getattribute__" == Value.builtin "object.__getattribute__")=false:=by decide +kernel
 have hx1:(onTheHeap (Value.ref C) && Value.builtin "BaseException.__getattribute__" == Value.builtin "object.__getattribute__")=false:=by rw[hx2];rfl
 repeat (any_goals (first | assumption | with_reducible refine L0.at ?_ | with_reducible refine L1.at ?_ | with_reducible refine L2.at ?_ | wp_step))
 refine zKN (s:=⟨h,g,d,t,os⟩) X I F' ?_
 repeat (any_goals (first | assumption | wp_step))
theorem zKO {Q:Option Value->Shared->Prop}(X:K.In s.heap)(I:zDj s.heap x C)(F':zEX K C)(hq:Q (some (.ref C)) { s with toks:=s.toks+1 }):wpAny (model prog w) A (getAttr? (.ref x) "__class__") Q E s:=by
 obtain⟨h,g,d,t,os⟩:=s
 unfold getAttr? getAttrBy?
 repeat (any_goals (first | assumption | with_reducible apply exc_by (s:=⟨h,g,d,t+1,os⟩) X I F' | wp_step))
theorem zFE (F':zEX K C):KitX K (.ref x) (.ref C) (fun h=>zDj h x C) where
 ty:=fun _ _ _ I=>I.type
 it:=fun _ _ X _=>by
  obtain⟨cdD,hcD⟩:=zBn.mp F'.ci
  unfold clsIn at hcD
  split at hcD
  . next ho=>
    intro A' Q' E' s' k q
    unfold isType loadHead
    exact zA (wpAny_loadPart (k _ _ (X _ _ ho)) (zB q))
  . cases hcD
 ne:=fun h tp dd its n sl X htp=>by
  obtain⟨cdD,hcD⟩:=zBn.mp F'.ci
  refine Bool.eq_false_iff.mpr fun q=>?_
  have e:C=tp:=Value.ref.inj (beq_iff_eq.mp q)
  subst e
  unfold clsIn at hcD
  split at hcD
  . next ho=>
    have z:=(X _ _ ho).symm.trans htp
    cases z
  . cases hcD
 ca:=fun X I k=>zKO X I F' k
end
structure zGJ (X:Cx)(ea C:Addr):Prop where
 pin:∃oe,(ea,oe)∈X.pn/\oe.cls = .ref C
section
variable {X:Cx}
theorem zEG {pins:List (Addr×Obj)}{σ:St}{H:Hp}{s:Shared}{ea C:Addr}(h:zGJ X ea C)(I:Inv X pins σ H s):zDj s.heap ea C:=by
 obtain⟨oe,hp,hc⟩:=h.pin
 obtain⟨e,_⟩:=I.pin (ea,oe) (zu _ hp)
 exact⟨oe,e,hc⟩
theorem zGB {ea C:Addr}(hh:zGJ X ea C):zCd X (.builtin "isinstance") (fun xs H Q=>∃W b,zEX X.K C/\xs=[.ref ea,.ref W]/\PySem.W.kitOne X.K (.ref C) (.ref W)=some b/\Q (.bl b) H):=by
 intro pins s σ H xs us Q I r h
 obtain⟨W,b,F',rfl,e,q⟩:=h
 obtain⟨u,w',rfl,rx,rT⟩:=zHW r
 cases (show u=Value.ref ea from rx)
 cases (show w'=Value.ref W from rT)
 have J:=zEG hh I
 exact PySem.W.kia_one (zFE F') I.kIn J e (fun z=>nomatch z) fun tk=>⟨.bl b,H,I.tok tk,rfl,q⟩
theorem zFK {ea C:Addr}(hh:zGJ X ea C):zCd X (.builtin "isinstance") (fun xs H Q=>∃T b,zEX X.K C/\xs=[.ref ea,.ty T]/\PySem.W.kitOne X.K (.ref C) (.type T)=some b/\Q (.bl b) H):=by
 intro pins s σ H xs us Q I r h
 obtain⟨T,b,F',rfl,e,q⟩:=h
 obtain⟨u,w',rfl,rx,rT⟩:=zHW r
 cases (show u=Value.ref ea from rx)
 cases (show w'=Value.type T from rT)
 have J:=zEG hh I
 exact PySem.W.kia_one (zFE F') I.kIn J e (fun z=>nomatch z) fun tk=>⟨.bl b,H,I.tok tk,rfl,q⟩
theorem zDO {ea C:Addr}(hh:zGJ X ea C):zCd X (.builtin "isinstance") (fun xs H Q=>∃(tp:Addr)(Ws:List Addr)(b:Bool),zEX X.K C/\xs=[.ref ea,.ref tp]/\H tp=some (.tup (Ws.map V.ref))/\PySem.W.kitAny X.K (.ref C) (Ws.map Value.ref)=some b/\Q (.bl b) H):=by
 intro pins s σ H xs us Q I r h
 obtain⟨tp,Ws,b,F',rfl,ht,e,q⟩:=h
 obtain⟨u,w',rfl,rx,rT⟩:=zHW r
 cases (show u=Value.ref ea from rx)
 cases (show w'=Value.ref tp from rT)
 have J:=zEG hh I
 obtain⟨⟨z,o2,e2,d2⟩,its,rv,ob,e3,c3,n3,s3⟩:=(show zBc X.prog X.w H s.heap tp (.tup (Ws.map V.ref)) from I.hok tp _ ht)
 have hits:its=Ws.map Value.ref:=by
  have:∀(Ws:List Addr)(its:List Value),zBK (Ws.map V.ref) its->its=Ws.map Value.ref:=by
   intro Ws
   induction Ws with
   | nil=>intro its h;cases h;rfl
   | cons a r ih=>
    intro its h
    cases h with
    | cons h1 h2=>rw[ih _ h2,show _=Value.ref a from h1];rfl
  exact this Ws its rv
 obtain⟨c',d',da',sl'⟩:=ob
 simp only at c3 s3
 subst c3 s3 hits
 exact PySem.W.kia_tup (zFE F') I.kIn J e3 e (fun z=>nomatch z) fun tk=>⟨.bl b,H,I.tok tk,rfl,q⟩
theorem zFG {X:Cx}{ea C:Addr}{oe:Obj}(h:oe.cls = .ref C):zGJ (X.held ea oe) ea C:=⟨⟨oe,zN,h⟩⟩
variable {k:Nat}{f:Addr}{fd:FuncData}{ps:List Str}{sp:Sp}{x:Str}{p pos epos:Pos}{e:Expr}{es:List Expr}{t:TA}
theorem call_x {pins:List (Addr×Obj)}{s:Shared}{σ:St}{H:Hp}{Q:VK}{E1:XK}(F:zAa X.prog X.w X.K X.mg X.base (CXO X.prog X.w) k f fd ps sp)(hr:zCm k X.A)(hg:Gl X x)(hm:X.mg x=some (.ref f))(hk:PySem.W.keepIn X.K (.ref f)=true)(hb:zAH X.K fd ps [])
 (ha:PA X.nox (e::es) t)(I:Inv X pins σ H s)(h:t σ H fun vs H1=>sp vs H1 Q E1)(hdb:(x==("__debug__" : Str))=false:=by decide) (he:starEach (e::es) X.env=(false,eval e X.env)::starEach es X.env:=by rfl)(hpl:(backTo pos (starEach es X.env)).any (·.1)=false:=by rfl) :
 wpAny (model X.prog X.w) X.A (eval (.Call (.Name x p) (e::es) [] pos) X.env) (EP X pins σ Q) (fun e s'=>∃H1 s1,Inv X pins σ H1 s1/\CXO X.prog X.w X.stack H1 s1 E1 e s') s:=by
 refine zAu (zDX I hg hm ?_ hdb)
 refine PySem.W.callWith_K (h₀:=X.base) I.ok.mod.kin hk (zAM (ha pos pins s σ H _ (I.wish _) h) (fun us s1 ⟨vs,H1,I1,r,q⟩=>⟨I1.unwish.kIn,?_⟩) fun _ _ z=>False.elim z) he hpl
 have I2:=I1.unwish
 have hl:us.length=ps.length:=by rw[<-r.length];exact F.len _ _ _ _ q
 refine zBS (codeAny_mono (F.run X.A X.stack s1 H1 ⟨us,[]⟩ us vs Q E1 hr I2.env0 (by have:=hb s1 us I2.kIn (by rw[zw];exact hl);rw[zw] at this;exact this) r q) fun r s' hq=>?_)
 cases r with
 | error e=>exact⟨H1,s1,I2,hq⟩
 | ok fl=>
  cases fl with
  | ret u=>exact I2.after hq
  | next=>exact False.elim hq
  | brk=>exact False.elim hq
  | cont=>exact False.elim hq
end
end L2
namespace L2
open PySem PySem.Spec PyProof.Rows
noncomputable def DK (h h':Heap):Prop:=∀b o,h.get? b=some o->∃o',h'.get? b=some o'/\o'.dict=o.dict
theorem DK.refl (h:Heap):DK h h:=fun _ o e=>⟨o,e,rfl⟩
theorem DK.trans {h1 h2 h3:Heap}(a:DK h1 h2)(b:DK h2 h3):DK h1 h3:=fun x o e=>by
 obtain⟨o1,e1,d1⟩:=a x o e
 obtain⟨o2,e2,d2⟩:=b x o1 e1
 exact⟨o2,e2,d2.trans d1⟩
noncomputable def KD {α:Type}:Sem α->Prop
 | .pure _=>True
 | .raise _=>True
 | .unsupported _=>True
 | .finish _=>True
 | .rule _ k=>KD (k ())
 | .at _ k=>KD (k ())
 | .load _ _ k=>∀o,KD (k o)
 | .update _ _ f k=>(∀o,(f o).dict=o.dict/\(o.isFreed=false->(f o).isFreed=false))/\KD (k ())
 | .alloc _ k=>∀a,KD (k a)
 | .loadIfAlive _ k=>∀o,KD (k o)
 | .point _ k=>KD (k ())
 | .fresh k=>∀t,KD (k t)
 | .ask k=>∀x,KD (k x)
 | .stack k=>∀l,KD (k l)
 | .handled _ k=>∀v,KD (k v)
 | _=>False
theorem KD.bind {α β:Type}{t:Sem α}{k:α->Sem β}(h:KD t)(hk:∀a,KD (k a)):KD (t >>= k):=by
 show KD (Sem.bind t k)
 induction t with
 | pure a=>exact hk a
 | raise e=>trivial
 | unsupported w=>trivial
 | finish e=>trivial
 | rule t f ih=>exact ih () h
 | «at» p f ih=>exact ih () h
 | load a p f ih=>exact fun o=>ih o (h o)
 | update a p f g ih=>exact⟨h.1,ih () h.2⟩
 | alloc o f ih=>exact fun a=>ih a (h a)
 | loadIfAlive a f ih=>exact fun o=>ih o (h o)
 | point l f ih=>exact ih () h
 | fresh f ih=>exact fun t=>ih t (h t)
 | ask f ih=>exact fun x=>ih x (h x)
 | stack f ih=>exact fun l=>ih l (h l)
 | handled o f ih=>exact fun v=>ih v (h v)
 | register=>exact h.elim
 | choose=>exact h.elim
 | os=>exact h.elim
 | call=>exact h.elim
 | newGen=>exact h.elim
 | genState=>exact h.elim
 | resume=>exact h.elim
 | yield=>exact h.elim
 | fork=>exact h.elim
 | thread=>exact h.elim
 | await=>exact h.elim
theorem KD.wp {α:Type}{M:Model}{Γ : PySem.Ctx}{t:Sem α}(h:KD t){h0:Heap}{Q:α->Pos->Shared->Prop}{E:Value->Pos->Shared->Prop}:∀{p:Pos}{s:Shared},DK h0 s.heap->Sem.wp M Γ t Q E p s->Sem.wp M Γ t (fun a p' s'=>Q a p' s'/\DK h0 s'.heap) E p s:=by
 induction t with
 | pure a=>exact fun d w=>⟨w,d⟩
 | raise e=>exact fun d w=>w
 | unsupported w=>exact fun d w=>w
 | finish e=>exact fun d w=>w
 | rule t f ih=>exact fun d w=>ih () h d w
 | «at» p f ih=>exact fun d w=>ih () h d w
 | load a p f ih=>
  intro p s d w
  obtain⟨o,e,w⟩:=w
  exact⟨o,e,ih o (h o) d w⟩
 | update a p f g ih=>
  intro p s d w
  obtain⟨e,w⟩:=w
  refine⟨e,ih () h.2 (d.trans fun b o q=>?_) w⟩
  by_cases c:b=a
  . subst c
    have fr:=(Heap.get?_some_iff.mp q).2
    exact⟨f o,zi f q ((h.1 o).2 fr),(h.1 o).1⟩
  . exact⟨o,(zAi _ _ (Ne.symm c)).trans q,rfl⟩
 | alloc o f ih=>
  intro p s d w
  exact ih _ (h _) (d.trans fun b o q=>⟨o,zE _ q,rfl⟩) w
 | loadIfAlive a f ih=>exact fun d w=>ih _ (h _) d w
 | point l f ih=>exact fun d w=>ih () h d w
 | fresh f ih=>exact fun d w=>ih _ (h _) d w
 | ask f ih=>exact fun d w=>ih _ (h _) d w
 | stack f ih=>exact fun d w=>ih _ (h _) d w
 | handled o f ih=>exact fun d w=>ih _ (h _) d w
 | register=>exact h.elim
 | choose=>exact h.elim
 | os=>exact h.elim
 | call=>exact h.elim
 | newGen=>exact h.elim
 | genState=>exact h.elim
 | resume=>exact h.elim
 | yield=>exact h.elim
 | fork=>exact h.elim
 | thread=>exact h.elim
 | await=>exact h.elim
theorem zGr {α:Type}{M:Model}{A:Around}{t:Sem α}{Q:α->Shared->Prop}{E:Value->Shared->Prop}{s:Shared}(k:KD t)(h:wpAny M A t Q E s):wpAny M A t (fun a s'=>Q a s'/\DK s.heap s'.heap) E s:=
 fun Γ p hΓ => k.wp (DK.refl _) (h Γ p hΓ)
theorem zDE {α:Type}{c:Prop} [Decidable c] {a b:Sem α}(h1:KD a)(h2:KD b):KD (if c then a else b):=by split <;> assumption
theorem zGd (v:Value):KD (fieldsOf v):=by
 unfold fieldsOf
 split
 . refine KD.bind (fun o=>trivial) fun o=>?_
   split <;> trivial
 . trivial
theorem zDm (v:Value)(i:Nat):KD (field v i):=by
 unfold field
 refine KD.bind (zGd v) fun vs=>?_
 split <;> trivial
theorem zI8 (g:Array Value->Array Value)(o:Obj):(Obj.mapFields g o).dict=o.dict/\(o.isFreed=false->(Obj.mapFields g o).isFreed=false):=by
 obtain⟨c,d,dt,sl⟩:=o
 cases dt <;> exact⟨rfl,fun h=>h⟩
theorem zC2 (v:Value)(i:Nat)(x:Value):KD (setField v i x):=by
 unfold setField
 split
 . unfold updateField
   refine KD.bind (fun o=>trivial) fun o=>?_
   split
   . exact zDE ⟨fun o=>zI8 _ o,trivial⟩ trivial
   . trivial
 . trivial
theorem zFt (e:Value)(f:Option Addr):KD (setFlight e f):=by
 unfold setFlight
 refine KD.bind (zDm e 1) fun tb=>zDE (zC2 _ _ _) trivial
theorem zFu:KD frameEnvs:=by
 unfold frameEnvs
 exact KD.bind (fun l=>trivial) fun l=>trivial
theorem zI1 (env:Env)(l:List Env):KD (behindIsImport env l):=by
 unfold behindIsImport
 exact zDE trivial (zDE trivial (KD.bind (zDm _ _) fun _=>trivial))
theorem zLk (env:Env)(b:Bool)(l:List Env):KD (keptBack env b l):=by
 unfold keptBack
 split
 . refine zDE trivial ?_
   refine KD.bind ?_ fun _=>trivial
   unfold underTheClaimsCaller
   exact KD.bind (fun l=>trivial) fun l=>trivial
 . trivial
theorem zHB:∀l:List Env,KD (readyFrames l)
 | []=>trivial
 | env::outer=>by
  unfold readyFrames
  split
  . refine KD.bind (fun o=>trivial) fun o=>?_
    refine zDE trivial ?_
    refine KD.bind (zI1 _ _) fun b=>?_
    refine KD.bind (zLk _ _ _) fun b=>?_
    refine KD.bind ⟨fun o=>⟨rfl,fun h=>(by obtain⟨c,d,dt,sl⟩:=o;cases dt <;> exact h)⟩,trivial⟩ fun _=>zHB outer
  . trivial
theorem zHr (env:Env):KD (PySem.frameOf env):=by
 unfold PySem.frameOf
 refine KD.bind zFu fun l=>?_
 refine KD.bind ?_ fun r=>?_
 . unfold frameObject
   split
   . trivial
   . exact KD.bind (zHB _) fun _=>trivial
 . split <;> trivial
theorem zKD (f:Addr)(b:Bool):KD (entryPlaceOf f b):=by
 unfold entryPlaceOf
 refine KD.bind (fun l=>trivial) fun l=>?_
 split <;> trivial
theorem zKE (a b c d e:Value)(l:List Value):KD (EntryCells.newEntry a b c d e l):=by
 unfold EntryCells.newEntry newFields newObj
 have fin:∀d:Data,KD (newObjAsIs (.type "traceback") d):=fun d=>by
  unfold newObjAsIs
  exact KD.bind (fun a=>trivial) fun a=>trivial
 simp only[]
 exact zDE (KD.bind trivial fun _=>fin _) (fin _)
theorem zLj (e:Value)(env:Env):KD (noteFrame e env):=by
 unfold noteFrame
 split
 . refine KD.bind (zDm _ _) fun hd=>?_
   have fin:∀f:Addr,KD (do setField e 1 (<-EntryCells.newEntry hd (<-PySem.frameOf env) .none (rawInt f) .none (<-entryPlaceOf f (hd != .none)))):=fun f=>
    KD.bind (zHr env) fun a=>KD.bind (zKD _ _) fun pl=>KD.bind (zKE _ _ _ _ _ _) fun b=>zC2 _ _ _
   refine zDE ?_ (fin _)
   refine KD.bind (zDm _ _) fun x=>zDE trivial ?_
   exact KD.bind (zC2 _ _ _) fun _=>fin _
 . trivial
theorem zEi (env:Env)(e:Value):KD (leaving env e):=KD.bind (zLj e env) fun _=>zFt e none
end L2
namespace L2
open PySem PySem.Spec PyProof.Rows
noncomputable def excI (K:PySem.W.Frag)(C:Addr):Bool:=match K.lookup C with
 | some ⟨.type "type",_,.cls u,z⟩=>
  match u.mro,z.toList with
  | .ref D::b,[_,_,_,_,some (.builtin m),_]=>D==C && m == "ValueError.__new__" && !u.hasDel && PySem.W.tailIn K bmV b && PySem.W.nsOkIn K u.ns && u.hasDict
  | _,_=>false
 | _=>false
theorem zDI {K:PySem.W.Frag}{h:Heap}{C:Addr}(X:K.In h)(q:excI K C=true) :
 ∃bm N nm qn bs sn sub ab col dd k0 k1 k2 k3 k5 mN,h.get? C=some (excClassObj nm qn C N bs bm true sn sub ab col dd k0 k1 k2 k3 k5 "ValueError.__new__")/\h.Ns N mN/\OwnTail h bmV bm:=by
 unfold excI at q
 split at q
 . next dd cd sl look=>
   split at q
   . next D bm k0 k1 k2 k3 n k5 em es=>
     simp only[zAz,beq_iff_eq,Bool.not_eq_true'] at q
     obtain⟨⟨⟨⟨⟨q1,q2⟩,q3⟩,q4⟩,q5⟩,q6⟩:=q
     subst q1 q2
     cases cd
     simp only at em q3 q5 q6
     subst em q3 q6
     cases sl
     simp only at es
     subst es
     exact⟨_,_,_,_,_,_,_,_,_,_,_,_,_,_,_,_,X _ _ look,.of_isNs (PySem.W.isNs_of_in X q5),PySem.W.tail_of_in X q4⟩
   . cases q
 . cases q
structure zHT (K:PySem.W.Frag)(C fI:Addr):Prop where
 cl:excI K C=true
 ini:PySem.W.findIn K (.ref C) "__init__" = some (some (.ref fI))
 fn:PySem.W.isFn K (.ref fI)=true
 sa:PySem.W.findIn K (.ref C) "__setattr__" = some (some (.builtin "object.__setattr__"))
 kp:PySem.W.keepIn K (.ref C)=true
noncomputable def zEo (C t:Addr)(od:Option Addr):Obj:={ cls:=.ref C,dict:=od,data:=.fields #[.ref t,.none,.none,.none,.bool false,.none] }
noncomputable def xTup (us:List Value):Obj:={ cls:=.type "tuple",data:=.seq us.toArray }
section
variable {prog:Program}{w:World}{A:Around}{E:Value->Shared->Prop}{h:Heap}{g:Array GenState}{d:Drawn}{t:Nat}{os:OsState}{K:PySem.W.Frag}{C fI:Addr}{us:List Value}
noncomputable def zKI (h:Heap)(C:Addr)(us:List Value):Heap:=(h.push (xTup us)).push (zEo C h.objs.size none)
theorem zFw (h:Heap)(C:Addr)(us:List Value):∀b o,h.get? b=some o->(zKI h C us).get? b=some o:=fun _ _ e=>zE _ (zE _ e)
theorem zKm (h:Heap)(C:Addr)(us:List Value):(zKI h C us).get? (h.objs.size+1)=some (zEo C h.objs.size none):=Heap.get?_push_at (by rw[zAg]) rfl
theorem zIu {Q:PySem.Fin->Shared->Prop}(X:K.In h)(I:zHT K C fI)(hz:us.length<=sizeLine)
 (hq:wpAny (model prog w) A (call (.ref fI) (.ref (h.objs.size+1)::us)) (fun r s'=>r = .none/\Q (.done (.ret (.ref (h.objs.size+1)))) s') E ⟨zKI h C us,g,d,t,os⟩) :
 wpAny (model prog w) A (Builtin.«type.__call__» ⟨.ref C::us,[]⟩) Q E ⟨h,g,d,t,os⟩:=by
 obtain⟨bm,N,nm,qn,bs,sn,sub,ab,col,dd,k0,k1,k2,k3,k5,mN,hC,hN,T⟩:=zDI X I.cl
 have F:=PySem.F.excBase_ValueError
 repeat (first | with_reducible refine zA8 hC ?_ | with_reducible refine wpAny_madeBy_exc hC ?_ | wp_step)
 refine codeAny_call_builtin_code (Code.quiet_builtin _ F.quiet) (wpAny_check_new_subT F T hC (codeAny_exc_new_subT F T hC ?_ hz))
 show wpAny _ _ _ _ _ ⟨zKI h C us,g,d,t,os⟩
 have hC1:=zFw h C us _ _ hC
 have he1:(zKI h C us).get? (h.objs.size+1)=some { cls:=.ref C,data:=.fields #[.ref h.objs.size,.none,.none,.none,.bool false,.none] }:=zKm h C us
 have X1:K.In (zKI h C us):=X.keeps (zFw h C us)
 have own:(Value.ref C::bm).contains (.ref C)=true:=by simp
 unfold isInstance
 repeat (first | with_reducible refine zA8 he1 ?_ | (with_reducible refine wpAny_isSubtype_exc hC1 ?_;rw[own]) | wp_step)
 have L:=PySem.W.looks_findIn (M:=model prog w) X1 I.ini
 refine L.at ?_
 refine zq (zA ?_)
 refine (PySem.W.bind_fn (M:=model prog w) X1 (.ref (h.objs.size+1)) (beq_iff_eq.mp I.fn)).at ?_
 refine zA (zAM hq (fun r s' hr=>?_) fun _ _ z=>z)
 obtain⟨rfl,hQ⟩:=hr
 wp_walk
 exact hQ
theorem zJV {Q:Value->Shared->Prop}(X:K.In h)(I:zHT K C fI)(hz:us.length<=sizeLine)
 (hq:wpAny (model prog w) (A.under (.builtin "type.__call__" ⟨.ref C::us,[]⟩)) (call (.ref fI) (.ref (h.objs.size+1)::us)) (fun r s'=>r = .none/\Q (.ref (h.objs.size+1)) s') E ⟨zKI h C us,g,d,t,os⟩) :
 wpAny (model prog w) A (call (.ref C) us) Q E ⟨h,g,d,t,os⟩:=by
 obtain⟨bm,N,nm,qn,bs,sn,sub,ab,col,dd,k0,k1,k2,k3,k5,mN,hC,hN,T⟩:=zDI X I.cl
 have f1:=tc_lookup
 have f2:=tc_bind (.ref C)
 have hT:(⟨h,g,d,t,os⟩:Shared).TypeIs (.ref C) "type" := ⟨_,hC,rfl⟩
 refine zBS (codeAny_of_tree ?_)
 show wpAny _ _ (callAny (.ref C) _) _ _ _
 repeat (any_goals (first | assumption | with_reducible refine zA8 hC ?_ | wp_step))
 refine⟨rfl,?_⟩
 exact codeAny_call_builtin_at (Code.quiet_builtin _ (by decide +kernel)) entry_typeCall (wpAny_check_type_call_sub hC (zIu X I hz hq))
end
end L2
namespace L2
open PySem PySem.Spec PyProof.Rows
theorem zDv {h:Heap}{bm:List Value}(T:OwnTail h bmV bm)(self:Value):refuseLoop self "__setattr__" bm=pure ():=by
 induction T with
 | base=>exact PySem.F.store_ValueError.passes self
 | own _ _ _ _ ih=>rw[refuseLoop_ref];exact ih
section
variable {prog:Program}{w:World}{A:Around}{E:Value->Shared->Prop}{h:Heap}{g:Array GenState}{d:Drawn}{t:Nat}{os:OsState}{K:PySem.W.Frag}{C fI x tt:Addr}{name:Str}{v:Value}
theorem zIN {M:Model}{od:Option Addr}{nameV:Value}{Q:Unit->Shared->Prop}(X:K.In h)(mo:PySem.W.mroIn K C (.type "object")=some true) (hx:h.get? x=some (zEo C tt od))(hq:Q () ⟨h,g,d,t,os⟩) :
 wpAny M A (checkBuiltinCall "object.__setattr__" ⟨[.ref x,nameV,v],[]⟩) Q E ⟨h,g,d,t,os⟩:=by
 have L0:=(show zDj h x C from ⟨_,hx,rfl⟩).type (M:=M)
 have L1:=PySem.W.looks_mroIn (M:=M) X mo
 have ha:=PySem.F.store_ValueError.args (.ref x) nameV v
 have e1:=PySem.F.store_ValueError.kind
 have e2:=PySem.F.store_ValueError.split
 simp only[checkBuiltinCall,e1,e2]
 refine zA ?_
 unfold isInstance
 repeat (any_goals (first | assumption | with_reducible refine L0.at ?_ | with_reducible refine L1.at ?_ | wp_step))
theorem zKd {M:Model}{tk:Tok}{dx:Addr}{mA:Str->Option Value}{ns:List Str}{Q:PySem.Fin->Shared->Prop}(hns:h.Ns1 dx mA)(hw:PySem.Within mA ns)(hz:ns.length<1000)
 (hq:∀h' tk',h'.Ns1 dx (fun y=>if y=name then some v else mA y)->(∀b,b≠dx->h'.get? b=h.get? b)->Q (.done (.ret .none)) ⟨h',g,d,tk',os⟩) :
 wpAny M A (Builtin.ObjectAttr.storeInDict dx (.str name tk) name v) Q E ⟨h,g,d,t,os⟩:=by
 unfold Builtin.ObjectAttr.storeInDict Builtin.ObjectAttr.newKeyGuard
 refine zA (zB (zA (wpAny_nsSet1 hns fun h' hn' hs=>?_)))
 obtain⟨oD,esD,epD,hoD,hdD,hcD⟩:=hn'.count (Within.cons name v hw)
 refine zA (wpAny_lookBehind hoD (by rw[hdD];exact pastItsLine_dict (zAl hcD (by rw[zj,sizeLine_eq];omega))) ?_)
 wp_walk
 exact hq h' _ hn' fun b hb=>hs.2 b hb
theorem zHc {tk:Tok}{Q:PySem.Fin->Shared->Prop}(X:K.In h)(I:zHT K C fI)(nm:PySem.W.findIn K (.ref C) name=some none)(hx:h.get? x=some (zEo C tt none))
 (hq:∀h' tk',h'.get? x=some (zEo C tt (some h.objs.size))->h'.Ns1 h.objs.size (fun y=>if y=name then some v else none)->(∀b o,b≠x->h.get? b=some o->h'.get? b=some o)->Q (.done (.ret .none)) ⟨h',g,d,tk',os⟩) :
 wpAny (model prog w) A (Builtin.«object.__setattr__» ⟨[.ref x,.str name tk,v],[]⟩) Q E ⟨h,g,d,t,os⟩:=by
 obtain⟨bm,N,nmm,qn,bs,sn,sub,ab,col,dd,k0,k1,k2,k3,k5,mN,hC,hN,T⟩:=zDI X I.cl
 have pass:=zDv T (.ref x)
 obtain⟨o,ho⟩:∃o,o=zEo C tt none:=⟨_,rfl⟩
 rw[<-ho] at hx
 have hc:o.cls = .ref C:=by rw[ho];rfl
 have hdn:o.dict=none:=by rw[ho];rfl
 have L:=PySem.W.looks_findIn (M:=model prog w) X nm
 unfold Builtin.«object.__setattr__»
 repeat (first | rw[refuse_eq] | (rw[refuseLoop_ref,pass]) | (with_reducible refine zA8 hx ?_;rw[hc]) | with_reducible refine wpAny_mroOf_exc hC ?_ | with_reducible refine L.at ?_ | wp_step)
 have hdt:o.data = .fields #[.ref tt,.none,.none,.none,.bool false,.none]:=by rw[ho];rfl
 have hx1:=zE { cls:=.type "dict",data:=.dict #[] } hx
 have xs:x≠h.objs.size:=zf (zU hx)
 rw[hdn,hdt]
 refine zA (wpAny_alloc' (zA (wpAny_update' hx1 (zB ?_))))
 have fr:(zEo C tt (some h.objs.size)).isFreed=false:=rfl
 have up:((h.push { cls:=.type "dict",data:=.dict #[] }).update x fun o=>{ cls:=o.cls,dict:=some h.objs.size,data:=o.data,slots:=o.slots }).get? x=some (zEo C tt (some h.objs.size)):=by
  have:=zi (fun o:Obj=>{ cls:=o.cls,dict:=some h.objs.size,data:=o.data,slots:=o.slots }) hx1 (by rw[ho];rfl)
  rw[this,ho];rfl
 have nd:((h.push { cls:=.type "dict",data:=.dict #[] }).update x fun o=>{ cls:=o.cls,dict:=some h.objs.size,data:=o.data,slots:=o.slots }).get? h.objs.size=some { cls:=.type "dict",data:=.dict #[] }:=
  (zAi _ _ xs).trans (Heap.get?_push_at rfl rfl)
 refine zKd (Heap.Ns1.of_empty ⟨_,#[],_,nd,rfl,fun e he=>absurd he (by simp),fun _=>rfl⟩) Within.nil (by decide) fun h' tk' n' same=>?_
 refine hq h' tk' ((same x xs).trans up) n' fun b ob hb e=>?_
 rw[same b (zf (zU e)),zAi _ _ (Ne.symm hb)]
 exact zE _ e
theorem zHb {tk:Tok}{dx:Addr}{mA:Str->Option Value}{ns:List Str}{Q:PySem.Fin->Shared->Prop}(X:K.In h)(I:zHT K C fI)(nm:PySem.W.findIn K (.ref C) name=some none)(hx:h.get? x=some (zEo C tt (some dx)))
 (hns:h.Ns1 dx mA)(hw:PySem.Within mA ns)(hz:ns.length<1000)
 (hq:∀h' tk',h'.Ns1 dx (fun y=>if y=name then some v else mA y)->(∀b,b≠dx->h'.get? b=h.get? b)->Q (.done (.ret .none)) ⟨h',g,d,tk',os⟩) :
 wpAny (model prog w) A (Builtin.«object.__setattr__» ⟨[.ref x,.str name tk,v],[]⟩) Q E ⟨h,g,d,t,os⟩:=by
 obtain⟨bm,N,nmm,qn,bs,sn,sub,ab,col,dd,k0,k1,k2,k3,k5,mN,hC,hN,T⟩:=zDI X I.cl
 have pass:=zDv T (.ref x)
 obtain⟨o,ho⟩:∃o,o=zEo C tt (some dx):=⟨_,rfl⟩
 rw[<-ho] at hx
 have hc:o.cls = .ref C:=by rw[ho];rfl
 have hdn:o.dict=some dx:=by rw[ho];rfl
 have L:=PySem.W.looks_findIn (M:=model prog w) X nm
 unfold Builtin.«object.__setattr__»
 repeat (first | rw[refuse_eq] | (rw[refuseLoop_ref,pass]) | (with_reducible refine zA8 hx ?_;rw[hc]) | with_reducible refine wpAny_mroOf_exc hC ?_ | with_reducible refine L.at ?_ | wp_step)
 rw[hdn]
 exact zB (zKd hns hw hz hq)
theorem zG1 {od:Option Addr}{Pr:Heap->Prop}{Q:Unit->Shared->Prop}(X:K.In h)(I:zHT K C fI)(mo:PySem.W.mroIn K C (.type "object")=some true) (hx:h.get? x=some (zEo C tt od))
 (ent:∀(A':Around)(E':Value->Shared->Prop)(tk:Tok)(t':Nat)(Q':PySem.Fin->Shared->Prop),(∀h' tk',Pr h'->Q' (.done (.ret .none)) ⟨h',g,d,tk',os⟩)->wpAny (model prog w) A' (Builtin.«object.__setattr__» ⟨[.ref x,.str name tk,v],[]⟩) Q' E' ⟨h,g,d,t',os⟩)
 (hq:∀h' tk',Pr h'->Q () ⟨h',g,d,tk',os⟩):wpAny (model prog w) A (setAttr (.ref x) name v) Q E ⟨h,g,d,t,os⟩:=by
 have SF:=PySem.F.store_ValueError
 have f3:=SF.slot.bind (.ref x)
 have L0:=(show zDj h x C from ⟨_,hx,rfl⟩).type (M:=model prog w)
 have L1:=PySem.W.looks_findIn (M:=model prog w) X I.sa
 unfold setAttr callSpecial? specialOf
 repeat (any_goals (first | assumption | with_reducible refine L0.at ?_ | with_reducible refine L1.at ?_ | wp_step))
 refine codeAny_call_builtin SF.slot.plain SF.entry (zIN X mo hx (ent _ _ _ _ _ fun h' tk' p=>?_))
 repeat (any_goals (first | assumption | wp_step))
 exact hq h' tk' p
end
end L2
namespace L2
open PySem PySem.Spec PyProof.Rows
noncomputable def xO (e C t:Addr)(od:Option Addr):HO:=.ext fun h=>h.get? e=some (zEo C t od)
noncomputable def dO (dx:Addr)(fs:List (Str×V)):HO:=.ext fun h=>∃mA,h.Ns1 dx mA/\(∀f,zGp (fs.lookup f) (mA f))/\PySem.Within mA (fs.map (·.1))
section
variable {P:Program}{w:World}{H:Hp}{h:Heap}{e C t dx:Addr}{od:Option Addr}{fs:List (Str×V)}
theorem xO_ok (hx:h.get? e=some (zEo C t od)):zBc P w H h e (xO e C t od):=⟨hx,⟨_,hx⟩,fun _ _ p k=>k _ p⟩
theorem dO_ok {mA:Str->Option Value}(hn:h.Ns1 dx mA)(r:∀f,zGp (fs.lookup f) (mA f))(wi:PySem.Within mA (fs.map (·.1))):zBc P w H h dx (dO dx fs):=
 ⟨⟨mA,hn,r,wi⟩,let ⟨o,_,_,q,_⟩:=hn;⟨o,q⟩,fun _ _ ⟨m,⟨o,es,ep,q,z⟩,r,wi⟩ k=>⟨m,⟨o,es,ep,k _ q,z⟩,r,wi⟩⟩
theorem HOk.add {a:Addr}{o:HO}(x:HOk P w H h)(hn:H a=none)(new:zBc P w (upd H a o) h a o):HOk P w (upd H a o) h:=fun b u e=>by
 by_cases hb:b=a
 . subst hb;rw[zI] at e;cases e;exact new
 . rw[zY hb] at e
   exact (x b u e).stay (fun c v _ q=>q) (fun c q=>by rw[zY (zg q hn)];exact q) fun c xs q=>by rw[zY (zg q hn)];exact q
theorem zJn {a b:Addr}{o u:HO}(n:a≠b):upd (upd H a o) b u=upd (upd H b u) a o:=by
 funext c
 by_cases h1:c=a
 . subst h1;rw[zI,zY n,zI]
 . by_cases h2:c=b
   . subst h2;rw[zI,zY h1,zI]
   . rw[zY h2,zY h1,zY h1,zY h2]
end
section
variable {X:Cx}{pins:List (Addr×Obj)}{σ:St}{H:Hp}{s:Shared}{A:Around}{E:Value->Shared->Prop}{e C t fI:Addr}{f:Str}{y:V}{u:Value}{Q:Unit->Shared->Prop}
theorem zJs (I:Inv X pins σ H s)(EI:zHT X.K C fI)(mo:PySem.W.mroIn X.K C (.type "object")=some true) (nm:PySem.W.findIn X.K (.ref C) f=some none)(he:H e=some (xO e C t none))(ry:zBe y u)
 (h:∀dx s',H dx=none->Inv X pins σ (upd (upd H dx (dO dx [(f,y)])) e (xO e C t (some dx))) s'->Q () s'):wpAny (model X.prog X.w) A (setAttr (.ref e) f u) Q E s:=by
 obtain⟨hp,g,d,tk,os⟩:=s
 have hx:hp.get? e=some (zEo C t none):=(I.hok e _ he).1
 refine zG1 (Pr:=fun h'=>h'.get? e=some (zEo C t (some hp.objs.size))/\h'.Ns1 hp.objs.size (fun y=>if y=f then some u else none)/\(∀b o,b≠e->hp.get? b=some o->h'.get? b=some o)) I.kIn EI mo hx
  (fun A' E' tk' t' Q' k=>zHc I.kIn EI nm hx fun h' tk2 a b c=>k h' tk2 ⟨a,b,c⟩) fun h' tk' ⟨a,b,c⟩=>?_
 have hn:H hp.objs.size=none:=I.hok.fresh (zG _)
 have ne:e≠hp.objs.size:=zf (zU hx)
 refine h hp.objs.size _ hn ?_
 have mu:Mut ((upd H hp.objs.size (dO hp.objs.size [(f,y)])) e):=by rw[zY ne,he];exact True.intro
 have mu':Mut (H e):=by rw[he];exact True.intro
 refine I.un (h':=h') (t':=tk') ((Un.laid (h':=hp) (fun _ _ q=>q) (zG _) hn).trans (Un.write mu (.inl rfl) c ⟨_,a⟩)) ?_
 rw[zJn (Ne.symm ne)]
 refine HOk.add (I.hok.write mu' (.inl rfl) c ⟨_,a⟩ (xO_ok a)) (by rw[zY (Ne.symm ne)];exact hn) (dO_ok b (fun g=>?_) (fun g hg=>?_))
 . show zGp (List.lookup g [(f,y)]) (if g=f then some u else none)
   by_cases q:g=f
   . subst q;rw[if_pos rfl,List.lookup_cons_self];exact ry
   . rw[if_neg q,zBJ,show (g==f)=false from by simpa using q];trivial
 . by_cases q:g=f
   . subst q;exact zN
   . exact absurd (by show (if g=f then some u else none)=none;rw[if_neg q]) hg
theorem zJr {dx:Addr}{fs:List (Str×V)}(I:Inv X pins σ H s)(EI:zHT X.K C fI)(mo:PySem.W.mroIn X.K C (.type "object")=some true) (nm:PySem.W.findIn X.K (.ref C) f=some none)(he:H e=some (xO e C t (some dx)))(hd:H dx=some (dO dx fs))(hl:fs.length<900)(ry:zBe y u)
 (h:∀s',Inv X pins σ (upd H dx (dO dx (zH6 f y fs))) s'->Q () s'):wpAny (model X.prog X.w) A (setAttr (.ref e) f u) Q E s:=by
 obtain⟨hp,g,d,tk,os⟩:=s
 have hx:hp.get? e=some (zEo C t (some dx)):=(I.hok e _ he).1
 obtain⟨mA,hns,r,wi⟩:=(I.hok dx _ hd).1
 refine zG1 (Pr:=fun h'=>h'.Ns1 dx (fun y=>if y=f then some u else mA y)/\(∀b,b≠dx->h'.get? b=hp.get? b)) I.kIn EI mo hx
  (fun A' E' tk' t' Q' k=>zHb I.kIn EI nm hx hns wi (by rw[zC];omega) fun h' tk2 a b=>k h' tk2 ⟨a,b⟩) fun h' tk' ⟨a,b⟩=>?_
 refine h _ ?_
 have mu:Mut (H dx):=by rw[hd];exact True.intro
 refine I.write (x:=dx) (e:=dx) (t':=tk') mu (.inl rfl) (fun b_ u' hb q=>(b b_ hb).trans q) (let ⟨o,_,_,q,_⟩:=a;⟨o,q⟩) (dO_ok a (fun g=>?_) (fun g hg=>?_))
 . show zGp ((zH6 f y fs).lookup g) (if g=f then some u else mA g)
   rw[zD8]
   by_cases q:g=f
   . rw[if_pos q,if_pos q];exact ry
   . rw[if_neg q,if_neg q];exact r g
 . by_cases q:g=f
   . rw[q];exact (zED f y fs).1
   . refine (zED f y fs).2 g (wi g fun z=>hg ?_)
     show (if g=f then some u else mA g)=none
     rw[if_neg q];exact z
end
end L2
namespace L2
open PySem PySem.Spec PyProof.Rows
noncomputable def sFldX (C:Addr)(f:Str)(ta tv:TE):TS:=fun D σ H=>tv σ H fun y H1=>ta σ H1 fun x H2=>∃e t,x = .ref e /\
 ((H2 e=some (xO e C t none)/\∀dx,H2 dx=none->D.nx σ (upd (upd H2 dx (dO dx [(f,y)])) e (xO e C t (some dx)))) \/
  ∃dx fs,H2 e=some (xO e C t (some dx))/\H2 dx=some (dO dx fs)/\fs.length<900/\D.nx σ (upd H2 dx (dO dx (zH6 f y fs))))
section
variable {X:Cx}{o value:Expr}{ta tv:TE}{f:Str}{C fI:Addr}{pos pos':Pos}
theorem zIa (EI:zHT X.K C fI)(mo:PySem.W.mroIn X.K C (.type "object")=some true) (nm:PySem.W.findIn X.K (.ref C) f=some none)(ha:PE X o ta)(hv:PE X value tv)(hs:swapsWith value (some (.Attribute o f pos')) pos.line X.env=pure false:=by rfl) :
 PS X (.Assign [.Attribute o f pos'] value pos) (sFldX C f ta tv):=by
 intro pins s σ H D I h
 refine plainObj_wpAny_Assign_Attribute (thn (hv pins s σ H _ I h) fun u s1 ⟨y,H1,I1,ry,q⟩=>thn (ha pins s1 σ H1 _ I1 q) fun ov s2 ⟨x,H2,I2,rx,e,t,ex,q2⟩=>?_) hs
 subst ex
 obtain rfl:ov=Value.ref e:=rx
 rcases q2 with ⟨he,q⟩ | ⟨dx,fs,he,hd,hl,q⟩
 . exact zJs I2 EI mo nm he ry fun dx s3 n I3=>⟨σ,_,I3,q dx n⟩
 . exact zJr I2 EI mo nm he hd hl ry fun s3 I3=>⟨σ,_,I3,q⟩
end
noncomputable def spXI (C:Addr)(f1 f2:Str):Sp:=fun vs H Q _=>∃(e t:Addr)(v1 v2:V),vs=[.ref e,v1,v2]/\H e=some (xO e C t none)/\∀dx,H dx=none->dx≠e->Q .non (upd (upd H dx (dO dx [(f1,v1),(f2,v2)])) e (xO e C t (some dx)))
noncomputable def FlyD (B:Heap)(l:List Env)(e:Addr)(C a0:Value)(od:Option Addr)(h:Heap):Prop:=Heap.FlyingW B l e C a0 h/\∃o,h.get? e=some o/\o.dict=od
theorem FlyD.step {B h h':Heap}{l l':List Env}{e:Addr}{C a0:Value}{od:Option Addr}(x:FlyD B l e C a0 od h)(f:Heap.FlyingW B l' e C a0 h')(k:DK h h'):FlyD B l' e C a0 od h':=by
 obtain⟨_,o,q,r⟩:=x
 obtain⟨o',q',r'⟩:=k e o q
 exact⟨f,o',q',r'.trans r⟩
noncomputable def CXI (P:Program)(w:World):CXT:=fun outer H s E e s'=>
 ∃(ea t:Addr)(C:Value)(od:Option Addr)(H':Hp)(B:Heap),e = .ref ea/\s'.os=s.os/\AllBare s'.gens/\Un (frs outer) [] H H' s.heap s'.heap/\HOk P w H' s'.heap /\
  FlyD B outer ea C (.ref t) od s'.heap/\(∀b u,H' b=some u->∃o,B.get? b=some o)/\(∀b o,s.heap.get? b=some o->H b=none->b∉frs outer->B.get? b=some o)/\(∀b o,s.heap.get? b=some o->b∉frs outer->∃o',B.get? b=some o')/\E C od H'
section
variable {P:Program}{w:World}{K:PySem.W.Frag}{mg:Str->Option Value}{base:Heap}{N:List Str}{qual:Str}{scope:Scope}{f:Addr}{cd:Value}{A:Around}{outer:List Env}{s0 s:Shared}{H0 H:Hp}{E:XK}{pins:List (Addr×Obj)}{σ:St}
theorem zIZ {ea t:Addr}{oe:Obj}{C:Value}{vs:Array Value}(I:Inv (zF3 (CXI P w) P w K mg base N qual scope f cd A outer s0 H0 E) pins σ H s)(he:s.heap.get? ea=some oe)(hc:oe.cls=C)(hd:oe.data = .fields vs)(h1:vs[1]? = some .none)(h0:vs[0]? = some (.ref t))(hn:H ea=none)(h00:s0.heap.get? ea=none)(hE:E C oe.dict H) :
 (zF3 (CXI P w) P w K mg base N qual scope f cd A outer s0 H0 E).xe (.ref ea) s:=by
 subst hc
 let fr:List Addr:=(envOfC qual scope s0.heap.objs.size f cd::outer).filterMap (·.frame)
 have hin:∀env∈(envOfC qual scope s0.heap.objs.size f cd::outer),∀a,env.frame=some a->a∈ea::fr:=fun env he b hb=>zO _ (List.mem_filterMap.mpr ⟨env,he,hb⟩)
 have ff:=PySem.W.funFrames_hide I.stack hin
 have off:ea∉fr:=fun z=>by
  obtain⟨_,o,ho,nd⟩:=I.stack.mem z
  rw[he] at ho
  cases ho
  exact nd vs hd
 refine zAM (zGr (zEi _ _) (wpAny_leaving_firstW (Q:=fun _ s'=>∃h',s'={ s with heap:=h' }/\Heap.LeftW (PySem.W.hideAll s.heap (ea::fr)) (envOfC qual scope s0.heap.objs.size f cd::outer) ea oe.cls (.ref t) s.heap h') (base:=PySem.W.hideAll s.heap (ea::fr)) I.ok.frames ff rfl he (fun b o q=>PySem.W.of_hideAll _ q) (PySem.W.hideAll_none _ zN) hd h1 h0 fun h' L=>⟨h',rfl,L⟩)) (fun _ s' hq=>?_) fun _ _ z=>z
 obtain⟨⟨h'',rfl,L1,⟨_,_,L2'⟩,L3,up⟩,dk⟩:=hq
 have st:(PySem.W.hideAll s.heap (ea::fr)).StaysIn h'':=L1
 have stk:∀b,b∈fr->b=s0.heap.objs.size\/b∈frs outer:=fun b z=>zW.mp (I.stkSub b z)
 have hid:∀b o,s.heap.get? b=some o->b≠ea->b∉fr->(PySem.W.hideAll s.heap (ea::fr)).get? b=some o:=fun b o q n z=>PySem.W.hideAll_get _ q fun y=>by
  rcases zW.mp y with y | y
  . exact n y
  . exact z y
 have nea:∀b o,s0.heap.get? b=some o->b≠ea:=fun b o q z=>by rw[z,h00] at q;cases q
 have nfr:∀b o,s0.heap.get? b=some o->b∉frs outer->b∉fr:=fun b o q hb z=>by
  rcases stk b z with y | y
  . exact absurd (zU q) (by rw[y];exact Nat.not_lt_of_le (zG _))
  . exact hb y
 have old:∀b o,s0.heap.get? b=some o->H0 b=none->b∉frs outer->(PySem.W.hideAll s.heap (ea::fr)).get? b=some o:=fun b o e n hb=>
  hid b o (I.base.keep b o e n hb (by intro z;cases z)) (nea b o e) (nfr b o e hb)
 have al:∀b o,s0.heap.get? b=some o->b∉frs outer->∃o',(PySem.W.hideAll s.heap (ea::fr)).get? b=some o':=fun b o e hb=>by
  obtain⟨o1,e1⟩:=I.base.there b o e (by intro z;cases z)
  exact⟨o1,hid b o1 e1 (nea b o e) (nfr b o e hb)⟩
 have tr:∀b u,H b=some u->∃o,(PySem.W.hideAll s.heap (ea::fr)).get? b=some o:=fun b u e=>by
  obtain⟨o,ho⟩:=(I.hok b u e).there
  refine⟨o,hid b o ho (fun z=>by rw[z,hn] at e;cases e) fun z=>?_⟩
  have:=I.stkFree b z
  rw[e] at this
  cases this
 obtain⟨o',q',r'⟩:=dk ea oe he
 refine⟨ea,t,oe.cls,oe.dict,H,_,rfl,I.os,I.bare,⟨fun b o e n hb hx'=>st b o (old b o e n hb),fun b o e n hb hx'=>?_,I.base.free,fun b o e hx'=>?_,I.base.tups,I.base.frzs,I.base.tbls⟩,I.hok.stays (fun b o q=>PySem.W.of_hideAll _ q) st tr,⟨⟨L1,PySem.W.hideAll_none _ zN,L2',L3⟩,o',q',r'⟩,tr,old,al,hE⟩
 . obtain⟨sl,e1⟩:=I.base.slot b o e n hb (by intro z;cases z)
   obtain⟨_,o2,e2,nd⟩:=I.stack.mem (show b∈fr from zO _ hb)
   have e3:o2={ o with slots:=sl }:=za (e2.symm.trans e1)
   obtain⟨sl2,e4⟩:=up b _ e1 (fun vs=>by rw[<-e3];exact nd vs)
   exact⟨sl2,e4⟩
 . obtain⟨o1,e1⟩:=I.base.there b o e (by intro z;cases z)
   by_cases hb:b∈fr
   . obtain⟨_,o2,e2,nd⟩:=I.stack.mem hb
     obtain⟨sl2,e4⟩:=up b _ e2 nd
     exact⟨_,e4⟩
   . exact⟨_,st b _ (hid b o1 e1 (nea b o e) hb)⟩
end
end L2
namespace L2
open PySem PySem.Spec PyProof.Rows
section
variable {P:Program}{w:World}{K:PySem.W.Frag}{mg:Str->Option Value}{base:Heap}{N:List Str}{qual:Str}{scope:Scope}{f:Addr}{cd:Value}{A:Around}{outer:List Env}{s0 s:Shared}{H0 H:Hp}{E:XK}{pins:List (Addr×Obj)}{σ:St}
theorem zLR {E1:XK}{e:Value}{s':Shared}(I:Inv (zF3 (CXI P w) P w K mg base N qual scope f cd A outer s0 H0 E) pins σ H s)(h:CXI P w (envOfC qual scope s0.heap.objs.size f cd::outer) H s E1 e s')
 (imp:∀C d H',E1 C d H'->E C d H'):(zF3 (CXI P w) P w K mg base N qual scope f cd A outer s0 H0 E).xe e s':=by
 obtain⟨ea,t,C,od,H',B,rfl,os,bare,un,hok,fl,tr,old,al,hE⟩:=h
 refine zAM (zGr (zEi _ _) (wpAny_leaves_onW (Q:=fun _ s2=>∃h',s2={ s' with heap:=h' }/\Heap.FlyingW B outer ea C (.ref t) h'/\s'.heap.UpToSlots h') I.ok.frames rfl fl.1 fun h' f2 u=>⟨h',rfl,f2,u⟩)) (fun _ s2 hq=>?_) fun _ _ z=>z
 obtain⟨⟨h'',rfl,fl2,up⟩,dk⟩:=hq
 have st:B.StaysIn h'':=fl2.1
 have nl:∀b o,s0.heap.get? b=some o->H0 b=none->b∉frs outer->B.get? b=some o:=fun b o e n hb=>by
  refine old b o (I.base.keep b o e n hb (by intro z;cases z)) (I.base.free b o e n (by intro z;cases z)) fun z=>?_
  rcases zW.mp (I.stkSub b z) with q | q
  . exact absurd (zU e) (by rw[q];exact Nat.not_lt_of_le (zG _))
  . exact hb q
 have na:∀b o,s0.heap.get? b=some o->b∉frs outer->∃o',B.get? b=some o':=fun b o e hb=>by
  obtain⟨o1,e1⟩:=I.base.there b o e (by intro z;cases z)
  refine al b o1 e1 fun z=>?_
  rcases zW.mp (I.stkSub b z) with q | q
  . exact absurd (zU e) (by rw[q];exact Nat.not_lt_of_le (zG _))
  . exact hb q
 refine⟨ea,t,C,od,H',B,rfl,os.trans I.os,bare,⟨fun b o e n hb _=>st b o (nl b o e n hb),fun b o e n hb _=>?_,fun b o e n _=>?_,fun b o e _=>?_,fun b xs e=>un.tups _ _ (I.base.tups _ _ e),fun b o u e=>un.frzs _ _ _ (I.base.frzs _ _ _ e),fun b ps e=>?_⟩,hok.stays fl.1.1 st tr,fl.step fl2 dk,tr,nl,na,imp _ _ _ hE⟩
 . obtain⟨sl,e1⟩:=I.base.slot b o e n hb (by intro z;cases z)
   have n1:=I.base.free b o e n (by intro z;cases z)
   obtain⟨sl2,e2⟩:=un.slot b _ e1 n1 (zO _ hb) (by intro z;cases z)
   obtain⟨_,o3,e3,nd⟩:=fl.1.2.2.1.mem (show b∈(envOfC qual scope s0.heap.objs.size f cd::outer).filterMap (·.frame) from zO _ hb)
   obtain⟨sl4,e4⟩:=up b _ e3 nd
   have e5:=za (e3.symm.trans e2)
   rw[e5] at e4
   exact⟨sl4,e4⟩
 . exact un.free b _ (I.base.there b o e (by intro z;cases z)).choose_spec (I.base.free b o e n (by intro z;cases z)) (by intro z;cases z)
 . obtain⟨o1,e1⟩:=I.base.there b o e (by intro z;cases z)
   by_cases hb:b∈(envOfC qual scope s0.heap.objs.size f cd::outer).filterMap (·.frame)
   . obtain⟨_,o3,e3,nd⟩:=fl.1.2.2.1.mem hb
     obtain⟨sl4,e4⟩:=up b _ e3 nd
     exact⟨_,e4⟩
   . obtain⟨o3,e3⟩:=al b o1 e1 hb
     exact⟨_,st b o3 e3⟩
 . obtain⟨m1,e1⟩:=I.base.tbls _ _ e
   obtain⟨m2,e2⟩:=un.tbls _ _ e1
   exact⟨m1++m2,by rw[e2,Array.append_assoc]⟩
end
theorem zLS {P:Program}{w:World}{K:PySem.W.Frag}{mg:Str->Option Value}{base:Heap}{N:List Str}{qual:Str}{scope:Scope}{f:Addr}{cd:Value}{A:Around}{outer:List Env}{s0:Shared}{H0:Hp}{E:XK}:zHS (CXI P w) (zF3 (CXI P w) P w K mg base N qual scope f cd A outer s0 H0 E) E:=fun _ _ _ _ _ _ I h=>zLR I h fun _ _ _ z=>z
theorem Fun.okI {P:Program}{w:World}{K:PySem.W.Frag}{mg:Str->Option Value}{base:Heap}{x qual:Str}{st:Stmt}{f:Addr}{fd:FuncData}{N ps:List Str}{k:Nat}{sp:Sp}(F:Fun K x qual st f fd)(S:zAI N ps (defScope st))(len:∀vs H Q E,sp vs H Q E->vs.length=ps.length)
 (hbody:∀(cdv:Value)(A:Around)(outer:List Env)(s:Shared)(H:Hp)(vs:List V)(Q:VK)(E:XK),zCm k (A.deeper (envOfC qual (defScope st) s.heap.objs.size f cdv))->sp vs H Q E ->
  ∃t,PSs (zF3 (CXI P w) P w K mg base N qual (defScope st) f cdv A outer s H E) (defBody st) t/\t { nx:=fun _ H'=>Q .non H',rt:=Q } (start N vs) H):zAa P w K mg base (CXI P w) (k+1) f fd ps sp:=by
 obtain⟨oc,od,kV,doc,pm,an,cdv,ct,osl,rfl,lk,hcd⟩:=F.ex
 exact zKL lk hcd S len fun A outer s H vs Q E hr hsp=>hbody cdv A outer s H vs Q E hr hsp
noncomputable def zLn (e:Addr)(H:Hp):Hp:=fun b=>if b=e then none else H b
theorem zCD {e b:Addr}{H:Hp}(n:b≠e):zLn e H b=H b:=by unfold zLn;rw[if_neg n]
theorem zC4 {e:Addr}{H:Hp}:zLn e H e=none:=by unfold zLn;rw[if_pos rfl]
section
variable {X:Cx}{pins:List (Addr×Obj)}{σ:St}{H:Hp}{s:Shared}{e:Addr}{φ:Heap->Prop}
theorem Inv.drop (I:Inv X pins σ H s)(he:H e=some (.ext φ)):Inv X pins σ (zLn e H) s:=by
 have nt:∀b xs,H b=some (.tup xs)->b≠e:=fun b xs q z=>by rw[z,he] at q;cases q
 have no:∀b y,H b=some (.own y)->b≠e:=fun b y q z=>by rw[z,he] at q;cases q
 refine⟨I.ok,I.os,I.bare,⟨I.base.keep,I.base.slot,fun b o q n hx=>?_,I.base.there,fun b xs q=>by rw[zCD (nt b xs (I.base.tups b xs q))];exact I.base.tups b xs q,fun b o u q=>?_,fun b ps q=>?_⟩,I.loc,I.cell,?_,fun x c q=>?_,fun p hp=>?_,fun b o q=>?_,I.len⟩
 . by_cases z:b=e
   . subst z;exact zC4
   . rw[zCD z];exact I.base.free b o q n hx
 . have r:=I.base.frzs b o u q
   rw[zCD (fun z=>by rw[z,he] at r;cases r)];exact r
 . obtain⟨m,r⟩:=I.base.tbls b ps q
   exact⟨m,by rw[zCD (fun z=>by rw[z,he] at r;cases r)];exact r⟩
 . by_cases z:X.env.locals=e
   . rw[z];exact zC4
   . rw[zCD z];exact I.free
 . by_cases z:c=e
   . subst z;exact zC4
   . rw[zCD z];exact I.freeC x c q
 . obtain⟨a,b,r⟩:=I.pin p hp
   refine⟨a,?_,r⟩
   by_cases z:p.1=e
   . rw[z];exact zC4
   . rw[zCD z];exact b
 . have z:b≠e:=fun z=>by rw[z,zC4] at q;cases q
   rw[zCD z] at q
   exact (I.hok b o q).stay (fun _ _ _ r=>r) (fun c r=>by rw[zCD (no c _ r)];exact r) fun c xs r=>by rw[zCD (nt c xs r)];exact r
theorem zLK {M:Model}{A:Around}{E:Value->Shared->Prop}{env:Env}{K:PySem.W.Frag}{C tt:Addr}{od:Option Addr}{y:Sem Value}{Q:Flow->Shared->Prop}(q:excI K C=true)(hh:A.handled=none)
 (h:wpAny M A y (fun v s1=>∃e,v = .ref e/\K.In s1.heap/\(∃tt od,s1.heap.get? e=some (zEo C tt od))/\E (.ref e) s1) E s):wpAny M A (raiseStmt env (some y) none) Q E s:=by
 unfold raiseStmt
 refine zA (zAM h (fun v s1 hv=>?_) fun _ _ z=>z)
 obtain⟨e,rfl,X1,⟨tt,od,he⟩,hE⟩:=hv
 obtain⟨bm,N,nm,qn,bs,sn,sub,ab,col,dd,k0,k1,k2,k3,k5,mN,hC,hN,T⟩:=zDI X1 q
 have hcB:(Value.ref C::bm).contains (.type "BaseException")=true:=by rw[List.contains_cons,T.hasType (X := "BaseException") (b:=true) (by rfl),Bool.or_true]
 obtain⟨hp,g,d,tk,os⟩:=s1
 have he':hp.get? e=some { cls:=.ref C,dict:=od,data:=.fields #[.ref tt,.none,.none,.none,.bool false,.none] }:=he
 repeat (first | with_reducible refine zA8 he' ?_ | with_reducible refine zA8 hC ?_ | (with_reducible refine wpAny_isSubtype_exc hC ?_;rw[hcB]) | wp_step)
 exact wpAny_raiseNew_none hh hE
theorem Inv.madeX {C:Addr}{us:List Value}{vs:List V}(I:Inv X pins σ H s)(r:zBK vs us)(hz:vs.length<=sizeLine) :
 Inv X pins σ (upd (upd H s.heap.objs.size (.tup vs)) (s.heap.objs.size+1) (xO (s.heap.objs.size+1) C s.heap.objs.size none)) { s with heap:=zKI s.heap C us }:=by
 have e1:(s.heap.push (xTup us)).get? s.heap.objs.size=some (xTup us):=Heap.get?_push_at rfl rfl
 have I1:=I.laid (a:=s.heap.objs.size) (o:=.tup vs) (h':=s.heap.push (xTup us)) (t':=s.toks) (fun b u q=>zE _ q) (zG _) ⟨⟨hz,_,e1,rfl⟩,us,r,⟨_,e1,rfl,_,rfl⟩⟩
 exact I1.laid (a:=s.heap.objs.size+1) (t':=s.toks) (h':=zKI s.heap C us) (fun b u q=>zE _ q) (Nat.le_of_eq (zAg _ _)) (xO_ok (zKm s.heap C us))
noncomputable def zK3 (C:Addr)(f1 f2:Str)(t:TA)(E:XK):TS:=fun _ σ H=>t σ H fun vs H1=>∃v1 v2,vs=[v1,v2]/\∀tt dx,H1 tt=none->H1 dx=none->tt≠dx->E (.ref C) (some dx) (upd (upd H1 tt (.tup [v1,v2])) dx (dO dx [(f1,v1),(f2,v2)]))
theorem zFi {x f1 f2:Str}{ps:List Str}{C fI:Addr}{fd:FuncData}{k:Nat}{e1 e2:Expr}{t:TA}{E:XK}{np cpos pos:Pos}(hg:Gl X x)(hm:X.mg x=some (.ref C))(EI:zHT X.K C fI)(hc:X.calm=true)(F:zAa X.prog X.w X.K X.mg X.base CX0 k fI fd ps (spXI C f1 f2))(hr:zCm (k+1) X.A)(hb:zAH X.K fd ps [])(ha:PA X [e1,e2] t)
 (hxe:∀(pins:List (Addr×Obj))(σ:St)(H:Hp)(s:Shared)(ea tt dx:Addr),Inv X pins σ H s->s.heap.get? ea=some (zEo C tt (some dx))->H ea=none->X.s₀.heap.get? ea=none->E (.ref C) (some dx) H->X.xe (.ref ea) s)
 (hd:(x==("__debug__" : Str))=false:=by decide) (hs:starEach [e1,e2] X.env=(false,eval e1 X.env)::starEach [e2] X.env:=by rfl)(hpl:(backTo cpos (starEach [e2] X.env)).any (·.1)=false:=by rfl) :
 PS X (.Raise (some (.Call (.Name x np) [e1,e2] [] cpos)) none pos) (zK3 C f1 f2 t E):=by
 intro pins s σ H D I h
 rw[arm_exec_Raise]
 refine zA (wpAny_standAt ?_)
 show wpAny _ _ (raiseStmt X.env (some (do let v <-eval (.Call (.Name x np) [e1,e2] [] cpos) X.env;standAt pos;pure v)) none) _ _ _
 refine zLK (tt:=0) (od:=none) EI.cl (I.ok.hd hc) (zA (zAM (Q:=fun v s1=>∃e,v = .ref e/\X.K.In s1.heap/\(∃tt od,s1.heap.get? e=some (zEo C tt od))/\X.xe (.ref e) s1) (E:=X.xe) ?main (fun v s3 h3=>zA (wpAny_standAt (zB h3))) fun _ _ z=>z))
 case main=>
  refine zAu (zDX I hg hm ?_ hd)
  refine PySem.W.callWith_K (h₀:=X.base) I.ok.mod.kin EI.kp (zAM (ha cpos pins s σ H _ I h) (fun us s1 ⟨vs,H1,I1,r,q⟩=>⟨I1.kIn,?_⟩) fun _ _ z=>z) hs hpl
  obtain⟨v1,v2,rfl,q⟩:=q
  have hz:us.length<=sizeLine:=by rw[<-r.length];show 2<=sizeLine;decide
  have I2:=Inv.madeX (C:=C) I1 r (show 2<=sizeLine by decide)
  have r2:zBK (V.ref (s1.heap.objs.size+1)::[v1,v2]) (Value.ref (s1.heap.objs.size+1)::us):=.cons rfl r
  have n1:H1 s1.heap.objs.size=none:=I1.hok.fresh (zG _)
  have n2:H1 (s1.heap.objs.size+1)=none:=I1.hok.fresh (zBA _)
  have s00:X.s₀.heap.get? (s1.heap.objs.size+1)=none:=Heap.get?_none_of_le (zAl I1.sz (zBA _))
  refine zJV (h:=s1.heap) I1.kIn EI hz ?_
  have ne:s1.heap.objs.size≠s1.heap.objs.size+1:=zf (Nat.lt_succ_self _)
  have hsp:spXI C f1 f2 (V.ref (s1.heap.objs.size+1)::[v1,v2]) (upd (upd H1 s1.heap.objs.size (.tup [v1,v2])) (s1.heap.objs.size+1) (xO (s1.heap.objs.size+1) C s1.heap.objs.size none))
   (fun v H2=>v = .non/\∃dx,H2 (s1.heap.objs.size+1)=some (xO (s1.heap.objs.size+1) C s1.heap.objs.size (some dx))/\E (.ref C) (some dx) (zLn (s1.heap.objs.size+1) H2)) (fun _ _ _=>False):=by
   refine⟨_,_,v1,v2,rfl,zI,fun dx hdx nd=>⟨rfl,dx,zI,?_⟩⟩
   rw[zY nd] at hdx
   have nt:s1.heap.objs.size≠dx:=fun z=>by rw[<-z,zI] at hdx;cases hdx
   have hdx1:H1 dx=none:=by rw[zY (Ne.symm nt)] at hdx;exact hdx
   have eq:zLn (s1.heap.objs.size+1) (upd (upd (upd (upd H1 s1.heap.objs.size (.tup [v1,v2])) (s1.heap.objs.size+1) (xO (s1.heap.objs.size+1) C s1.heap.objs.size none)) dx (dO dx [(f1,v1),(f2,v2)])) (s1.heap.objs.size+1) (xO (s1.heap.objs.size+1) C s1.heap.objs.size (some dx)))
    = upd (upd H1 s1.heap.objs.size (.tup [v1,v2])) dx (dO dx [(f1,v1),(f2,v2)]):=by
    funext b
    by_cases hb:b=s1.heap.objs.size+1
    . subst hb
      rw[zC4,zY (Ne.symm nd),zY (Ne.symm ne)];exact n2.symm
    . rw[zCD hb,zY hb]
      by_cases hb2:b=dx
      . subst hb2;rw[zI,zI]
      . rw[zY hb2,zY hb,zY hb2]
   rw[eq]
   exact q _ dx n1 hdx1 nt
  have hl:(Value.ref (s1.heap.objs.size+1)::us).length=ps.length:=by rw[<-r2.length];exact F.len _ _ _ _ hsp
  refine zBS (codeAny_mono (F.run _ X.stack _ _ ⟨Value.ref (s1.heap.objs.size+1)::us,[]⟩ (Value.ref (s1.heap.objs.size+1)::us) _ _ (fun _ _ _=>False) (hr.make C us []) (I2.env0.make C us [])
   (by have:=hb _ (Value.ref (s1.heap.objs.size+1)::us) I2.kIn (by rw[zw];exact hl);rw[zw] at this;exact this) r2 hsp) fun r s' hq'=>?_)
  cases r with
  | error e=>exact False.elim hq'
  | ok fl=>
   cases fl with
   | ret u=>
    obtain⟨v,H',I3,rv,ev,dx,hx,hE⟩:=I2.after hq'
    subst ev
    refine⟨rv,_,rfl,I3.kIn,⟨_,_,(I3.hok _ _ hx).1⟩,?_⟩
    exact hxe pins σ _ s' _ _ dx (I3.drop hx) (I3.hok _ _ hx).1 zC4 s00 hE
   | next=>exact False.elim hq'
   | brk=>exact False.elim hq'
   | cont=>exact False.elim hq'
end
end L2
namespace L2
open PySem PySem.Spec PyProof.Rows
section
variable {prog:Program}{w:World}{A:Around}{E:Value->Shared->Prop}{h:Heap}{g:Array GenState}{d:Drawn}{t:Nat}{os:OsState}{K:PySem.W.Frag}{C x dx:Addr}{o:Obj}{name:Str}{v:Value}{mA:Str->Option Value}
end
end L2
namespace L2
open PySem PySem.Spec PyProof.Rows
section
variable {M:Model}{A:Around}{E:Value->Shared->Prop}{s:Shared}{base:Heap}{env:Env}{outer l:List Env}{L e:Addr}{cls a0:Value}{od:Option Addr}{Q:Unit->Shared->Prop}
end
section
variable {X:Cx}{k:Nat}{f:Addr}{fd:FuncData}{ps:List Str}{sp:Sp}{x:Str}{p pos epos:Pos}{e:Expr}{es:List Expr}{t:TA}
end
end L2
namespace L2
open PySem PySem.Spec PyProof.Rows
section
variable {X:Cx}{k:Nat}{f:Addr}{fd:FuncData}{ps:List Str}{sp:Addr->Addr->Sp}{x:Str}{p pos:Pos}{e:Expr}{es:List Expr}{t:TA}{ea:Addr}{oe:Obj}
end
end L2
namespace L2
open PySem PySem.Spec PyProof.Rows
section
variable {X:Cx}
theorem op_isB:OpR X (compareOp .Is) (fun x y H Q=>∃c d,x = .bl c/\y = .bl d/\Q (.bl (c==d)) H):=by
 intro pins s σ H x y v u Q I rx ry h
 obtain⟨c,d,rfl,rfl,q⟩:=h
 cases rx
 cases ry
 exact PyProof.Rows.is_bool (zA5 I q rfl)
end
section
variable {X:Cx}{k:Nat}{f:Addr}{fd:FuncData}{ps:List Str}{sp:Sp}{x y:Str}{p pos epos pos' cpos:Pos}{e b:Expr}{es:List Expr}{t:TA}{i:Nat}
end
end L2
namespace L2
open PySem PySem.Spec PyProof.Rows
section
variable {X:Cx}{pins:List (Addr×Obj)}{σ:St}{H:Hp}{s:Shared}
theorem Inv.off {a:Addr}{h':Heap}{t':Nat}(I:Inv X pins σ H s)(f:zEN X pins H a)(k:∀b o,b≠a->s.heap.get? b=some o->h'.get? b=some o):Inv X pins σ H { s with heap:=h',toks:=t' }:=by
 obtain⟨f1,f2,f3,f4,f5,f6⟩:=f
 refine I.step (g':=s.gens) (d':=s.drawn) (ch:=[a]) (fun b hb=>?_) (fun b o _ _ hb e _=>k b o (fun z=>hb (by rw[z];exact zN)) e) (fun b o _ _ hb e _=>⟨o.slots,k b o (fun z=>hb (by rw[z];exact zN)) e⟩) (fun _ _ _ _ n=>n) (fun b o hb e=>⟨o,k b o (fun z=>hb (by rw[z];exact zN)) e⟩) (fun _ _ e=>e) (fun _ _ _ e=>e) (fun b ps e=>⟨#[],by rw[e];simp⟩) (fun m hm=>?_) (fun b u e=>?_) I.bare
 . obtain rfl:b=a:=zX.mp hb
   exact⟨f4,f2,f5,f6⟩
 . obtain⟨o,es,ep,e,z⟩:=hm
   exact⟨o,es,ep,k _ _ (Ne.symm f2) e,z⟩
 . have nb:∀c u,H c=some u->c≠a:=fun c u q z=>by rw[z,f1] at q;cases q
   refine (I.hok b u e).stay (fun x v hx z=>k x v ?_ z) (fun _ z=>z) fun _ _ z=>z
   rcases hx with z1 | z1
   . rw[z1];exact nb _ _ e
   . exact nb _ _ z1
noncomputable def zGk (X:Cx)(A:Around)(N':List Str)(q:Str)(scope:Scope)(f:Addr)(cd:Value)(s3:Shared)(H3:Hp):Cx where
 prog:=X.prog
 w:=X.w
 K:=X.K
 mg:=X.mg
 base:=X.base
 A:=A.deeper (PySem.W.envX q scope s3.heap.objs.size f cd (zDL X.env.cells scope.names []))
 N:=N'
 s₀:=s3
 H₀:=H3
 env:=PySem.W.envX q scope s3.heap.objs.size f cd (zDL X.env.cells scope.names [])
 outer:=X.stack
 stack:=PySem.W.envX q scope s3.heap.objs.size f cd (zDL X.env.cells scope.names [])::X.stack
 ex:=[]
 fn:=fun _=>false
 calm:=true
 pn:=[]
 xe:=fun _ _=>False
variable {A:Around}{q pn:Str}{scope:Scope}{f:Addr}{cd:Value}{cn:List Str}{ci:List Nat}{cv:List V}{v:V}{u:Value}
theorem zLh {h1:Heap}{t:Nat}(I:Inv X pins σ H s)(hh:A.handled=none)(hfr:A.frames=some X.stack)(S:zCy X scope)(hpn:scope.names.lookup pn=some .local)(hc:zEO X scope cn ci)(hv:ci.map (fun j=>σ[j]?)=cv.map fun v=>some (some v))(hl:cn.length=ci.length)
 (rv:zBe v u)(hns:h1.Ns s.heap.objs.size (fun x=>if x=pn then some u else none))(hk:∀b o,s.heap.get? b=some o->h1.get? b=some o) :
 Inv (zGk X A (pn::cn) q scope f cd s H) [] (some v::cv.map some) H { s with heap:=h1,toks:=t }:=by
 have lenv:cv.length=ci.length:=by
  have:=congrArg List.length hv
  simpa using this.symm
 have noA:∀b:Addr,b∉(zGk X A (pn::cn) q scope f cd s H).ex:=fun b z=>absurd (show b∈([]:List Addr) from z) (by simp)
 have has:∀x,scope.names.lookup x=some .free->∃c,(zDL X.env.cells scope.names []).lookup x=some c:=fun x h=>zDK (I.ok.has x (.inl (S.free _ (PySem.mem_of_lookup h) rfl))) scope.names [] (PySem.mem_of_lookup h)
 refine⟨⟨I.ok.mod,S.kind,rfl,rfl,zG _,fun x y c h1 h2=>I.ok.inj x y c (zCE h1) (zCE h2),fun x h=>?_,(fun x c z=>by cases z),fun _=>hh,Around.frames_deeper hfr,.inr ⟨rfl,rfl⟩,fun b z=>absurd z (noA b),I.bs,zAl I.ok.bsz I.sz,fun b _ _=>noA b,fun b z=>absurd z (noA b),I.stack,I.stkFree⟩,
  rfl,I.bare,Un.kept hk,⟨_,hns,fun i x y e1 e2 e3=>?_⟩,fun x c e=>?_,I.hok.fresh (zG _),fun x c e=>I.freeC x c (zCE e),fun p hp=>absurd (show p∈([]:List (Addr×Obj)) from hp) (by simp),I.hok.kept hk,?_⟩
 . rcases (show scope.names.lookup x=some .cell\/scope.names.lookup x=some .free from h) with z | z
   . exact absurd rfl (S.nocell _ (PySem.mem_of_lookup z))
   . exact has x z
 . cases i with
   | zero=>
    obtain rfl:pn=x:=by simpa [zGk] using e1
    obtain rfl:v=y:=by simpa using e2
    exact⟨u,rv,.inl ⟨hpn,by show (if pn=pn then some u else none)=some u;rw[if_pos rfl]⟩⟩
   | succ i=>
    have e1':cn[i]? = some x:=by simpa [zGk] using e1
    rw[List.getElem?_cons_succ,zT] at e2
    obtain⟨j,hj,hNj,hkx,hfree⟩:=hc.get e1'
    have hcv:cv[i]? = some y:=by
     cases z:cv[i]? with
     | none=>rw[z] at e2;cases e2
     | some v'=>rw[z] at e2;cases e2;rfl
    have hσ:σ[j]? = some (some y):=by
     have:=congrArg (fun l:List (Option (Option V))=>l[i]?) hv
     simp only[zT,hj,hcv,zBG,Option.some.injEq] at this
     exact this
    obtain⟨m,_,hl'⟩:=I.loc
    obtain⟨u',r,q'⟩:=hl' j x y hNj hσ (.inr (.inl hkx))
    obtain⟨c',hc'⟩:=has x hfree
    refine⟨u',r,.inr ⟨.inr hfree,c',hc',?_⟩⟩
    rcases q' with ⟨z,_⟩ | ⟨_,c,hcc,o,ho,hd⟩
    . rw[hkx] at z;cases z
    . have e:c=c':=za (hcc.symm.trans (zCE hc'))
      subst e
      exact⟨o,hk c o ho,hd⟩
 . obtain⟨v',o,ho,hd⟩:=I.cell x c (zCE e)
   exact⟨v',o,hk c o ho,hd⟩
 . show (some v::cv.map some).length=(pn::cn).length
   rw[zj,zj,zC,lenv,hl]
theorem zKC {params:Arguments}{body:Expr}{te:TE}{pm cv' ctv:Value}{Q:VK}{E:Value->Shared->Prop}(I:Inv X pins σ H s)(hh:A.handled=none)(hfr:A.frames=some X.stack)(hdp:A.depth<recursionLimit)(S:zCy X scope)(hco:scope.isCoroutine=false)(hgen:scope.isGenerator=false)(hpn:scope.names.lookup pn=some .local)
 (hc:zEO X scope cn ci)(hv:ci.map (fun j=>σ[j]?)=cv.map fun v=>some (some v))(hl:cn.length=ci.length)
 (hbind:bindArgs (PySem.W.kla_fn "<lambda>" q params body scope (zDL X.env.cells scope.names []) pm cv' ctv) ⟨[u],[]⟩=pure [(pn,u)])
 (hf:s.heap.get? f=some { cls:=.type "function",data:=.func (PySem.W.kla_fn "<lambda>" q params body scope (zDL X.env.cells scope.names []) pm cv' ctv) }) (hrec:s.heap.CodeRec cv' q)
 (hb:∀s3 H3,PE (zGk X A (pn::cn) q scope f cv' s3 H3) body te)(rv:zBe v u)(hq:te (some v::cv.map some) H Q):wpAny (model X.prog X.w) A (call (.ref f) [u]) (fun r s'=>CE X.stack X.prog X.w H s Q r s') E s:=by
 refine zBS (PySem.W.kla_callFunE hdp hf rfl hco hgen rfl hrec ?_)
 rw[hbind]
 refine zB (wpAny_newFunctionEnv S.nocell (fun y hy=>?_) (fun h₁ hns hsb=>?_) S.kind)
 . obtain rfl:y=(pn,u):=zX.mp hy
   exact hpn
 . have hk₁:∀b o,s.heap.get? b=some o->h₁.get? b=some o:=fun b o e'=>hsb.extBut b o (zf (zU e')) (zE _ e')
   refine⟨I.nolimit.keeps hk₁,?_⟩
   show codeAny _ _ (.expr body (PySem.W.envX q scope s.heap.objs.size f cv' (zDL X.env.cells scope.names []))) _ _
   have hns':h₁.Ns s.heap.objs.size (fun x=>if x=pn then some u else none):=by
    have e:(fun x=>([(pn,u)]:List (Str×Value)).reverse.lookup x)=(fun x=>if x=pn then some u else none):=by
     funext x
     by_cases z:x=pn
     . subst z;simp
     . rw[if_neg z]
       show List.lookup x [(pn,u)]=none
       rw[zBJ,show (x==pn)=false from by simpa using z];rfl
    rw[<-e];exact hns
   have J:=zLh (q:=q) (f:=f) (cd:=cv') (t:=s.toks+[(pn,u)].length) I hh hfr S hpn hc hv hl rv hns' hk₁
   refine PySem.W.kla_codeExpr (zAM (hb s H [] _ _ H Q J hq) (fun r s' hr=>?_) fun _ _ z=>z.elim)
   obtain⟨v',H',J',r',q'⟩:=hr
   exact⟨v',H',J'.os,J'.bare,J'.base,J'.hok,r',q'⟩
end
end L2
namespace L2
open PySem PySem.Spec PyProof.Rows
section
variable {X:Cx}{pins:List (Addr×Obj)}{σ:St}{H:Hp}{s:Shared}
theorem zLi {P c:Addr}{params:Arguments}{body:Expr}{lscope:Scope}{lpos:Pos}{Q:Value->Shared->Prop}{E:Value->Shared->Prop}(I:Inv X pins σ H s)(T:TabAt H P lpos (X.env.qual ++ "<lambda>"))
 (hcode:X.env.code = .ref c)(C:PySem.W.CodeHd X.base c P)(hbm:zJh X.mg X.base)(hfree:∀y∈lscope.names,y.2 = .free->X.env.kindOf y.1=some .cell)(hdef:defaultsOf params X.env=([],[]))
 (h:∀(f:Addr)(pm cv ctv:Value)(s':Shared)(H':Hp),Inv X pins σ H' s'->SmP P H H'->TabAt H' P lpos (X.env.qual ++ "<lambda>")->s.heap.objs.size<=f ->
  s'.heap.get? f=some { cls:=.type "function",data:=.func (PySem.W.kla_fn "<lambda>" (X.env.qual ++ "<lambda>") params body lscope (zDL X.env.cells lscope.names []) pm cv ctv) } ->
  (∃c1,cv = .ref c1/\H' c1=some (.ext (zGq c1 (X.env.qual ++ "<lambda>"))))->H' f=none->Q (.ref f) s') :
 wpAny (model X.prog X.w) X.A (eval (.Lambda params body lscope lpos) X.env) Q E s:=by
 obtain⟨ps,hP,ht,hcase⟩:=T
 have oP:s.heap.get? P=some (PySem.W.tabObj ps):=I.hok P _ hP
 have hg:=I.mod.glob.keeps I.bk
 have C':PySem.W.CodeHd s.heap c P:=C.keeps I.bk
 have hcl:closureFor lscope X.env=pure (zDL X.env.cells lscope.names []):=zDJ fun y hy hf=>I.ok.has y.1 (.inl (hfree y hy hf))
 have nP:∀b o,X.base.get? b=some o->b≠P:=fun b o e z=>by
  have:=(I.bs b o e).2
  rw[z,hP] at this;cases this
 have hgP:mainGlobals≠P:=by
  obtain⟨o,es,ep,e,_⟩:=I.mod.glob
  exact nP _ _ e
 have hb:s.heap.BuiltinsAt X.mg P:=by
  obtain⟨bm,ob,b1,b2,b3,b4,b5,b6⟩:=hbm
  refine⟨bm,ob,b1,b2,fun z=>?_,nP _ _ b3,I.bk _ _ b3,b4,b5,b6⟩
  obtain⟨o,es,ep,e,hd,_⟩:=I.mod.glob
  rw[z,e] at b3;cases b3;rw[hd] at b6;cases b6
 refine PySem.W.kla_eval hdef ?_
 rcases hcase with hn | ⟨c1,hc1,hH⟩
 . refine PySem.W.kla_makeFunction (mg:=X.mg) hcl I.ok.glob hg hcode C' oP ht hn hgP hb fun c' ctv h' tk hx hge hlt hrec htb=>?_
   obtain⟨c2,oc,vs,t,e2,hoc,hd,hv⟩:=id hrec
   cases e2
   have kp:∀b u,b≠P->s.heap.get? b=some u->(h'.push (PySem.W.kla_obj "<lambda>" (X.env.qual ++ "<lambda>") params body lscope (zDL X.env.cells lscope.names []) ((X.mg "__name__").getD .none) c' ctv)).get? b=some u:=fun b u hb' e=>zE _ (hx b u hb' e)
   have hcn:H c'=none:=I.hok.fresh hge
   have nPc:P≠c':=zg hP hcn
   refine h h'.objs.size ((X.mg "__name__").getD .none) (.ref c') ctv _ _ (I.growL (c':=c') (o:=.ext (zGq c' (X.env.qual ++ "<lambda>"))) (t':=tk) hP hge kp (zE _ htb) ⟨⟨oc,vs,t,zE _ hoc,hd,hv⟩,⟨oc,zE _ hoc⟩,fun h1 h2 ⟨o1,v1,t1,a1,a2,a3⟩ k12=>⟨o1,v1,t1,k12 _ a1,a2,a3⟩⟩) ?_ ?_ ?_ ?_ ?_ ?_
   . intro b o e
     by_cases hbP:b=P
     . left
       rw[hbP,hP] at e
       exact⟨hbP,ps,(za e).symm⟩
     . right
       rw[zY (zg e hcn),zY hbP];exact e
   . refine⟨ps ++ #[rawInt lpos.line,rawInt lpos.col,.ref c'],by rw[zY nPc,zI],?_,.inr ⟨c',?_,zI⟩⟩
     . rw[Array.toList_append];exact TriplesOk_snoc _ _ _ _ ht
     . rw[Array.toList_append];exact codeAmong_snoc _ ht hn
   . have:=zBQ (zAQ hge hlt)
     exact this
   . exact zK _ rfl
   . exact⟨c',rfl,zI⟩
   . have hf0:H h'.objs.size=none:=I.hok.fresh (zBQ (zAQ hge hlt))
     have n1:h'.objs.size≠c':=Nat.ne_of_gt hlt
     have n2:h'.objs.size≠P:=fun z=>by rw[z,hP] at hf0;cases hf0
     rw[zY n1,zY n2];exact hf0
 . obtain⟨⟨oc,vs,t,hoc,hd,hv⟩,_⟩:=I.hok c1 _ hH
   refine PySem.W.kla_makeFunctionHit (mg:=X.mg) hcl I.ok.glob hg hcode C' oP ht hc1 hb fun ctv h' tk hk hsz=>?_
   refine h h'.objs.size ((X.mg "__name__").getD .none) (.ref c1) ctv _ _ (I.kept (t':=tk) fun b u e=>zE _ (hk b u e)) (SmP.refl _) ⟨ps,hP,ht,.inr ⟨c1,hc1,hH⟩⟩ hsz (zK _ rfl) ⟨c1,rfl,hH⟩ (I.hok.fresh hsz)
structure LpI (X:Cx)(pins:List (Addr×Obj))(σ:St)(H2:Hp)(f:Addr)(of:Obj)(Ia Sa:Addr)(H:Hp)(s:Shared):Prop where
 inv:Inv X pins σ H s
 sm:zA3 H2 H
 fo:s.heap.get? f=some of
 fn:zEN X pins H f
 fi:zEN X pins H Ia
 fs:zEN X pins H Sa
 d1:f≠Ia
 d2:f≠Sa
 d3:Sa≠Ia
 io:∃o,s.heap.get? Ia=some o
 so:∃o,s.heap.get? Sa=some o
theorem zEN.to {b:Addr}{H H':Hp}(f:zEN X pins H b)(h:H' b=none):zEN X pins H' b:=⟨h,f.2⟩
theorem zEN.nst {b:Addr}(I:Inv X pins σ H s)(f:zEN X pins H b):b∉frs X.stack:=fun z=>by
 rcases zW.mp (I.stkSub b z) with q | q
 . exact f.2.1 q
 . exact f.2.2.1 q
variable {H2:Hp}{f Ia Sa l:Addr}{of:Obj}
theorem LpI.offI {h':Heap}{t':Nat}(L:LpI X pins σ H2 f of Ia Sa H s)(k:∀b o,b≠Ia->s.heap.get? b=some o->h'.get? b=some o)(ho:∃o,h'.get? Ia=some o):LpI X pins σ H2 f of Ia Sa H { s with heap:=h',toks:=t' }:=
 ⟨L.inv.off L.fi k,L.sm,k _ _ L.d1 L.fo,L.fn,L.fi,L.fs,L.d1,L.d2,L.d3,ho,let ⟨o,e⟩:=L.so;⟨o,k _ _ L.d3 e⟩⟩
theorem LpI.offS {h':Heap}{t':Nat}(L:LpI X pins σ H2 f of Ia Sa H s)(k:∀b o,b≠Sa->s.heap.get? b=some o->h'.get? b=some o)(ho:∃o,h'.get? Sa=some o):LpI X pins σ H2 f of Ia Sa H { s with heap:=h',toks:=t' }:=
 ⟨L.inv.off L.fs k,L.sm,k _ _ L.d2 L.fo,L.fn,L.fi,L.fs,L.d1,L.d2,L.d3,let ⟨o,e⟩:=L.io;⟨o,k _ _ (Ne.symm L.d3) e⟩,ho⟩
theorem LpI.call {r:Value}{s':Shared}{x:V}(L:LpI X pins σ H2 f of Ia Sa H s)(h:CE X.stack X.prog X.w H s (fun v H'=>v=x/\zA3 H H') r s') :
 ∃H',LpI X pins σ H2 f of Ia Sa H' s'/\zBe x r/\(∀o,s.heap.get? Ia=some o->s'.heap.get? Ia=some o)/\(∀o,s.heap.get? Sa=some o->s'.heap.get? Sa=some o):=by
 obtain⟨v,H',os,bare,un,hok,rv,rfl,sm⟩:=h
 have kp:∀b,zEN X pins H b->∀o,s.heap.get? b=some o->s'.heap.get? b=some o:=fun b fb o e=>un.keep b o e fb.1 (fb.nst L.inv) (by intro z;cases z)
 have fr:∀b,zEN X pins H b->(∃o,s.heap.get? b=some o)->zEN X pins H' b:=fun b fb ⟨o,e⟩=>fb.to (un.free b o e fb.1 (by intro z;cases z))
 refine⟨H',⟨L.inv.call' os un hok bare (fun b z=>absurd z (by simp)),L.sm.trans sm,kp f L.fn _ L.fo,fr f L.fn ⟨_,L.fo⟩,fr Ia L.fi L.io,fr Sa L.fs L.so,L.d1,L.d2,L.d3,?_,?_⟩,rv,kp Ia L.fi,kp Sa L.fs⟩
 . obtain⟨o,e⟩:=L.io;exact⟨o,kp Ia L.fi o e⟩
 . obtain⟨o,e⟩:=L.so;exact⟨o,kp Sa L.fs o e⟩
noncomputable def KeyJ (X:Cx)(pins:List (Addr×Obj))(σ:St)(H2:Hp)(f:Addr)(of:Obj)(Ia Sa:Addr)(ns:List Int)(val:Int->Int):Prop:=
 ∀(H:Hp)(s:Shared)(n:Int)(u:Value)(E:Value->Shared->Prop),LpI X pins σ H2 f of Ia Sa H s->n∈ns->zBe (.int n) u->wpAny (model X.prog X.w) X.A.in1 (call (.ref f) [u]) (fun r s'=>CE X.stack X.prog X.w H s (fun v H'=>v = .int (val n)/\zA3 H H') r s') E s
variable {ns:List Int}{val:Int->Int}
theorem LpI.list (L:LpI X pins σ H2 f of Ia Sa H s)(hl:H2 l=some (.lst (ns.map V.int))):∃its,IntsAre its ns/\s.heap.IsList l its.toArray:=by
 obtain⟨_,its,nn,rv,ho⟩:=L.inv.hok l _ (L.sm _ _ hl)
 exact⟨its,zBd rv,_,ho,rfl,nn,rfl⟩
noncomputable def zHV (ns:List Int)(val:Int->Int)(j b:Nat)(nb:Int):Prop:=ns[b]? = some nb/\b<j/\∀i n,i<j->ns[i]? = some n->val nb<=val n/\(i<b->val nb<val n)
theorem zHV.one {x:Int}(h:ns[0]? = some x):zHV ns val 1 0 x:=⟨h,Nat.zero_lt_one,fun i n hi e=>by
 obtain rfl:i=0:=by omega
 rw[h] at e;cases e
 exact⟨Int.le_refl _,fun z=>absurd z (zBM _)⟩⟩
theorem zHV.keep {j b:Nat}{nb x:Int}(B:zHV ns val j b nb)(h:ns[j]? = some x)(c:¬ val x<val nb):zHV ns val (j+1) b nb:=⟨B.1,by have:=B.2.1;omega,fun i n hi e=>by
 by_cases z:i=j
 . subst z;rw[h] at e;cases e
   exact⟨by omega,fun y=>by have:=B.2.1;omega⟩
 . exact B.2.2 i n (by omega) e⟩
theorem zHV.new {j b:Nat}{nb x:Int}(B:zHV ns val j b nb)(h:ns[j]? = some x)(c:val x<val nb):zHV ns val (j+1) j x:=⟨h,by omega,fun i n hi e=>by
 by_cases z:i=j
 . subst z;rw[h] at e;cases e
   exact⟨Int.le_refl _,fun y=>by omega⟩
 . have:=(B.2.2 i n (by omega) e).1
   exact⟨by omega,fun _=>by omega⟩⟩
theorem zIq {Rr:Result->Shared->Prop}(hh:X.A.handled=none)(ky:KeyJ X pins σ H2 f of Ia Sa ns val)(hl:H2 l=some (.lst (ns.map V.int)))
 (hR:∀M b H s u,zHV ns val ns.length b M->Inv X pins σ H s->zA3 H2 H->zBe (.int M) u->Rr (.ok (.ret u)) s) :
 ∀(r j:Nat)(H:Hp)(s:Shared)(b:Nat)(nb:Int)(vb:Value)(tb:Tok)(c:Nat),ns.length-j=r->1<=j->j<=ns.length->LpI X pins σ H2 f of Ia Sa H s->s.heap.IsListIter Ia l j->zHV ns val j b nb->zBe (.int nb) vb ->
  s.heap.get? Sa=some { cls:=.type "list",data:=.seq #[vb,.int (val nb) tb] c }->codeAny (model X.prog X.w) X.A (.builtin "min.loop" { pos:=[.ref Ia,.ref f,.ref Sa],kw:=[] }) Rr s:=by
 intro r
 induction r with
 | zero=>
  intro j H s b nb vb tb c hr h1 hj L hit B rb hSo
  obtain rfl:j=ns.length:=by omega
  obtain⟨its,hI,hls⟩:=L.list hl
  refine codeAny_builtin PySem.F.entry_min_loop ?_
  unfold Builtin.«min.loop»
  refine zA (zAw hSo rfl ?_)
  dsimp only
  refine zA (zAY (wpAny_pyNext_list_end hh hit hls (by rw[zy];exact zAB (by rw[hI.length];exact zG _)) fun h' k=>?_))
  have hS':=k Sa _ L.d3 hSo
  refine zA (zAf hS' rfl (zA (zBV (zB ?_))) (by show 2<=sizeLine;decide) (by show 0<=sizeLine+1;decide))
  exact hR nb b H _ vb B ((L.inv.off (t':=s.toks) L.fi k).off (t':=s.toks) L.fs fun b o hb e=>(zAL _ _ _ _ hb).trans e) L.sm rb
 | succ r ih=>
  intro j H s b nb vb tb c hr h1 hj L hit B rb hSo
  obtain⟨x,hx⟩:∃x,ns[j]? = some x:=⟨_,zD (by omega)⟩
  obtain⟨its,hI,hls⟩:=L.list hl
  obtain⟨tx,hu⟩:=hI.get j x hx
  refine codeAny_builtin PySem.F.entry_min_loop ?_
  unfold Builtin.«min.loop»
  refine zA (zAw hSo rfl ?_)
  dsimp only
  refine zA (zAY (zBX hit hls (by rw[zy];exact hu) fun h' hit' k=>?_))
  have L1:=L.offI (t':=s.toks) (h':=h') (fun b o hb e=>(k.2 b hb).trans e) (let ⟨o,ho,_⟩:=hit';⟨o,ho⟩)
  have hS':h'.get? Sa=some { cls:=.type "list",data:=.seq #[vb,.int (val nb) tb] c }:=(k.2 Sa L.d3).trans hSo
  refine zA (zAY (zq (zAM (ky H _ x (.int x tx) _ L1 (zc hx) ⟨tx,rfl⟩) (fun rr s2 hce=>?_) fun _ _ z=>z)))
  obtain⟨H',L2,rv2,kI,kS⟩:=L1.call hce
  obtain⟨t2,rfl⟩:=rv2
  have hS2:=kS _ hS'
  have hit2:s2.heap.IsListIter Ia l (j+1):=by obtain⟨o,ho,hc⟩:=hit';exact⟨o,kI _ ho,hc⟩
  refine zA (zAY (zq (zA (PyProof.Rows.lt_int ?_))))
  refine zA (zq (zAq (zA (zBV (zB ?_)))))
  cases e:decide (val x<val nb) with
  | true=>
   refine zA (zAf hS2 rfl (zA (zBV (zB ⟨rfl,?_⟩))) (by show 2<=sizeLine;decide) (by show 2<=sizeLine+1;decide))
   refine ih (j+1) H' _ j x (.int x tx) t2 c (by omega) (by omega) (by omega) (L2.offS (t':=s2.toks) (fun b o hb e=>(zAL _ _ _ _ hb).trans e) ⟨_,zi _ hS2 rfl⟩) ?_ (B.new hx (of_decide_eq_true e)) ⟨tx,rfl⟩ (zi _ hS2 rfl)
   obtain⟨o,ho,hc⟩:=hit2
   exact⟨o,(zAL _ _ _ _ (Ne.symm L.d3)).trans ho,hc⟩
  | false=>
   refine zA (zBV (zB ⟨rfl,?_⟩))
   exact ih (j+1) H' s2 b nb vb tb c (by omega) (by omega) (by omega) L2 hit2 (B.keep hx (of_decide_eq_false e)) rb hS2
theorem zHk {Rr:Result->Shared->Prop}(hh:X.A.handled=none)(ky:KeyJ X pins σ H2 f of Ia Sa ns val)(hl:H2 l=some (.lst (ns.map V.int)))(hne:ns≠[])
 (hR:∀M b H s u,zHV ns val ns.length b M->Inv X pins σ H s->zA3 H2 H->zBe (.int M) u->Rr (.ok (.ret u)) s){c:Nat}(L:LpI X pins σ H2 f of Ia Sa H s)(hit:s.heap.IsListIter Ia l 0)(hSo:s.heap.get? Sa=some { cls:=.type "list",data:=.seq #[] c }) :
 codeAny (model X.prog X.w) X.A (.builtin "min.loop" { pos:=[.ref Ia,.ref f,.ref Sa],kw:=[] }) Rr s:=by
 have hlen:=zBB.mpr hne
 obtain⟨x,hx⟩:∃x,ns[0]? = some x:=⟨_,zD hlen⟩
 obtain⟨its,hI,hls⟩:=L.list hl
 obtain⟨tx,hu⟩:=hI.get 0 x hx
 refine codeAny_builtin PySem.F.entry_min_loop ?_
 unfold Builtin.«min.loop»
 refine zA (zAw hSo rfl ?_)
 dsimp only
 refine zA (zAY (zBX hit hls (by rw[zy];exact hu) fun h' hit' k=>?_))
 have L1:=L.offI (t':=s.toks) (h':=h') (fun b o hb e=>(k.2 b hb).trans e) (let ⟨o,ho,_⟩:=hit';⟨o,ho⟩)
 have hS':h'.get? Sa=some { cls:=.type "list",data:=.seq #[] c }:=(k.2 Sa L.d3).trans hSo
 refine zA (zAY (zq (zAM (ky H _ x (.int x tx) _ L1 (zc hx) ⟨tx,rfl⟩) (fun rr s2 hce=>?_) fun _ _ z=>z)))
 obtain⟨H',L2,rv2,kI,kS⟩:=L1.call hce
 obtain⟨t2,rfl⟩:=rv2
 have hS2:=kS _ hS'
 refine zA (zAf hS2 rfl (zB ⟨rfl,?_⟩) (by show 0<=sizeLine;decide) (by show 2<=sizeLine+1;decide))
 refine zIq hh ky hl hR (ns.length-1) 1 H' _ 0 x (.int x tx) t2 (c+1) rfl (zG _) hlen (L2.offS (t':=s2.toks) (fun b o hb e=>(zAL _ _ _ _ hb).trans e) ⟨_,zi _ hS2 rfl⟩) ?_ (zHV.one hx) ⟨tx,rfl⟩ (zi _ hS2 rfl)
 obtain⟨o,ho,hc⟩:=hit'
 exact⟨o,(zAL _ _ _ _ (Ne.symm L.d3)).trans (kI _ ho),hc⟩
theorem zJS {Q E:Value->Shared->Prop}(hh:X.A.handled=none)(I:Inv X pins σ H2 s)(hf:s.heap.get? f=some of)(hfp:zEN X pins H2 f)(ky:∀Ia Sa,KeyJ X pins σ H2 f of Ia Sa ns val)(hl:H2 l=some (.lst (ns.map V.int)))(hne:ns≠[])
 (hR:∀M b H s u,zHV ns val ns.length b M->Inv X pins σ H s->zA3 H2 H->zBe (.int M) u->Q u s) :
 wpAny (model X.prog X.w) X.A (call (.builtin "min") [.ref l] [(Str.ofString "key",.ref f)]) Q E s:=by
 obtain⟨_,its,nn,rv,ho⟩:=I.hok l _ hl
 have hp:s.heap.IsList l its.toArray:=⟨_,ho,rfl,nn,rfl⟩
 refine zBS (codeAny_call_builtin PySem.F.plain_min PySem.F.entry_min (wpAny_of_eq (show checkBuiltinCall "min" { pos:=[.ref l],kw:=[(Str.ofString "key",.ref f)] }=pure () from rfl) (zB ?_)))
 unfold Builtin.min
 refine zA (wpAny_of_eq (show Builtin.Builtins.bindParams "min" ["key", "default"] 0 { kw:=[(Str.ofString "key",.ref f)] }=pure [some (.ref f),none] from rfl) (zB ?_))
 dsimp only
 refine zA (zB ?_)
 refine zA (wpAny_pyIter_list hp (zA (zBL (zB ⟨rfl,?_⟩) (by show 0<=sizeLine;decide))))
 have hSe:(s.heap.push { cls:=.type "list_iterator",data:=.fields #[.ref l,.int 0 0] }).objs.size=s.heap.objs.size+1:=zAg ..
 rw[hSe]
 have k1:∀(o1 o2:Obj) b o,s.heap.get? b=some o->((s.heap.push o1).push o2).get? b=some o:=fun o1 o2 b o e=>zE _ (zE _ e)
 have hfl:=zU hf
 refine zHk (Ia:=s.heap.objs.size) (Sa:=s.heap.objs.size+1) (H:=H2) (c:=0) hh (ky _ _) hl hne hR ⟨I.kept (t':=s.toks) (k1 _ _),fun _ _ e=>e,k1 _ _ _ _ hf,hfp,I.fpOk (zG _) (I.hok.fresh (zG _)),I.fpOk (zBA _) (I.hok.fresh (zBA _)),zf hfl,zf (zA1 hfl),Nat.succ_ne_self _,⟨_,zE _ (zK _ rfl)⟩,⟨_,by rw[<-hSe];exact zK _ rfl⟩⟩ ?_ ?_
 . exact⟨_,zE _ (zK _ rfl),rfl,rfl⟩
 . rw[<-hSe];exact zK _ rfl
end
section
variable {X:Cx}
noncomputable def zK5 (P:Addr)(lpos:Pos)(q:Str)(ci:List Nat)(t:TA)(te:TE):TE:=fun σ H Q=>t σ H fun vs H1=>∃(l:Addr)(ns:List Int)(val:Int->Int)(cv:List V),vs=[.ref l]/\H1 l=some (.lst (ns.map V.int))/\ns≠[]/\ci.map (fun j=>σ[j]?)=cv.map (fun v=>some (some v))/\TabAt H1 P lpos q /\
 ∀H2,SmP P H1 H2->TabAt H2 P lpos q->(∀n∈ns,∀H3,zA3 H2 H3->te (some (.int n)::cv.map some) H3 (fun v H4=>v = .int (val n)/\zA3 H3 H4))/\∀(M:Int)(b:Nat)(H4:Hp),zHV ns val ns.length b M->zA3 H2 H4->Q (.int M) H4
theorem zIf {k:Nat}{P c:Addr}{pn:Str}{cn:List Str}{ci:List Nat}{e body:Expr}{t:TA}{te:TE}{params:Arguments}{lscope:Scope}{lpos pos np kpos:Pos}
 (hc:X.calm=true)(hr:zCm (k+2) X.A)(hg:Gl X "min") (hm:X.mg "min" = none) (he:PA X [e] t)(hcode:X.env.code = .ref c)(C:PySem.W.CodeHd X.base c P)(hbm:zJh X.mg X.base)
 (S:zCy X lscope)(hco:lscope.isCoroutine=false)(hgen:lscope.isGenerator=false)(hpn:lscope.names.lookup pn=some .local)(hcap:zEO X lscope cn ci)(hlc:cn.length=ci.length)(hdef:defaultsOf params X.env=([],[]))
 (hbind:∀(q:Str)(body:Expr)(cl:List (Str×Addr))(pm cdv ct v:Value),bindArgs (PySem.W.kla_fn "<lambda>" q params body lscope cl pm cdv ct) ⟨[v],[]⟩=pure [(pn,v)])
 (hb:∀(f:Addr)(cd:Value)(s3:Shared)(H3:Hp),zCm k (zGk X X.A.in1 (pn::cn) (X.env.qual ++ "<lambda>") lscope f cd s3 H3).A->PE (zGk X X.A.in1 (pn::cn) (X.env.qual ++ "<lambda>") lscope f cd s3 H3) body te)
 (hs1:backTo pos (starEach [e] X.env)=(false,eval e X.env)::backTo pos (starEach [] X.env):=by rfl)(hs2:(backTo pos (starEach [e] X.env)).any (·.1)=false:=by rfl) :
 PE X (.Call (.Name "min" np) [e] [⟨some "key",.Lambda params body lscope lpos,kpos⟩] pos) (zK5 P lpos (X.env.qual ++ "<lambda>") ci t te):=by
 intro pins s σ H Q I h
 refine zAu (zCc I hg hm (by decide +kernel:bootBuiltins "min" = some (.builtin "min")) ?_)
 refine PyProof.Rows.callWith_kw (thn (he pos pins s σ H _ I h) fun us s1 ⟨vs,H1,I1,r,q1⟩=>?_) hs1 hs2
 obtain⟨l,ns,val,cv,rfl,hl,hne,hv,T,q⟩:=q1
 obtain⟨u,rfl,rx⟩:=zDQ r
 cases rx
 show wpAny _ _ (evalAll ((do let v <-eval (.Lambda params body lscope lpos) X.env;standAt pos;pure v)::[])) _ _ s1
 refine wpAny_evalAll_cons (zA (zLi I1 T hcode C hbm S.free hdef fun f pm cv' ctv s2 H2 I2 sm T2 hfge hf hrec hfn=>zA (wpAny_standAt (zB (wpAny_evalAll_nil ?_)))))
 show wpAny _ _ (call (.builtin "min") [.ref l] [(Str.ofString "key",.ref f)]) _ _ s2
 have hl2:H2 l=some (.lst (ns.map V.int)):=sm.get hl (by intro ps z;cases z)
 obtain⟨q1,q2⟩:=q H2 sm T2
 obtain⟨c1,rfl,hc1⟩:=hrec
 refine zJS (val:=val) (I2.ok.hd hc) I2 hf (I1.fpOk hfge hfn) (fun Ia Sa H3 s3 n un E' L hn ru=>?_) hl2 hne (fun M b H4 s4 um B I4 s24 ru=>⟨.int M,H4,I4,ru,q2 M b H4 B s24⟩)
 obtain⟨⟨o1,v1,t1,ho1,hd1,hv1⟩,_⟩:=L.inv.hok c1 _ (L.sm _ _ hc1)
 exact zKC (cv:=cv) L.inv (I2.ok.hd hc) L.inv.ok.frames hr.in1.depth S hco hgen hpn hcap hv hlc (hbind _ _ _ _ _ _ _) L.fo ⟨c1,o1,v1,t1,rfl,ho1,hd1,hv1⟩ (fun s5 H5=>hb f (.ref c1) s5 H5 (hr.in1.deeper _)) ru (q1 n hn H3 L.sm)
end
end L2
namespace L2
open PySem PyProof.Rows
section
variable {X:Cx}
end
end L2
namespace L2
open PySem PySem.Spec PyProof.Rows
section
variable {X:Cx}
end
section
variable {X:Cx}{k:Nat}{f:Addr}{fd:FuncData}{ps:List Str}{sp:Sp}{x y:Str}{p pos epos pos':Pos}{e:Expr}{es:List Expr}{t:TA}{i:Nat}
theorem px_set (hN:X.N.Nodup)(hi:X.N[i]? = some y)(hx:Loc X.env.scope y)(F:zAa X.prog X.w X.K X.mg X.base (CXO X.prog X.w) k f fd ps sp)(hr:zCm k X.A)(hg:Gl X x)(hm:X.mg x=some (.ref f))(hk:PySem.W.keepIn X.K (.ref f)=true)(hb:zAH X.K fd ps [])
 (ha:PA X.nox (e::es) t)(hs:swapsWith (.Call (.Name x p) (e::es) [] pos) (some (.Name y pos')) epos.line X.env=pure false:=by rfl)(hf:X.fn y=true\/X.env.scope.names.lookup y=some .local:=by first | exact .inl rfl | exact .inr rfl | assumption)(hdb:(x==("__debug__" : Str))=false:=by decide) (he:starEach (e::es) X.env=(false,eval e X.env)::starEach es X.env:=by rfl)(hpl:(backTo pos (starEach es X.env)).any (·.1)=false:=by rfl) :
 PX X [.Assign [.Name y pos'] (.Call (.Name x p) (e::es) [] pos) epos] (fun E1 D σ H=>t σ H fun vs H1=>sp vs H1 (fun v H2=>D.nx (σ.set i (some v)) H2) E1):=by
 intro pins s σ H D E1 I h
 refine wpAny_execs_cons (wpAny_Assign_Name (zAM (call_x F hr hg hm hk hb ha I h hdb he hpl) (fun v s1 ⟨z,H1,I1,r1,q1⟩=>?_) fun _ _ z=>z) hs)
 exact zCY I1 hN hi hx r1 (fun s2 I2=>wpAny_execs_nil ⟨_,H1,I2,q1⟩) hf
end
end L2
namespace L2
open PySem PySem.Spec PyProof.Rows
section
variable {X:Cx}
noncomputable def zLL (K:PySem.W.Frag):R2:=fun x y H Q=>∃(a p:Addr)(xs:List Int)(ys:List V)(ks:List (List Int)),x = .ref a/\y = .ref p/\H a=some (.tup (xs.map V.int))/\SqL K H p ys/\zAG H ys ks/\Q (.bl (!decide (xs∈ks))) H
theorem zJm:∀(xs ys:List Int),xs.map V.int=ys.map V.int->xs=ys
 | [],[],_=>rfl
 | [],_::_,h=>by cases h
 | _::_,[],h=>by cases h
 | x::xs,y::ys,h=>by
  rw[zAU,zAU] at h
  injection h with h1 h2
  injection h1 with h1
  rw[h1,zJm xs ys h2]
theorem zIj (hu:X.A.units+1<cLine):OpR X (compareOp .NotIn) (zLL X.K):=by
 intro pins s σ H x y v u Q I rx ry h
 obtain⟨a,p,xs,ys,ks,rfl,rfl,ha,hp,T,q⟩:=h
 cases rx
 cases ry
 obtain⟨its,r,pl,hz⟩:=I.list hp
 have dec:∀w:Value,Decidable (∃b,w=Value.ref b/\H b=some (.tup (xs.map V.int))):=fun _=>Classical.propDecidable _
 have e:∀w,w∈its->∃(b:Addr)(k:List Int),w = .ref b/\H b=some (.tup (k.map V.int))/\k∈ks:=fun w hw=>by
  obtain⟨i,hi,ew⟩:=zAC hw
  have hiy:i<ys.length:=by rw[r.length];exact hi
  obtain⟨b,k,e1,e2,e3,_⟩:=T.get (zD hiy)
  obtain⟨w1,hw1,rw1⟩:=r.get (i:=i) (x:=ys[i]) (zD hiy)
  rw[zD hi,ew] at hw1
  rw[e1] at rw1
  cases hw1
  exact⟨b,k,rw1,e3,zc e2⟩
 refine SeqAt.notIn_listAt (fun w=>@decide _ (dec w)) pl.isList (fun w hw=>?_) ⟨.bl _,H,I,rfl,?_⟩
 . obtain⟨b,k,rfl,hb,hk⟩:=e w (by simpa using hw)
   have ek:@decide _ (dec (.ref b))=decide (k=xs):=by
    by_cases c:k=xs
    . subst c
      rw[zM rfl];exact @zM _ (dec _) ⟨b,rfl,hb⟩
    . rw[zV c]
      refine @zV _ (dec _) ?_
      rintro ⟨b',e1,e2⟩
      cases e1
      rw[hb] at e2
      injection e2 with z
      injection z with z
      exact c (zJm _ _ z)
   rw[ek]
   by_cases c:b=a
   . subst c
     rw[hb] at ha
     injection ha with z
     injection z with z
     rw[zJm _ _ z,zM rfl]
     exact SeqAt.EqAt.same _
   . obtain⟨us,rv1,t1,_⟩:=I.tuple (SqT.of (K:=X.K) hb)
     obtain⟨ws,rv2,t2,_⟩:=I.tuple (SqT.of (K:=X.K) ha)
     have h1:=zBd rv1
     have h2:=zBd rv2
     have h:=SeqAt.RcAt.tuples (A:=X.A.in1) (e:=fun j=>k.getD j 0==xs.getD j 0) t1 t2 (show X.A.units+1<cLine from hu) (fun j a b=>eqAts h1 h2 j a b)
     rw[zS,zS,h1.length,h2.length,zKG] at h
     exact SeqAt.EqAt.of_refs c h
 . have ea:its.toArray.any (fun w=>@decide _ (dec w))=decide (xs∈ks):=by
    rw[show its.toArray.any (fun w=>@decide _ (dec w))=its.any (fun w=>@decide _ (dec w)) by simp]
    by_cases c:xs∈ks
    . rw[zM c,List.any_eq_true]
      obtain⟨i,hi,ei⟩:=zAC c
      have hiy:i<ys.length:=by rw[T.length];exact hi
      obtain⟨b,k,e1,e2,e3,_⟩:=T.get (zD hiy)
      rw[zD hi,ei] at e2
      cases e2
      obtain⟨w1,hw1,rw1⟩:=r.get (i:=i) (x:=ys[i]) (zD hiy)
      rw[e1] at rw1
      exact⟨w1,zc hw1,@zM _ (dec _) ⟨b,rw1,e3⟩⟩
    . rw[zV c,List.any_eq_false]
      intro w hw z
      obtain⟨b,k,rfl,hb,hk⟩:=e w hw
      obtain⟨b',e1,e2⟩:=@of_decide_eq_true _ (dec _) z
      cases e1
      rw[hb] at e2
      injection e2 with z
      injection z with z
      rw[zJm _ _ z] at hk
      exact c hk
   rw[ea]
   exact q
end
end L2
namespace WM
noncomputable def zH4 (ts:List T3)(xs:List Int):Prop:=∀S:Int->Prop,(∃a∈xs,S a)->(∀a b l,a∈xs->b∈xs->Adj ts a b l->S a->S b)->∀b∈xs,S b
noncomputable def Bridge (ts:List T3)(xs:List Int)(a b:Int):Prop:=∃S:Int->Prop,S a/\¬ S b/\∀x y l,x∈xs->y∈xs->Adj ts x y l->S x->¬ S y->x=a/\y=b
structure zDh (ts:List T3)(xs:List Int):Prop where
 cn:zH4 ts xs
 br:∀a b l,a∈xs->b∈xs->Adj ts a b l->Bridge ts xs a b
structure zCX (ts:List T3)(left:List Int)(x:Int)(p:List Int):Prop where
 ri:p.Pairwise (· < ·)
 sub:∀y∈p,y∈left
 mem:x∈p
 cl:∀a∈p,∀b l,Adj ts a b l->b∈left->b∈p
 cn:zH4 ts p
theorem zCX.min {ts:List T3}{left p:List Int}{x:Int}(h:zCX ts left x p){S:Int->Prop}(hx:S x)(hc:∀a b l,a∈left->b∈left->Adj ts a b l->S a->S b):∀y∈p,S y:=
 h.cn S ⟨x,h.mem,hx⟩ fun a b l ha hb A=>hc a b l (h.sub a ha) (h.sub b hb) A
theorem zCX.uniq {ts:List T3}{left p q:List Int}{x:Int}(h:zCX ts left x p)(g:zCX ts left x q):p=q:=by
 have key:∀{p q:List Int},zCX ts left x p->zCX ts left x q->∀y∈p,y∈q:=fun h g=>h.min (S:=(· ∈ _)) g.mem fun a b l _ hb A ha=>g.cl a ha b l A hb
 refine List.Perm.eq_of_pairwise (le:=(· < ·)) (fun a b _ _ h1 h2=>absurd h1 (by omega)) h.ri g.ri ?_
 exact (List.perm_ext_iff_of_nodup (h.ri.imp fun h=>by omega) (g.ri.imp fun h=>by omega)).mpr fun y=>⟨key h g y,key g h y⟩
theorem zDh.sub {ts:List T3}{xs p:List Int}(h:zDh ts xs)(hs:∀y∈p,y∈xs)(cn:zH4 ts p):zDh ts p:=by
 refine⟨cn,fun a b l ha hb A=>?_⟩
 obtain⟨S,h1,h2,h3⟩:=h.br a b l (hs a ha) (hs b hb) A
 exact⟨S,h1,h2,fun x y l hx hy A=>h3 x y l (hs x hx) (hs y hy) A⟩
inductive zAb (ts:List T3):List Int->List (List Int)->Prop
 | nil:zAb ts [] []
 | cons {x:Int}{left p:List Int}{ps:List (List Int)}(h:zCX ts (x::left) x p)(t:zAb ts ((x::left).filter fun y=>!decide (y∈p)) ps):zAb ts (x::left) (p::ps)
theorem zAb.uniq {ts:List T3}{left:List Int}{ps qs:List (List Int)}(h:zAb ts left ps)(g:zAb ts left qs):ps=qs:=by
 induction h generalizing qs with
 | nil=>cases g;rfl
 | cons h t ih=>
  cases g with
  | cons h' t'=>
   obtain rfl:=h.uniq h'
   rw[ih t']
theorem zAb.all {ts:List T3}{left:List Int}{ps:List (List Int)}(h:zAb ts left ps)(nd:left.Nodup):(∀p∈ps,p.Pairwise (· < ·)/\zH4 ts p/\p≠[]/\(∀y∈p,y∈left)/\∀a∈p,∀b l,Adj ts a b l->b∈left->b∈p)/\ps.flatten.Perm left:=by
 induction h with
 | nil=>exact⟨(fun p hp=>by cases hp),zB0 _⟩
 | @cons x left p ps h t ih=>
  obtain⟨i1,i2⟩:=ih (nd.filter _)
  have mf:∀y,y∈(x::left).filter (fun y=>!decide (y∈p))↔y∈x::left/\y∉p:=fun y=>by
   rw[zAm,Bool.not_eq_true',decide_eq_false_iff_not]
  refine⟨fun q hq=>?_,?_⟩
  . rcases zW.mp hq with rfl | hq
    . exact⟨h.ri,h.cn,(fun z=>by have:=h.mem;rw[z] at this;cases this),h.sub,h.cl⟩
    . obtain⟨a1,a2,a3,a4,a5⟩:=i1 q hq
      refine⟨a1,a2,a3,fun y hy=>((mf y).mp (a4 y hy)).1,fun a ha b l A hb=>?_⟩
      obtain⟨c1,c2⟩:=(mf a).mp (a4 a ha)
      exact a5 a ha b l A ((mf b).mpr ⟨hb,fun hp=>c2 (h.cl b hp a l A.symm c1)⟩)
  . rw[List.flatten_cons]
    refine (i2.append_left p).trans ((List.perm_ext_iff_of_nodup ?_ nd).mpr fun y=>?_)
    . refine zA2.mpr ⟨h.ri.imp fun h=>by omega,nd.filter _,fun a ha b hb e=>?_⟩
      exact ((mf b).mp hb).2 (e ▸ ha)
    . rw[zQ,mf]
      constructor
      . rintro (z | z)
        . exact h.sub y z
        . exact z.1
      . intro z
        by_cases c:y∈p
        . exact .inl c
        . exact .inr ⟨z,c⟩
noncomputable def big (ps:List (List Int)):Nat:=ps.foldr (fun p m=>max p.length m) 0
theorem zJY {ps:List (List Int)}{m:Nat}:big ps<=m↔∀p∈ps,p.length<=m:=by
 induction ps with
 | nil=>exact⟨(fun _ p hp=>by cases hp),fun _=>zk _⟩
 | cons p ps ih=>
  show max p.length (big ps)<=m↔_
  rw[Nat.max_le,ih]
  simp
theorem zKw {ps:List (List Int)}(h:ps≠[]):∃p∈ps,p.length=big ps:=by
 induction ps with
 | nil=>exact absurd rfl h
 | cons p ps ih=>
  by_cases c:big ps<=p.length
  . exact⟨p,zN,by show _=max _ (big ps);omega⟩
  . cases ps with
    | nil=>exact absurd (zk _) c
    | cons q qs=>
     obtain⟨r,hr,e⟩:=ih (by simp)
     exact⟨r,zO _ hr,by show _=max _ (big _);omega⟩
theorem middle {ts:List T3}{xs:List Int}{v:Int}{ps:List (List Int)}(T:zDh ts xs)(nd:xs.Nodup)(hv:v∈xs)(hp:zAb ts (xs.filter fun y=>decide (y≠v)) ps)
 (hm:∀u∈xs,∀qs,zAb ts (xs.filter fun y=>decide (y≠u)) qs->big ps<=big qs)(ex:∀u∈xs,∃qs,zAb ts (xs.filter fun y=>decide (y≠u)) qs):2*big ps<=xs.length:=by
 by_cases c:2*big ps<=xs.length
 . exact c
 exfalso
 have hx1:1<=xs.length:=zBB.mpr (List.ne_nil_of_mem hv)
 have mf:∀u y,y∈xs.filter (fun y=>decide (y≠u))↔y∈xs/\y≠u:=fun u y=>by rw[zAm,zAZ]
 obtain⟨C,hC,eC⟩:=zKw (ps:=ps) (fun z=>by rw[z] at c;exact c (by show 2*0<=_;omega))
 obtain⟨c1,c2,c3,c4,c5⟩:=(hp.all (nd.filter _)).1 C hC
 have ndC:C.Nodup:=c1.imp fun h=>by omega
 have vC:v∉C:=fun z=>((mf v v).mp (c4 v z)).2 rfl
 obtain⟨u,hu,l,A⟩:∃u∈C,∃l,Adj ts u v l:=by
  refine zt fun hn=>?_
  obtain⟨w,hw⟩:=List.exists_mem_of_ne_nil C c3
  refine vC (T.cn (· ∈ C) ⟨w,((mf v w).mp (c4 w hw)).1,hw⟩ (fun a b l ha hb A hac=>?_) v hv)
  by_cases e:b=v
  . exact absurd ⟨a,hac,l,e ▸ A⟩ hn
  . exact c5 a hac b l A ((mf v b).mpr ⟨hb,e⟩)
 have huv:=(mf v u).mp (c4 u hu)
 obtain⟨S,s1,s2,s3⟩:=T.br v u l hv huv.1 A.symm
 have CS:∀y∈C,¬ S y:=c2 (fun y=>¬ S y) ⟨u,hu,s2⟩ fun a b l ha hb A na sb=>by
  have:=(s3 b a l ((mf v b).mp (c4 b hb)).1 ((mf v a).mp (c4 a ha)).1 A.symm sb na).1
  exact vC (this ▸ hb)
 obtain⟨qs,hq⟩:=ex u huv.1
 have h1:=hm u huv.1 qs hq
 have h2:big qs<=C.length-1:=zJY.mpr fun E hE=>by
  obtain⟨e1,e2,e3,e4,e5⟩:=(hq.all (nd.filter _)).1 E hE
  have ndE:E.Nodup:=e1.imp fun h=>by omega
  by_cases cE:∃w∈E,w∈C
  . have EC:∀y∈E,y∈C:=e2 (· ∈ C) cE fun a b l ha hb A hac=>by
     by_cases e:b=v
     . have hua:=(mf u a).mp (e4 a ha)
       exact absurd (s3 v a l hv hua.1 (e ▸ A.symm) s1 (CS a hac)).2 hua.2
     . exact c5 a hac b l A ((mf v b).mpr ⟨((mf u b).mp (e4 b hb)).1,e⟩)
    have:(u::E).Nodup:=zAV.mpr ⟨fun z=>((mf u u).mp (e4 u z)).2 rfl,ndE⟩
    have:=zCN this fun y hy=>by
     rcases zW.mp hy with rfl | hy
     . exact hu
     . exact EC y hy
    rw[zj] at this
    omega
  . have:(C++E).Nodup:=zA2.mpr ⟨ndC,ndE,fun a ha b hb e=>cE ⟨b,hb,e ▸ ha⟩⟩
    have:=zCN this fun y hy=>by
     rcases zQ.mp hy with hy | hy
     . exact ((mf v y).mp (c4 y hy)).1
     . exact ((mf u y).mp (e4 y hy)).1
    rw[zH] at this
    omega
 have:1<=C.length:=zBB.mpr c3
 omega
theorem zF4 {α:Type}{p q:α->Bool}:∀{l:List α},(∀t∈l,p t=true->q t=true)->(∃t∈l,q t=true/\p t=false)->l.countP p<l.countP q
 | [],_,h=>by obtain⟨t,h,_⟩:=h;cases h
 | t::l,h1,h2=>by
  have le:l.countP p<=l.countP q:=List.countP_mono_left fun x hx=>h1 x (zO _ hx)
  have ht:=h1 t zN
  obtain⟨u,hu,a,b⟩:=h2
  rw[List.countP_cons,List.countP_cons]
  rcases zW.mp hu with rfl | hu
  . rw[a,b]
    simp
    omega
  . have:=zF4 (fun x hx=>h1 x (zO _ hx)) ⟨u,hu,a,b⟩
    cases e:p t with
    | false=>simp;omega
    | true=>rw[ht e];simp;omega
theorem zHx {ts:List T3}{xs:List Int}(cn:zH4 ts xs)(nd:xs.Nodup):xs.length<=ts.length+1:=by
 have key:∀k,k+1<=xs.length->∃S:List Int,S.Nodup/\(∀y∈S,y∈xs)/\S.length=k+1/\k<=ts.countP (fun t=>decide (t.1∈S) && decide (t.2.1∈S)):=by
  intro k
  induction k with
  | zero=>
   intro h
   cases xs with
   | nil=>simp at h
   | cons x xs=>exact⟨[x],by simp,fun y hy=>by rw[zX.mp hy];exact zN,rfl,zk _⟩
  | succ k ih=>
   intro h
   obtain⟨S,s1,s2,s3,s4⟩:=ih (by omega)
   obtain⟨a,b,l,ha,hb,A,aS,bS⟩:∃a b l,a∈xs/\b∈xs/\Adj ts a b l/\a∈S/\b∉S:=by
    refine zt fun hn=>?_
    have:∀b∈xs,b∈S:=cn (· ∈ S) (by
     cases S with
     | nil=>simp at s3
     | cons x S=>exact⟨x,s2 x zN,zN⟩) fun a b l ha hb A aS=>zt fun bS=>hn ⟨a,b,l,ha,hb,A,aS,bS⟩
    have:=zCN nd this
    omega
   refine⟨b::S,zAV.mpr ⟨bS,s1⟩,fun y hy=>?_,by rw[zj,s3],?_⟩
   . rcases zW.mp hy with rfl | hy
     . exact hb
     . exact s2 y hy
   . have:ts.countP (fun t=>decide (t.1∈S) && decide (t.2.1∈S))<ts.countP (fun t=>decide (t.1∈b::S) && decide (t.2.1∈b::S)):=zF4 (fun t _ z=>by
      rw[zAz,zAZ,zAZ] at z ⊢
      exact⟨zO _ z.1,zO _ z.2⟩) (by
      rcases A with A | A
      . exact⟨_,A,by simp[aS],by simp[bS]⟩
      . exact⟨_,A,by simp[aS],by simp[bS]⟩)
     omega
 by_cases h:1<=xs.length
 . obtain⟨S,_,_,_,h4⟩:=key (xs.length-1) (by omega)
   have:=List.countP_le_length (p:=fun t:T3=>decide (t.1∈S) && decide (t.2.1∈S)) (l:=ts)
   omega
 . omega
theorem zEq {ts:List T3}{xs:List Int}(cn:zH4 ts xs)(nd:xs.Nodup)(h:ts.length+1=xs.length):zDh ts xs:=by
 refine⟨cn,fun a b l ha hb A=>?_⟩
 obtain⟨e,he,hab⟩:∃e∈ts,∀t∈ts,t∉ts.erase e->∀x y m,(t=(x,y,m)\/t=(y,x,m))->(x=a/\y=b)\/(x=b/\y=a):=by
  rcases A with A | A
  . refine⟨_,A,fun t ht nt x y m hm=>?_⟩
    have et:t=(a,b,l):=zt fun z=>nt ((List.mem_erase_of_ne z).mpr ht)
    rcases hm with hm | hm
    . rw[et] at hm;cases hm;exact .inl ⟨rfl,rfl⟩
    . rw[et] at hm;cases hm;exact .inr ⟨rfl,rfl⟩
  . refine⟨_,A,fun t ht nt x y m hm=>?_⟩
    have et:t=(b,a,l):=zt fun z=>nt ((List.mem_erase_of_ne z).mpr ht)
    rcases hm with hm | hm
    . rw[et] at hm;cases hm;exact .inr ⟨rfl,rfl⟩
    . rw[et] at hm;cases hm;exact .inl ⟨rfl,rfl⟩
 have split:∀x y m,Adj ts x y m->Adj (ts.erase e) x y m\/(x=a/\y=b)\/(x=b/\y=a):=fun x y m B=>by
  rcases B with B | B
  . by_cases c:(x,y,m)∈ts.erase e
    . exact .inl (.inl c)
    . exact .inr (hab _ B c x y m (.inl rfl))
  . by_cases c:(y,x,m)∈ts.erase e
    . exact .inl (.inr c)
    . exact .inr (hab _ B c x y m (.inr rfl))
 let R:Int->Prop:=fun y=>∀S:Int->Prop,S a->(∀x z m,x∈xs->z∈xs->Adj (ts.erase e) x z m->S x->S z)->S y
 by_cases Rb:R b
 . exfalso
   have cn':zH4 (ts.erase e) xs:=fun S hs hc=>cn S hs fun x y m hx hy B sx=>by
    rcases split x y m B with B | ⟨rfl,rfl⟩ | ⟨rfl,rfl⟩
    . exact hc x y m hx hy B sx
    . exact Rb S sx hc
    . refine zt fun na=>?_
      exact Rb (fun z=>¬ S z) na (fun p q m hp hq B np sq=>np (hc q p m hq hp B.symm sq)) sx
   have:=zHx cn' nd
   rw[List.length_erase_of_mem he] at this
   have:0<ts.length:=List.length_pos_of_mem he
   omega
 . refine⟨R,fun S sa _=>sa,Rb,fun x y m hx hy B rx ry=>?_⟩
   rcases split x y m B with B | z | ⟨rfl,rfl⟩
   . exact absurd (fun S sa hc=>hc x y m hx hy B (rx S sa hc)) ry
   . exact z
   . exact absurd rx Rb
theorem zJM {ts:List T3}{p:List Int}{x:Int}(h:∀S:Int->Prop,S x->(∀a b l,a∈p->b∈p->Adj ts a b l->S a->S b)->∀y∈p,S y):zH4 ts p:=by
 rintro S ⟨a,ha,sa⟩ hc
 refine h S (zt fun nx=>?_) hc
 exact h (fun z=>¬ S z) nx (fun p q m hp hq B np sq=>np (hc q p m hq hp B.symm sq)) a ha sa
open Classical in
theorem zLT (ts:List T3){left:List Int}{x:Int}(hx:x∈left)(pw:left.Pairwise (· < ·)):∃p,zCX ts left x p:=by
 let R:Int->Prop:=fun y=>∀S:Int->Prop,S x->(∀a b l,a∈left->b∈left->Adj ts a b l->S a->S b)->S y
 have mf:∀y,y∈left.filter (fun y=>decide (R y))↔y∈left/\R y:=fun y=>by rw[zAm,zAZ]
 have cl:∀a∈left.filter (fun y=>decide (R y)),∀b l,Adj ts a b l->b∈left->b∈left.filter (fun y=>decide (R y)):=fun a ha b l A hb=>by
  obtain⟨h1,h2⟩:=(mf a).mp ha
  exact (mf b).mpr ⟨hb,fun S hS hc=>hc a b l h1 hb A (h2 S hS hc)⟩
 have hm:=(mf x).mpr ⟨hx,fun S hS _=>hS⟩
 refine⟨_,pw.filter _,fun y hy=>((mf y).mp hy).1,hm,cl,zJM (x:=x) fun S hS hc y hy=>?_⟩
 exact (((mf y).mp hy).2 (fun z=>z∈left.filter (fun y=>decide (R y))/\S z) ⟨hm,hS⟩ fun a b l ha hb A z=>⟨cl a z.1 b l A hb,hc a b l z.1 (cl a z.1 b l A hb) A z.2⟩).2
theorem zFB (ts:List T3):∀(m:Nat){left:List Int},left.length<=m->left.Pairwise (· < ·)->∃ps,zAb ts left ps
 | _,[],_,_=>⟨[],.nil⟩
 | 0,x::left,h,_=>by simp at h
 | m+1,x::left,h,pw=>by
  obtain⟨p,hp⟩:=zLT ts (zN (a:=x) (l:=left)) pw
  have hlt:((x::left).filter fun y=>!decide (y∈p)).length<(x::left).length:=by
   refine Nat.lt_of_le_of_ne (zAF _ _) fun z=>?_
   have:=List.length_filter_eq_length_iff.mp z x zN
   rw[zM hp.mem] at this
   cases this
  obtain⟨ps,h2⟩:=zFB ts m (left:=(x::left).filter fun y=>!decide (y∈p)) (by omega) (pw.filter _)
  exact⟨p::ps,.cons hp h2⟩
theorem zG7 {ts:List T3}{left p:List Int}{x:Int}(h:zCX ts left x p)(nd:left.Nodup):p.length=left.length↔zH4 ts left:=by
 have ndp:p.Nodup:=h.ri.imp fun h=>by omega
 have sub:=zCN ndp h.sub
 constructor
 . intro e
   have all:∀y∈left,y∈p:=fun y hy=>zt fun z=>by
    have:=zCN (zAV.mpr ⟨z,ndp⟩) (l₂:=left) fun w hw=>by
     rcases zW.mp hw with rfl | hw
     . exact hy
     . exact h.sub w hw
    rw[zj] at this
    omega
   rintro S ⟨a,ha,sa⟩ hc b hb
   exact h.cn S ⟨a,all a ha,sa⟩ (fun a b l ha hb=>hc a b l (h.sub a ha) (h.sub b hb)) b (all b hb)
 . intro cn
   have all:=cn (· ∈ p) ⟨x,h.sub x h.mem,h.mem⟩ fun a b l _ hb A ha=>h.cl a ha b l A hb
   have:=zCN nd all
   omega
theorem zFn {ts:List T3}{left:List Int}{ps:List (List Int)}(h:zAb ts left ps)(nd:left.Nodup)(ne:left≠[]):ps.length=1↔zH4 ts left:=by
 cases h with
 | nil=>exact absurd rfl ne
 | @cons x left p ps hp t=>
  rw[<-zG7 hp nd]
  have ndp:p.Nodup:=hp.ri.imp fun h=>by omega
  constructor
  . intro e
    have:ps=[]:=zAJ.mp (by rw[zj] at e;omega)
    subst this
    have hz:(x::left).filter (fun y=>!decide (y∈p))=[]:=by
     generalize (x::left).filter (fun y=>!decide (y∈p))=z at t
     cases t;rfl
    have all:∀y∈x::left,y∈p:=fun y hy=>zt fun z=>by
     have:y∈(x::left).filter (fun y=>!decide (y∈p)):=zAm.mpr ⟨hy,by rw[zV z];rfl⟩
     rw[hz] at this
     cases this
    have h1:=zCN nd all
    have h2:=zCN ndp hp.sub
    omega
  . intro e
    have all:∀y∈x::left,y∈p:=fun y hy=>zt fun z=>by
     have:=zCN (zAV.mpr ⟨z,ndp⟩) (l₂:=x::left) fun w hw=>by
      rcases zW.mp hw with rfl | hw
      . exact hy
      . exact hp.sub w hw
     rw[zj] at this
     omega
    have hz:(x::left).filter (fun y=>!decide (y∈p))=[]:=by
     rw[List.filter_eq_nil_iff]
     intro y hy
     rw[zM (all y hy)]
     decide
    rw[hz] at t
    cases t
    rfl
structure Mid (ts:List T3)(xs:List Int)(m:Int)(ps:List (List Int)):Prop where
 mem:m∈xs
 pa:zAb ts (xs.filter fun y=>decide (y≠m)) ps
 le:∀u∈xs,∀qs,zAb ts (xs.filter fun y=>decide (y≠u)) qs->big ps<=big qs/\(u<m->big ps<big qs)
theorem Mid.uniq {ts:List T3}{xs:List Int}{m m':Int}{ps ps':List (List Int)}(h:Mid ts xs m ps)(g:Mid ts xs m' ps'):m=m'/\ps=ps':=by
 have e:m=m':=by
  have h1:=h.le m' g.mem ps' g.pa
  have h2:=g.le m h.mem ps h.pa
  by_cases a:m<m'
  . have:=h2.2 a;omega
  . by_cases b:m'<m
    . have:=h1.2 b;omega
    . omega
 subst e
 exact⟨rfl,h.pa.uniq g.pa⟩
noncomputable def zEV:Nat->Nat->Nat
 | 0,_=>0
 | m+1,n=>if n=0 then 0 else zEV m (n/2)+1
theorem zJA:∀(m m' n:Nat),n<=m->n<=m'->zEV m n=zEV m' n
 | 0,0,_,_,_=>rfl
 | 0,m'+1,n,h,_=>by
  have:n=0:=by omega
  subst this
  rfl
 | m+1,0,n,_,h=>by
  have:n=0:=by omega
  subst this
  rfl
 | m+1,m'+1,n,h,h'=>by
  rw[zEV,zEV]
  split
  . rfl
  . rw[zJA m m' (n/2) (by omega) (by omega)]
theorem zF0:∀(m n k:Nat),n<=k->zEV m n<=zEV m k
 | 0,_,_,_=>zG _
 | m+1,n,k,h=>by
  rw[zEV,zEV]
  split
  . exact zk _
  . rw[if_neg (show ¬ k=0 by omega)]
    have:=zF0 m (n/2) (k/2) (by omega)
    omega
end WM
namespace L2
section
open PySem PySem.W PyProof.Rows
noncomputable def zEr (p:Program)(w:World)(n₀:Nat)(ann:Option Value):Nat->SharedT->Thread->Option SharedT
 | 0,_,_=>none
 | n+1,s,t=>match through t with
  | true=>some s
  | false=>match Fast.tw6613529449190102663 n₀ ann t with
   | false=>none
   | true=>match Fast.tw10156331382660048174 (Fast.tw11892475500146522536 Fast.tw14364793385576792824) p w s t with
    | some (s',t')=>zEr p w n₀ ann n s' t'
    | none=>none
theorem zFU {p:Program}{w:World}{n₀:Nat}{ann:Option Value}:∀{n:Nat}{s s':SharedT}{t:Thread},zEr p w n₀ ann n s t=some s'->topRun treeTable p w n₀ ann n s.abs t=some s'.abs
 | 0,_,_,_,h=>by cases h
 | n+1,s,s',t,h=>by
  unfold zEr at h
  rw[<-Fast.te6613529449190102663,<-Fast.te10156331382660048174,<-Fast.te11892475500146522536,<-Fast.te14364793385576792824] at h
  unfold topRun
  cases he:through t with
  | true=>rw[he] at h;cases h;rfl
  | false=>
   rw[he] at h
   cases hk:stepOk n₀ ann t with
   | false=>rw[hk] at h;cases h
   | true=>
    rw[hk] at h
    cases hs:stepT (denote treeTable) p w s t with
    | none=>rw[hs] at h;cases h
    | some r=>obtain⟨s₂,t₂⟩:=r;rw[hs] at h;rw[stepT_spec hs];exact zFU h
noncomputable def bt:List Obj->Nat->BT->BT
 | [],_,t=>t
 | o::l,i,t=>bt l (i+1) (t.ins i o)
noncomputable def bT (P:Params):BT:=bt (boot_heap P).objs.toList 0 .nil
noncomputable def bS (w:World)(os:OsState):SharedT:=⟨bT w.params,(boot_heap w.params).objs.size,(boot_heap w.params).life,Array.mk [],boot_drawn,boot_toks,os⟩
theorem bA (w:World)(os:OsState):(bS w os).abs=⟨boot_heap w.params,Array.mk [],boot_drawn,boot_toks,os⟩:=by kernel_rfl
noncomputable abbrev runT (p:Program)(N:Nat)(w:World)(os:OsState):Option SharedT:=zEr p w (boot_heap w.params).objs.size ((boot_heap w.params).nsMap mainGlobals "__annotations__") N (bS w os) (topStub p)
noncomputable abbrev chkT (p:Program)(h h':Heap)(s:Shared):Bool:=staticsOk (importedModules p.main.body) h h' && namesBound p h' && gensDone s && laidKept h h'
theorem left_of {p q:Program}{loose:List Str}{Xt:Shared->Bool}{α:Type}{Yf:Shared->α}{Ya:World->α}{N:Nat}(e:opening p=plainProg p.main.scope.names)(hN:Nat.ble 600 N=true)(f:∀s,fenceModules? p s=some s)
 (h:∀(w:World)(os:OsState),(runT p N w os).map (fun s=>(chkT p (boot_heap w.params) s.abs.heap s.abs,Fast.tw4187177175401517315 q loose (importedModules p.main.body) Xt true s.abs,Yf s.abs))=some (true,openGood q loose,Ya w)):LeftO p q loose Xt Yf Ya N:=by
 intro w
 obtain⟨⟨h0,gs,d,k,os⟩,e1,e2⟩:=zBb.mp (boot_open e hN f w)
 obtain⟨rfl,rfl,rfl,rfl⟩:h0=boot_heap w.params/\gs=Array.mk []/\d=boot_drawn/\k=boot_toks:=by simpa using e2
 obtain⟨s,r,a⟩:=zBb.mp (h w os)
 obtain⟨b,a⟩:=Prod.mk.inj a
 rw[<-Fast.te4187177175401517315] at a
 have y:=zFU r
 rw[bA] at y
 unfold openEnds
 rw[e1]
 show (topFrom treeTable p w N _).map _=_
 unfold topFrom
 have z:((boot_heap w.params).isNs mainGlobals && (Array.mk []:Array GenState).size==0)=true:=by kernel_rfl
 dsimp only
 rw[z]
 dsimp only
 rw[y]
 show Option.map _ (match chkT p (boot_heap w.params) s.abs.heap s.abs with | true=>some s.abs | false=>none)=_
 rw[b]
 exact congrArg some a
end
end L2
namespace K41
open PySem L2 WM
noncomputable def top (i:Nat):Stmt:=PySem.Challenge.pw_labelways_k41_plans_of_trees.main.body.getD i (.Pass ⟨0,0,0,0⟩)
noncomputable def mth (k i:Nat):Stmt:=match top k with
 | .ClassDef _ _ _ body ..=>body.getD i (.Pass ⟨0,0,0,0⟩)
 | _=>.Pass ⟨0,0,0,0⟩
noncomputable abbrev zJx:Stmt:=top 47
noncomputable abbrev zE0:Stmt:=top 48
noncomputable abbrev sN:Stmt:=top 49
noncomputable abbrev sWeb:Stmt:=top 50
noncomputable abbrev zFf:Stmt:=top 51
noncomputable abbrev zHd:Stmt:=top 21
noncomputable abbrev zDu:Stmt:=top 22
noncomputable abbrev zFe:Stmt:=top 23
noncomputable abbrev sJw:Stmt:=top 24
noncomputable abbrev sTp:Stmt:=top 26
noncomputable abbrev sIt:Stmt:=top 27
noncomputable abbrev sPop:Stmt:=top 28
noncomputable abbrev sMi:Stmt:=top 29
noncomputable abbrev sGp:Stmt:=top 30
noncomputable abbrev sPwo:Stmt:=top 31
noncomputable abbrev sNum:Stmt:=top 15
noncomputable abbrev sWi:Stmt:=top 16
noncomputable abbrev sPl:Stmt:=top 19
noncomputable abbrev sTof:Stmt:=top 17
noncomputable abbrev sRis:Stmt:=top 18
noncomputable abbrev sIp:Stmt:=top 34
noncomputable abbrev sPw:Stmt:=top 35
noncomputable abbrev sPp:Stmt:=top 36
noncomputable abbrev sCh:Stmt:=top 37
noncomputable abbrev sCo:Stmt:=top 38
noncomputable abbrev sPo:Stmt:=top 39
noncomputable abbrev sDe:Stmt:=top 40
noncomputable abbrev zIU:Stmt:=top 41
noncomputable abbrev zIT:Stmt:=top 42
noncomputable abbrev sPf:Stmt:=top 43
noncomputable abbrev sLk:Stmt:=top 44
noncomputable abbrev sTf:Stmt:=top 45
noncomputable abbrev sBes:Stmt:=top 52
noncomputable abbrev sPar:Stmt:=top 53
noncomputable abbrev zJw:Stmt:=top 54
noncomputable abbrev sLtp:Stmt:=top 55
noncomputable abbrev sFig:Stmt:=top 56
noncomputable abbrev zIS:Stmt:=top 57
noncomputable abbrev zG2:Stmt:=top 58
noncomputable abbrev sI1:Stmt:=mth 4 0
noncomputable abbrev sLaw:Stmt:=top 59
noncomputable def zCR (H:Hp)(t p:Addr)(N:Nat):Prop:=∃(ns:List Int)(spot rest:Int),H t=some (.lst [.ref p,.int spot,.int rest])/\H p=some (.lst (ns.map V.int))/\p≠t/\0<=spot/\spot<=N/\0<=rest/\ns.length<=63
noncomputable def zAh (H:Hp)(t:Addr)(N:Nat):Prop:=∃p:Addr,zCR H t p N
theorem zAh.mono {H:Hp}{t:Addr}{N M:Nat}(h:zAh H t N)(l:N<=M):zAh H t M:=by
 obtain⟨p,ns,spot,rest,a,b,c,d,e,f⟩:=h
 exact⟨p,ns,spot,rest,a,b,c,d,by omega,f⟩
noncomputable def Sm (t:Addr)(H H':Hp):Prop:=∀b o,b≠t->H b=some o->H' b=some o
theorem Sm.trans {t:Addr}{H H1 H2:Hp}(a:Sm t H H1)(b:Sm t H1 H2):Sm t H H2:=fun c o n e=>b c o n (a c o n e)
theorem Sm.of {t:Addr}{H H':Hp}(h:zA3 H H'):Sm t H H':=fun b o _ e=>h b o e
theorem Sm.laid {t l:Addr}{H:Hp}{o:HO}(h:H l=none):Sm t H (upd H l o):=fun b u _ e=>by rw[zY (zg e h)];exact e
theorem Sm.chg {t l:Addr}{H H':Hp}{o:HO}(s:Sm t H H')(h:H l=none):Sm t H (upd H' l o):=fun b u n e=>by rw[zY (zg e h)];exact s b u n e
theorem zL {l:Addr}{H:Hp}{o:HO}(h:H l=none):zA3 H (upd H l o):=fun b u e=>by rw[zY (zg e h)];exact e
theorem zA9 {l:Addr}{H H':Hp}{o:HO}(s:zA3 H H')(h:H l=none):zA3 H (upd H' l o):=fun b u e=>by rw[zY (zg e h)];exact s b u e
theorem zAh.keep {H H':Hp}{t:Addr}{N:Nat}(h:zAh H t N)(k:zA3 H H'):zAh H' t N:=by
 obtain⟨p,ns,spot,rest,a,b,c⟩:=h
 exact⟨p,ns,spot,rest,k _ _ a,k _ _ b,c⟩
theorem zAh.laid {H:Hp}{t l:Addr}{N:Nat}{o:HO}(h:zAh H t N)(hl:H l=none):zAh (upd H l o) t N:=h.keep (zL hl)
theorem zAh.ne {H:Hp}{t b:Addr}{N:Nat}(h:zAh H t N)(hb:H b=none):b≠t:=by
 obtain⟨p,ns,spot,rest,a,_⟩:=h
 exact (zg a hb).symm
theorem zAh.chg {H:Hp}{t l:Addr}{N:Nat}{o u:HO}(h:zAh H t N)(hl:H l=some u)(hu:∀xs,u ≠ .lst xs):zAh (upd H l o) t N:=by
 obtain⟨p,ns,spot,rest,a,b,c⟩:=h
 exact⟨p,ns,spot,rest,by rw[zY (zB5 a hl fun z=>hu _ z.symm)];exact a,by rw[zY (zB5 b hl fun z=>hu _ z.symm)];exact b,c⟩
theorem zCR.keepF {H H':Hp}{t p:Addr}{N M:Nat}(h:zCR H t p N)(k1:∀o,H t=some o->H' t=some o)(k2:∀o,H p=some o->H' p=some o)(l:N<=M):zCR H' t p M:=by
 obtain⟨ns,spot,rest,a,b,c,d,e,f⟩:=h
 exact⟨ns,spot,rest,k1 _ a,k2 _ b,c,d,by omega,f⟩
noncomputable def zEs:Sp:=fun vs H Q _=>∃(t p:Addr)(N:Nat)(many:Int),vs=[.ref t,.int many]/\zCR H t p N/\N<1000000/\0<many/\many<1000000 /\
 ∀(r:Int)(H':Hp),0<=r->r<many->zCR H' t p (N+1)->(∀b,b≠t->H' b=H b)->Q (.int r) H'
noncomputable def zII:Sp:=fun vs H Q _=>∃(t:Addr)(N:Nat)(many:Int),vs=[.ref t,.int many]/\zAh H t N/\N<1000000/\0<many/\many<1000000 /\
 ∀(r:Int)(H':Hp),0<=r->r<many->zAh H' t (N+1)->(∀b,b≠t->H' b=H b)->Q (.int r) H'
noncomputable def zKc (K:PySem.W.Frag):Sp:=fun vs H Q _=>∃(a:Addr)(ns:List Int),vs=[.ref a]/\SqL K H a (ns.map V.int)/\ns.length<=63/\∀(t:Addr)(H':Hp),H t=none->zAh H' t 0->zA3 H H'->Q (.ref t) H'
section
variable {P:Program}{w:World}{K:PySem.W.Frag}{mg:Str->Option Value}{base:Heap}
theorem scTape:zAI ["_law_script"] ["_law_script"] (defScope zJx):=⟨rfl,rfl,rfl,by decide +kernel,rfl,by decide +kernel,by decide +kernel⟩
theorem zLZ {f:Addr}{fd:FuncData}(F:Fun K "_law_tape" "_law_tape" zJx f fd):zAa P w K mg base CX0 1 f fd ["_law_script"] (zKc K):=by
 refine F.ok scTape (fun vs H Q E h=>?_) (fun cdv A outer s H vs Q E hr h=>?_)
 . obtain⟨a,ns,rfl,_⟩:=h
   rfl
 . obtain⟨a,ns,rfl,hS,hl,k⟩:=h
   refine⟨_,zn (zAd (zCL (zF (zCo zIK (pv 0) zDV (zDU zm)) (zBy (zBy zR))))),?_⟩
   refine⟨_,rfl,_,rfl,a,_,rfl,hS,fun p hp=>⟨by show 3<=sizeLine;decide,fun t ht=>?_⟩⟩
   have npt:p≠t:=fun e=>by rw[e,zI] at ht;cases ht
   have e1:zFO (ns.map V.int) none (some 63)=(ns.take 63).map V.int:=by
    unfold zFO
    rw[HT.sIx_none,List.drop_zero,Nat.sub_zero,zC,show (63:Int)=((63:Nat):Int) from rfl,HT.sIx_nat,List.map_take]
    rw[show min 63 ns.length=ns.length by omega,zd (by rw[zC];exact zG _),zd (by rw[zC];exact hl)]
   have ht0:H t=none:=by rw[zY npt.symm] at ht;exact ht
   refine k t _ ht0 ⟨p,ns.take 63,0,0,zI,?_,npt,Int.le_refl _,Int.le_refl _,Int.le_refl _,by rw[zp];omega⟩ ?_
   . rw[zY npt,zI,e1]
   . exact zA9 (zL hp) ht0
theorem zFd:zAI ["_law_tape_here", "_law_many", "_law_found", "_law_spot", "_law_cell", "_law_mixed"] ["_law_tape_here", "_law_many"] (defScope zE0):=⟨rfl,rfl,rfl,by decide +kernel,rfl,by decide +kernel,by decide +kernel⟩
theorem zD7 {a m:Int}(h:0<m):0<=a%m/\a%m<m:=⟨Int.emod_nonneg _ (by omega),Int.emod_lt_of_pos _ h⟩
theorem zDl {f:Addr}{fd:FuncData}(F:Fun K "_law_draw" "_law_draw" zE0 f fd) (mLen:mg "len" = none):zAa P w K mg base CX0 1 f fd ["_law_tape_here", "_law_many"] zEs:=by
 refine F.ok zFd (fun vs H Q E h=>?_) (fun cdv A outer s H vs Q E hr h=>?_)
 . obtain⟨t,p,N,many,rfl,_⟩:=h
   rfl
 . obtain⟨t,p,N,many,rfl,T,hN,hm0,hm1,k⟩:=h
   obtain⟨ns,spot,rest,ht,hp,hne,hs0,hs1,hr0,hl⟩:=T
   refine⟨_,zZ (zCF (zAS zJ7 (zAj zBE (pv 0) zm (fun _ _=>rfl)) zm (zAv _))
    (zZ (zAR (i:=2) zFd.nd rfl (Or.inl rfl) (zBP zD3 (zAj zBE (pv 0) zm (fun _ _=>rfl)) (pv 1)))
    (zZ (zIb (zBP zD5 (zAj zBE (pv 0) zm (fun _ _=>rfl)) (pv 1)) (zIe (pv 0) zm zEx))
    (zn (zAd (pv 2))))) zBD)
    (zZ (zAR (i:=3) zFd.nd rfl (Or.inl rfl) (zAj zBE (pv 0) zm (fun _ _=>rfl)))
    (zZ (zIb (zBP zCh (pv 3) zm) (zIe (pv 0) zm zEx))
    (zZ (zAR (i:=4) zFd.nd rfl (Or.inl rfl) (zFA (zAS zJ7 (zAD zAe (by rfl) mLen PySem.boot_len (zF (zAj zBE (pv 0) zm (fun _ _=>rfl)) zR)) zm (zAv _))
     (zAj zBE (zAj zBE (pv 0) zm (fun _ _=>rfl)) (zBP zD3 (pv 3) (zAD zAe (by rfl) mLen PySem.boot_len (zF (zAj zBE (pv 0) zm (fun _ _=>rfl)) zR))) (fun _ _=>rfl)) zm))
    (zZ (zCF (zDx (zAS op_ge (pv 4) (zBP op_pow zm zm) (zAv _)) (zDS (zAS zGX (pv 3) (zAD zAe (by rfl) mLen PySem.boot_len (zF (zAj zBE (pv 0) zm (fun _ _=>rfl)) zR)) (zAv _)))).pt
     (zZ (zIb (zBP zD5 (pv 4) (pv 1)) (zIe (pv 0) zm zEx)) (zn (zAd (zBP zD3 (pv 4) (pv 1))))) zBD)
    (zZ (zAR (i:=5) zFd.nd rfl (Or.inl rfl) (zBP zD3 (zBP zFo (zBP zCh (zBP zD3 (pv 4) zm) zm) (zBP zCh zm (zBP zFo zm (pv 3)))) zm))
    (zn (zAd (zBP zD3 (zBP zD5 (zBP zD3 (zBP zFo (zBP zCh (pv 5) (zBP zFo (zBP zFo zm (pv 3)) (pv 3))) zm) zm) zm) (pv 1))))))))),?_⟩
   have cd:CDiv 0 many:=⟨hm0,by omega⟩
   refine⟨_,rfl,t,_,_,_,rfl,rfl,SqL.of ht,rfl,_,_,rfl,rfl,_,rfl,?_⟩
   refine zGK (fun hc=>?_) (fun hc=>?_)
   . have hpos:0<rest:=of_decide_eq_true hc
     refine⟨_,rfl,t,_,_,_,rfl,rfl,SqL.of ht,rfl,_,rfl,_,_,rfl,rfl,hm0,?_⟩
     refine⟨_,rfl,t,_,_,_,rfl,rfl,SqL.of ht,rfl,_,rfl,_,_,rfl,rfl,cd,?_⟩
     refine⟨_,rfl,t,_,_,2,rfl,rfl,ht,rfl,?_⟩
     refine⟨_,rfl,?_⟩
     refine k _ _ (zD7 hm0).1 (zD7 hm0).2 ⟨ns,spot,rest/many,zI,by rw[zY hne];exact hp,hne,hs0,by omega,Int.ediv_nonneg hr0 (by omega),hl⟩ fun b hb=>zY hb
   . -- spot=tape[1];tape[1]=spot+1
     refine⟨_,rfl,t,_,_,_,rfl,rfl,SqL.of ht,rfl,?_⟩
     refine⟨_,rfl,_,_,rfl,rfl,_,rfl,t,_,_,1,rfl,rfl,ht,rfl,?_⟩
     have ht1:(upd H t (.lst [.ref p,.int (spot+1),.int rest])) t=some (.lst [.ref p,.int (spot+1),.int rest]):=zI
     have hp1:(upd H t (.lst [.ref p,.int (spot+1),.int rest])) p=some (.lst (ns.map V.int)):=by rw[zY hne];exact hp
     have ex:0<((ns.map V.int).length:Int)->∃c,atI (ns.map V.int) (spot%((ns.map V.int).length:Int))=some (.int c):=fun h=>by
      have hb:=zD7 (a:=spot) h
      obtain⟨j,hj⟩:=zBO hb.1
      have hlt:j<ns.length:=by
       have h2:=hb.2
       rw[hj,zC] at h2
       omega
      refine⟨ns[j],?_⟩
      rw[hj]
      exact zB8 (by simp[hlt])
     refine⟨_,rfl,t,_,_,_,rfl,rfl,SqL.of ht1,rfl,p,_,rfl,.inl (SqL.of hp1),_,_,rfl,rfl,_,rfl,?_⟩
     refine zGK (fun h2=>?a) (fun h2=>?b)
     case' a=>
      obtain⟨c,hc⟩:=ex (of_decide_eq_true h2)
      refine⟨_,rfl,t,_,_,_,rfl,rfl,SqL.of ht1,rfl,_,rfl,_,rfl,t,_,_,_,rfl,rfl,SqL.of ht1,rfl,p,_,rfl,.inl (SqL.of hp1),_,_,rfl,rfl,of_decide_eq_true h2,p,_,_,_,rfl,rfl,SqL.of hp1,hc,?_⟩
     all_goals
      refine⟨_,rfl,_,_,rfl,rfl,⟨by decide,by decide,by decide⟩,_,_,rfl,rfl,_,rfl,?_⟩
      refine zGK (fun h3=>?_) (fun h3=>?_)
     all_goals first
      | (refine⟨_,rfl,_,rfl,t,_,_,_,rfl,rfl,SqL.of ht1,rfl,p,_,rfl,.inl (SqL.of hp1),_,_,rfl,rfl,_,rfl,?_⟩;refine zGK (fun h4=>?_) (fun h4=>?_))
      | refine zDY ?_
     all_goals first
      | (refine⟨_,rfl,_,rfl,_,_,rfl,rfl,⟨hm0,by omega⟩,_,rfl,t,_,_,2,rfl,rfl,ht1,rfl,?_⟩
         refine⟨_,rfl,_,rfl,_,_,rfl,rfl,hm0,?_⟩
         refine k _ _ (zD7 hm0).1 (zD7 hm0).2 ⟨ns,spot+1,_,zI,by rw[zY hne];exact hp1,hne,by omega,by omega,Int.ediv_nonneg (Int.le_trans (show (0:Int)<=10 ^ (18:Int).toNat by decide) (of_decide_eq_true h3)) (by omega),hl⟩ fun b hb=>by rw[zY hb,zY hb])
      | (refine⟨_,rfl,_,_,rfl,rfl,(by dsimp only;decide),_,_,rfl,rfl,_,rfl,_,_,rfl,rfl,.inl ⟨by decide,by decide⟩,_,_,rfl,rfl,_,_,rfl,rfl,.inl ⟨by omega,by omega⟩,_,_,rfl,rfl,(by dsimp only;decide),?_⟩
         refine⟨_,rfl,_,rfl,_,_,rfl,rfl,.inl ⟨by decide,by decide⟩,_,rfl,_,_,rfl,rfl,.inr ⟨by omega,by omega⟩,_,_,rfl,rfl,_,_,rfl,rfl,.inr ⟨by decide,by decide⟩,_,_,rfl,rfl,(by dsimp only;decide),_,_,rfl,rfl,⟨by decide,by decide⟩,_,rfl,_,_,rfl,rfl,hm0,?_⟩
         refine k _ _ (zD7 hm0).1 (zD7 hm0).2 ⟨ns,spot+1,rest,ht1,hp1,hne,by omega,by omega,hr0,hl⟩ fun b hb=>zY hb)
theorem zIm {f:Addr}{fd:FuncData}(F:Fun K "_law_draw" "_law_draw" zE0 f fd) (mLen:mg "len" = none):zAa P w K mg base CX0 1 f fd ["_law_tape_here", "_law_many"] zII:=
 (zDl F mLen).imp fun vs H Q E ⟨t,N,many,e,⟨p,T⟩,a,b,c,k⟩=>⟨t,p,N,many,e,T,a,b,c,fun r H' h0 h1 T' he=>k r H' h0 h1 ⟨p,T'⟩ he⟩
end
end K41
namespace K41
open PySem L2 WM
theorem zGb {L:List Int}{r:Int}(h0:0<=r)(h1:r<L.length):∃n,n∈L/\atI (L.map V.int) r=some (.int n):=by
 obtain⟨j,rfl⟩:=zBO h0
 have hj:j<L.length:=by omega
 exact⟨L[j],zAy hj,zB8 (by simp[hj])⟩
noncomputable def spN:Sp:=fun vs H Q _=>∃(t:Addr)(N:Nat),vs=[.ref t]/\zAh H t N/\N<900000/\∀(n:Int)(H':Hp),1<=n->n<=12->zAh H' t (N+1)->Sm t H H'->Q (.int n) H'
noncomputable def zBU (H:Hp)(wa:Addr)(n:Int)(ts:List T3):Prop:=∃(ta:Addr)(tys:List V),H wa=some (.tup [.int n,.ref ta])/\H ta=some (.tup tys)/\zAG H tys (ts.map tl)/\GW n ts
theorem zBU.keepT {H H':Hp}{wa:Addr}{n:Int}{ts:List T3}(h:zBU H wa n ts)(k:∀b ys,H b=some (.tup ys)->H' b=some (.tup ys)):zBU H' wa n ts:=by
 obtain⟨ta,tys,a,b,c,d⟩:=h
 exact⟨ta,tys,k _ _ a,k _ _ b,c.keep k,d⟩
theorem zBU.keep {H H':Hp}{wa:Addr}{n:Int}{ts:List T3}(h:zBU H wa n ts)(k:zA3 H H'):zBU H' wa n ts:=h.keepT fun b _ e=>k b _ e
theorem zBU.sm {H H':Hp}{wa t:Addr}{N:Nat}{n:Int}{ts:List T3}(h:zBU H wa n ts)(T:zAh H t N)(k:Sm t H H'):zBU H' wa n ts:=h.keepT fun b _ e=>by
 obtain⟨p,ns,spot,rest,a,_⟩:=T
 exact k b _ (zB5 e a (by intro z;cases z)) e
noncomputable def spWeb:Sp:=fun vs H Q _=>∃(t:Addr)(N:Nat)(n:Int),vs=[.ref t,.int n]/\zAh H t N/\N<900000/\1<=n/\n<=24 /\
 ∀(wa:Addr)(ts:List T3)(H':Hp),H wa=none->zBU H' wa n ts->zAh H' t (N+200)->Sm t H H'->Q (.ref wa) H'
noncomputable def JD (n:Int)(kvs:List (List Key×V)):Prop:=(∀kv∈kvs,∃a b l:Int,kv=([Sum.inl a,Sum.inl b],V.int l)/\0<=a/\a<b/\b<n/\1<=l/\l<=99)/\(kvs.map (·.1)).Nodup
theorem JD.nil (n:Int):JD n []:=⟨fun _ h=>by simp at h,List.nodup_nil⟩
theorem JD.put {n:Int}{kvs:List (List Key×V)}(h:JD n kvs){a b l:Int}(h0:0<=a)(h1:a<b)(h2:b<n)(h3:1<=l)(h4:l<=99):JD n (zE5 kvs [Sum.inl a,Sum.inl b] (.int l)):=by
 cases e:zCs kvs [Sum.inl a,Sum.inl b] with
 | none=>
  refine⟨fun kv hkv=>?_,zLe _ h.2 e⟩
  rw[zE4 _ e] at hkv
  rcases zQ.mp hkv with q | q
  . exact h.1 kv q
  . rw[zX.mp q];exact⟨a,b,l,rfl,h0,h1,h2,h3,h4⟩
 | some v=>
  have ha:(kvs.any fun kv=>decide (kv.1=[Sum.inl a,Sum.inl b]))=true:=by rw[zCH,e];rfl
  unfold zE5
  rw[if_pos ha]
  refine⟨fun kv hkv=>?_,?_⟩
  . obtain⟨q,hq,e2⟩:=zAT.mp hkv
    by_cases hk:q.1=[Sum.inl a,Sum.inl b]
    . rw[if_pos hk,hk] at e2;rw[<-e2];exact⟨a,b,l,rfl,h0,h1,h2,h3,h4⟩
    . rw[if_neg hk] at e2;rw[<-e2];exact h.1 q hq
  . have e3:(kvs.map fun kv=>if kv.1=[Sum.inl a,Sum.inl b] then (kv.1,V.int l) else kv).map (·.1)=kvs.map (·.1):=by
     rw[List.map_map]
     refine List.map_congr_left fun kv _=>?_
     show (if kv.1=[Sum.inl a,Sum.inl b] then (kv.1,V.int l) else kv).1=kv.1
     split <;> rfl
    rw[e3];exact h.2
noncomputable def unk:Key->Int
 | .inl i=>i
 | .inr _=>0
noncomputable def zEU (kvs:List (List Key×V)):List (List Int):=kvs.map fun kv=>kv.1.map unk
theorem JD.keys {n:Int}{kvs:List (List Key×V)}(h:JD n kvs):kvs.map (·.1)=(zEU kvs).map (List.map Sum.inl):=by
 unfold zEU
 rw[List.map_map]
 refine List.map_congr_left fun kv hkv=>?_
 obtain⟨a,b,l,e,_⟩:=h.1 kv hkv
 rw[e];rfl
theorem JD.ne {n:Int}{kvs:List (List Key×V)}(h:JD n kvs):∀k∈zEU kvs,k≠[]:=fun k hk=>by
 obtain⟨kv,hkv,e⟩:=zAT.mp hk
 obtain⟨a,b,l,e2,_⟩:=h.1 kv hkv
 rw[<-e,e2];simp[List.map]
theorem JD.nd {n:Int}{kvs:List (List Key×V)}(h:JD n kvs):(zEU kvs).Nodup:=by
 have e:=h.2
 rw[h.keys] at e
 rw[List.Nodup,List.pairwise_map] at e
 exact e.imp fun h e'=>h (by rw[e'])
theorem JD.val {n:Int}{kvs:List (List Key×V)}(h:JD n kvs){k:List Int}(hk:k∈zEU kvs):∃a b l,k=[a,b]/\zCs kvs [Sum.inl a,Sum.inl b]=some (.int l)/\0<=a/\a<b/\b<n/\1<=l/\l<=99:=by
 obtain⟨kv,hkv,e⟩:=zAT.mp hk
 obtain⟨a,b,l,e2,h0,h1,h2,h3,h4⟩:=h.1 kv hkv
 have ek:k=[a,b]:=by rw[<-e,e2];rfl
 have hm:(kvs.any fun kv=>decide (kv.1=[Sum.inl a,Sum.inl b]))=true:=List.any_eq_true.mpr ⟨kv,hkv,zM (by rw[e2])⟩
 rw[zCH] at hm
 cases hv:zCs kvs [Sum.inl a,Sum.inl b] with
 | none=>rw[hv] at hm;cases hm
 | some v=>
  have hv0:=hv
  unfold zCs at hv
  cases hf:kvs.find? fun kv=>decide (kv.1=[Sum.inl a,Sum.inl b]) with
  | none=>rw[hf] at hv;cases hv
  | some q=>
   rw[hf] at hv
   obtain⟨a',b',l',e3,_,_,_,g3,g4⟩:=h.1 q (List.mem_of_find?_eq_some hf)
   have ev:v = .int l':=by rw[e3] at hv;exact (za hv).symm
   exact⟨a,b,l',ek,by rw[hv0,ev],h0,h1,h2,g3,g4⟩
section
variable {P:Program}{w:World}{K:PySem.W.Frag}{mg:Str->Option Value}{base:Heap}
theorem scN:zAI ["_law_tape_here"] ["_law_tape_here"] (defScope sN):=⟨rfl,rfl,rfl,by decide +kernel,rfl,by decide +kernel,by decide +kernel⟩
theorem ok_n {f fD:Addr}{fd fdD:FuncData}(F:Fun K "_law_n" "_law_n" sN f fd) (FD:Fun K "_law_draw" "_law_draw" zE0 fD fdD) (bD:zAH K fdD ["_law_tape_here", "_law_many"] []) (mD:mg "_law_draw" = some (.ref fD)) (mLen:mg "len" = none) :
 zAa P w K mg base CX0 2 f fd ["_law_tape_here"] spN:=by
 have GD:zAa P w K mg base CX0 1 fD fdD ["_law_tape_here", "_law_many"] zII:=zIm FD mLen
 refine F.ok scN (fun vs H Q E h=>?_) (fun cdv A outer s H vs Q E hr h=>?_)
 . obtain⟨t,N,rfl,_⟩:=h
   rfl
 . obtain⟨t,N,rfl,T,hN,k⟩:=h
   obtain⟨es,q1,q2,j3,q3,q4,p1,p2,p3,hb,hes⟩:∃es q1 q2 j3 q3 q4 p1 p2 p3,defBody sN=[.Return (some (.Subscript (.List es p1) (.Call (.Name "_law_draw" q1) [.Name "_law_tape_here" q2,.Constant (.int 12) j3 q3] [] q4) p2)) p3] /\
    zDc es [1,2,3,4,5,6,7,8,6,5,4,12]:=⟨_,_,_,_,_,_,_,_,_,rfl,by repeat constructor⟩
   rw[hb]
   refine⟨_,zn (zAd (zAj zBE (zCL (zIh hes))
    (zx GD hr rfl mD FD.kp bD .nil zAk (zF (pv 0) (zF zm zR))) (fun _ _=>rfl))),?_⟩
   refine⟨by show 12<=sizeLine;decide,fun l hl=>?_⟩
   refine⟨_,rfl,t,N,12,rfl,T.laid hl,by omega,by decide,by decide,fun r H' h0 h1 T' he=>?_⟩
   have nlt:l≠t:=T.ne hl
   obtain⟨n,hn,ha⟩:=zGb (L:=[1,2,3,4,5,6,7,8,6,5,4,12]) h0 h1
   have hb:1<=n/\n<=12:=by
    have:∀m∈([1,2,3,4,5,6,7,8,6,5,4,12]:List Int),1<=m/\m<=12:=by decide
    exact this n hn
   refine⟨l,_,_,_,rfl,rfl,SqL.of (by rw[he l nlt];exact zI),ha,?_⟩
   refine k n H' hb.1 hb.2 T' fun b o hb e=>?_
   rw[he b hb,zY (zg e hl)]
   exact e
end
section
variable {P:Program}{w:World}{K:PySem.W.Frag}{mg:Str->Option Value}{base:Heap}
structure WI (H:Hp)(t d la:Addr)(n:Int)(N m:Nat)(H2:Hp):Prop where
 sm:Sm t H H2
 tp:zAh H2 t N
 dc:∃kvs,H2 d=some (.dT kvs)/\JD n kvs/\kvs.length<=m
 lg:∃l0 l1 l2:Int,H2 la=some (.lst [.int l0,.int l1,.int l2])/\(∀l∈[l0,l1,l2],1<=l/\l<=99)
theorem WI.draw {H H2 H3:Hp}{t d la:Addr}{n:Int}{N m:Nat}(h:WI H t d la n N m H2)(hd:d≠t)(hl:la≠t)(T:zAh H3 t (N+1))(he:∀b,b≠t->H3 b=H2 b):WI H t d la n (N+1) m H3:=by
 refine⟨fun b o nb e=>by rw[he b nb];exact h.sm b o nb e,T,?_,?_⟩
 . rw[he d hd];exact h.dc
 . rw[he la hl];exact h.lg
theorem WI.laid {H H2:Hp}{t d la l:Addr}{n:Int}{N m:Nat}{o:HO}(h:WI H t d la n N m H2)(hl:H2 l=none):WI H t d la n N m (upd H2 l o):=by
 obtain⟨kvs,a,b⟩:=h.dc
 obtain⟨l0,l1,l2,c,e⟩:=h.lg
 exact⟨h.sm.trans (Sm.laid hl),h.tp.laid hl,⟨kvs,by rw[zY (zg a hl)];exact a,b⟩,⟨l0,l1,l2,by rw[zY (zg c hl)];exact c,e⟩⟩
theorem WI.put {H H2:Hp}{t d la:Addr}{n:Int}{N m:Nat}{kvs:List (List Key×V)}(h:WI H t d la n N m H2)(hd0:H d=none)(hd:H2 d=some (.dT kvs)){a b l:Int}(h0:0<=a)(h1:a<b)(h2:b<n)(h3:1<=l)(h4:l<=99) :
 WI H t d la n N (m+1) (upd H2 d (.dT (zE5 kvs [Sum.inl a,Sum.inl b] (.int l)))):=by
 obtain⟨kvs',e,j,hm⟩:=h.dc
 rw[hd] at e
 cases e
 obtain⟨l0,l1,l2,c,e⟩:=h.lg
 refine⟨h.sm.chg hd0,h.tp.chg hd (by intro xs z;cases z),⟨_,zI,j.put h0 h1 h2 h3 h4,?_⟩,⟨l0,l1,l2,by rw[zY (zB5 c hd (by intro z;cases z))];exact c,e⟩⟩
 have:=zC1 kvs [Sum.inl a,Sum.inl b] (V.int l)
 omega
theorem WI.up {H H2:Hp}{t d la:Addr}{n:Int}{N m N' m':Nat}(h:WI H t d la n N m H2)(hN:N<=N')(hm:m<=m'):WI H t d la n N' m' H2:=by
 obtain⟨kvs,a,b,c⟩:=h.dc
 exact⟨h.sm,h.tp.mono hN,⟨kvs,a,b,by omega⟩,h.lg⟩
theorem at3 {l0 l1 l2 r:Int}(h:∀l∈[l0,l1,l2],1<=l/\l<=99)(h0:0<=r)(h1:r<3):∃l,atI [V.int l0,V.int l1,V.int l2] r=some (.int l)/\1<=l/\l<=99:=by
 obtain⟨l,hl,ha⟩:=zGb (L:=[l0,l1,l2]) h0 h1
 exact⟨l,ha,h l hl⟩
theorem zz {n:Nat}(h:n<=100000):n<sizeLine:=zAQ h (by decide)
theorem zK0 {n:Int}{kvs:List (List Key×V)}{ms:List (List Int)}(h:JD n kvs)(hp:ms.Perm (zEU kvs))(hl:kvs.length<64)(hn:1<=n)(hn2:n<=24){ts:List T3}(e:ts.map (fun t=>[t.1,t.2.1])=ms)(hr:∀t∈ts,0<=t.1/\t.1<t.2.1/\t.2.1<n/\1<=t.2.2/\t.2.2<=99):GW n ts:=by
 have hlen:ts.length=kvs.length:=by
  have:=hp.length_eq
  rw[<-e] at this
  simpa [zEU] using this
 refine⟨hn,hn2,by omega,hr,?_⟩
 have nd:(ts.map fun t:T3=>[t.1,t.2.1]).Nodup:=by rw[e];exact hp.nodup_iff.mpr h.nd
 rw[List.Nodup,List.pairwise_map] at nd
 exact nd.imp fun hne hc=>hne (by rw[hc.1,hc.2])
theorem zGP:zAI ["_law_tape_here", "_law_n_here", "_law_longs", "_law_joined", "_law_b", "_law_k", "_law_a"] ["_law_tape_here", "_law_n_here"] (defScope sWeb):=⟨rfl,rfl,rfl,by decide +kernel,rfl,by decide +kernel,by decide +kernel⟩
theorem ok_web {f fD:Addr}{fd fdD:FuncData}(F:Fun K "_law_web" "_law_web" sWeb f fd) (FD:Fun K "_law_draw" "_law_draw" zE0 fD fdD) (bD:zAH K fdD ["_law_tape_here", "_law_many"] []) (mD:mg "_law_draw" = some (.ref fD)) (mLen:mg "len" = none)
 (mRange:mg "range" = none) (mTuple:mg "tuple" = none) (mSorted:mg "sorted" = none):zAa P w K mg base CX0 2 f fd ["_law_tape_here", "_law_n_here"] spWeb:=by
 have GD:zAa P w K mg base CX0 1 fD fdD ["_law_tape_here", "_law_many"] zII:=zIm FD mLen
 refine F.ok zGP (fun vs H Q E h=>?_) (fun cdv A outer s H vs Q E hr h=>?_)
 . obtain⟨t,N,n,rfl,_⟩:=h
   rfl
 . obtain⟨t,N,n,rfl,T,hN,hn1,hn2,k⟩:=h
   have hu:=zGe hr
   obtain⟨es,q0,q1,q2,j3,q3,q4,p1,p2,p3,hbd,hes⟩:∃es q0 q1 q2 j3 q3 q4 p1 p2 p3,defBody sWeb = .Assign [.Name "_law_longs" q0] (.Subscript (.List es p1) (.Call (.Name "_law_draw" q1) [.Name "_law_tape_here" q2,.Constant (.int 4) j3 q3] [] q4) p2) p3::(defBody sWeb).drop 1 /\
    zDP es [[1,1,1],[1,2,1],[1,2,3],[5,99,7]]:=⟨_,_,_,_,_,_,_,_,_,_,rfl,.cons (.cons (.cons (.cons .nil))) (by show 3<=sizeLine;decide) (.cons (.cons (.cons (.cons .nil))) (by show 3<=sizeLine;decide) (.cons (.cons (.cons (.cons .nil))) (by show 3<=sizeLine;decide) (.cons (.cons (.cons (.cons .nil))) (by show 3<=sizeLine;decide) (.nil))))⟩
   rw[hbd]
   refine⟨_,zZ (zAR (i:=2) zGP.nd rfl (Or.inl rfl) (zAj zBE (zCL (zJ6 hes))
    (zx GD hr rfl mD FD.kp bD .nil zAk (zF (pv 0) (zBy zR))) (fun _ _=>rfl)))
    (zZ (zAR (i:=3) zGP.nd rfl (Or.inr rfl) zJ4)
    (zZ (zCF (zAS zJ7 (zx GD hr rfl mD FD.kp bD .nil zAk (zF (pv 0) (zBy zR))) zm (zAv _))
     (zn (zCJ PassesOwn.never rfl (zDz rfl mRange (zBy (zF (pv 1) zR))) (zAP (i:=4) zGP.nd rfl (Or.inl rfl))
      (zn (zGT hu (pv 3) (zBY (zF (zx GD hr rfl mD FD.kp bD .nil zAk (zF (pv 0) (zF (pv 4) zR))) (zF (pv 4) zR)))
       (zAj zBE (pv 2) (zx GD hr rfl mD FD.kp bD .nil zAk (zF (pv 0) (zBy zR))) (fun _ _=>rfl)) rfl)))) zBD)
    (zZ (zCJ PassesOwn.never rfl (zCU rfl mRange (zF (zx GD hr rfl mD FD.kp bD .nil zAk (zF (pv 0) (zF (zBP zCh (zBP zCh zm (pv 1)) (zBP zD5 (pv 1) zm)) zR))) zR)) (zAP (i:=5) zGP.nd rfl (Or.inl rfl))
     (zZ (zAR (i:=6) zGP.nd rfl (Or.inl rfl) (zx GD hr rfl mD FD.kp bD .nil zAk (zF (pv 0) (zF (pv 1) zR))))
     (zZ (zAR (i:=4) zGP.nd rfl (Or.inl rfl) (zx GD hr rfl mD FD.kp bD .nil zAk (zF (pv 0) (zF (pv 1) zR))))
     (zn (zCF (zAS zGX (pv 6) (pv 4) (zAv _)) (zn (zGT hu (pv 3) (zBY (zF (pv 6) (zF (pv 4) zR)))
      (zAj zBE (pv 2) (zx GD hr rfl mD FD.kp bD .nil zAk (zF (pv 0) (zBy zR))) (fun _ _=>rfl)) rfl)) zBD)))))
    (zn (zAd (zBY (zF (pv 1) (zF (zBi zA0 (by rfl) mTuple (by decide +kernel) (zF
     (zBq (own:=["_law_pair"]) (cn:=["_law_joined"]) (ci:=[3]) rfl (csc rfl rfl) ⟨rfl,rfl,rfl,trivial⟩ rfl
      (zB3 (zAD (zF7 rfl) (by rfl) mSorted (by decide +kernel) (zF (pv 3) zR))) (fun _ _ _ _=>zAP (i:=0) (zCW rfl) rfl (Or.inl rfl)) (fun _ _ _ _=>zB2)
      (fun _ _ _ _=>zBY (zF (zAj zFF (pv 0) zm (fun _ _=>rfl)) (zF (zAj zFF (pv 0) zm (fun _ _=>rfl)) (zF (zLQ hu (pv 1) (pv 0) (fun _ _=>rfl)) zR))))) zR)) zR)))))))),?_⟩
   intro a1 e1 a2 e2 a3 e3 a4 e4
   refine⟨by show 4<=sizeLine;decide,fun al el=>?_⟩
   have T5:=((((T.laid (o:=.lst [.int 1,.int 1,.int 1]) e1).laid (o:=.lst [.int 1,.int 2,.int 1]) e2).laid (o:=.lst [.int 1,.int 2,.int 3]) e3).laid (o:=.lst [.int 5,.int 99,.int 7]) e4).laid (o:=.lst [.ref a1,.ref a2,.ref a3,.ref a4]) el
   refine⟨_,rfl,t,N,4,rfl,T5,by omega,by decide,by decide,fun r H1 h0 h1 T1 he1=>?_⟩
   have nel:al≠t:=((((T.laid (o:=.lst [.int 1,.int 1,.int 1]) e1).laid (o:=.lst [.int 1,.int 2,.int 1]) e2).laid (o:=.lst [.int 1,.int 2,.int 3]) e3).laid (o:=.lst [.int 5,.int 99,.int 7]) e4).ne el
   obtain⟨la,l0,l1,l2,hat,hla,hb,nla⟩:∃(la:Addr)(l0 l1 l2:Int),atI [V.ref a1,V.ref a2,V.ref a3,V.ref a4] r=some (.ref la)/\H1 la=some (.lst [.int l0,.int l1,.int l2])/\(∀l∈[l0,l1,l2],1<=l/\l<=99)/\la≠t:=by
    have n1:a1≠t:=T.ne e1
    have n2:a2≠t:=(T.laid (o:=.lst [.int 1,.int 1,.int 1]) e1).ne e2
    have n3:a3≠t:=((T.laid (o:=.lst [.int 1,.int 1,.int 1]) e1).laid (o:=.lst [.int 1,.int 2,.int 1]) e2).ne e3
    have n4:a4≠t:=(((T.laid (o:=.lst [.int 1,.int 1,.int 1]) e1).laid (o:=.lst [.int 1,.int 2,.int 1]) e2).laid (o:=.lst [.int 1,.int 2,.int 3]) e3).ne e4
    have g1:H1 a1=some (.lst [.int 1,.int 1,.int 1]):=by rw[he1 a1 n1];exact zL el _ _ (zL e4 _ _ (zL e3 _ _ (zL e2 _ _ zI)))
    have g2:H1 a2=some (.lst [.int 1,.int 2,.int 1]):=by rw[he1 a2 n2];exact zL el _ _ (zL e4 _ _ (zL e3 _ _ zI))
    have g3:H1 a3=some (.lst [.int 1,.int 2,.int 3]):=by rw[he1 a3 n3];exact zL el _ _ (zL e4 _ _ zI)
    have g4:H1 a4=some (.lst [.int 5,.int 99,.int 7]):=by rw[he1 a4 n4];exact zL el _ _ zI
    have hr4:r=0\/r=1\/r=2\/r=3:=by omega
    rcases hr4 with rfl | rfl | rfl | rfl
    . exact⟨a1,1,1,1,rfl,g1,by decide,n1⟩
    . exact⟨a2,1,2,1,rfl,g2,by decide,n2⟩
    . exact⟨a3,1,2,3,rfl,g3,by decide,n3⟩
    . exact⟨a4,5,99,7,rfl,g4,by decide,n4⟩
   refine⟨al,_,_,_,rfl,rfl,SqL.of (by rw[he1 al nel];exact zI),hat,?_⟩
   have sm1:Sm t H H1:=fun b o nb e=>by
    rw[he1 b nb]
    exact zL el _ _ (zL e4 _ _ (zL e3 _ _ (zL e2 _ _ (zL e1 _ _ e))))
   intro d hd
   have nd:d≠t:=T1.ne hd
   have hd0:H d=none:=by
    cases q:H d with
    | none=>rfl
    | some o=>have:=sm1 d o nd q;rw[hd] at this;cases this
   have W0:WI H t d la n (N+1) 0 (upd H1 d (.dT [])):=⟨sm1.chg hd0,T1.laid hd,⟨[],zI,JD.nil n,zG _⟩,⟨l0,l1,l2,by rw[zY (zg hla hd)];exact hla,hb⟩⟩
   refine⟨_,rfl,t,N+1,3,rfl,W0.tp,by omega,by decide,by decide,fun r1 H2 _ _ T2 he2=>?_⟩
   have W2:=W0.draw nd nla T2 he2
   refine⟨_,_,rfl,rfl,_,rfl,?_⟩
   refine zGK (fun _=>?a) (fun _=>?b)
   case' a=>
    refine⟨_,rfl,1,n,rfl,⟨by decide,by decide,by omega,by omega⟩,zCi (lo:=1) (n:=(n-1).toNat) (fun i σ H3=>∃vb:Option V,σ=[some (.ref t),some (.int n),some (.ref la),some (.ref d),vb,none,none]/\WI H t d la n (N+2+2*i) i H3) ⟨none,rfl,W2⟩ ?turn ?after⟩
    case turn=>
     rintro i σ H3 hi ⟨vb,rfl,W⟩
     obtain⟨m0,m1,m2,hm,hmb⟩:=W.lg
     refine⟨_,rfl,_,rfl,t,N+2+2*i,3,rfl,W.tp,by omega,by decide,by decide,fun r3 H4 g0 g1 T4 he4=>?_⟩
     have W4:=W.draw nd nla T4 he4
     obtain⟨lg,hlg,hg1,hg2⟩:=at3 hmb g0 g1
     refine⟨la,_,_,_,rfl,rfl,SqL.of (by rw[he4 la nla];exact hm),hlg,?_⟩
     refine⟨_,rfl,_,rfl,_,rfl,t,N+2+2*i+1,1+i,rfl,W4.tp,by omega,by omega,by omega,fun r5 H5 q0 q1 T5 he5=>?_⟩
     have W5:=W4.draw nd nla T5 he5
     refine⟨_,rfl,by show 2<=sizeLine;decide,fun p hp=>?_⟩
     have W6:=W5.laid (o:=.tup [.int r5,.int (1+i)]) hp
     obtain⟨kvs,hk,J,hkl⟩:=W6.dc
     refine⟨d,_,rfl,DPut.t (k:=[Sum.inl r5,Sum.inl (1+(i:Int))]) hk zI (zz (by omega)),?_⟩
     exact⟨_,rfl,(W6.put hd0 hk q0 q1 (by omega) hg1 hg2).up (by omega) (by omega)⟩
    case' after=>
     rintro σ H3 ⟨vb,rfl,W⟩
     have W3:WI H t d la n (N+50) 23 H3:=W.up (by omega) (by omega)
   case' b=>
    have W3:WI H t d la n (N+50) 23 H2:=W2.up (by omega) (by omega)
   all_goals
    refine⟨_,rfl,_,rfl,_,_,rfl,rfl,_,rfl,_,_,rfl,rfl,⟨by decide,by decide⟩,_,_,rfl,rfl,t,N+50,_,rfl,W3.tp,by omega,by omega,by omega,fun r4 H4 p0 p1 T4 he4=>?_⟩
    have W4:=W3.draw nd nla T4 he4
    refine⟨r4,rfl,by omega,by omega,zCi (lo:=0) (n:=r4.toNat) (fun i σ H5=>∃vb vk va:Option V,σ=[some (.ref t),some (.int n),some (.ref la),some (.ref d),vb,vk,va]/\WI H t d la n (N+51+3*i) (23+i) H5) ⟨_,_,_,rfl,W4⟩ ?turn2 ?after2⟩
    case turn2=>
     rintro i σ H5 hi ⟨vb,vk,va,rfl,W⟩
     refine⟨_,rfl,_,rfl,t,N+51+3*i,n,rfl,W.tp,by omega,by omega,by omega,fun a H6 a0 a1 T6 he6=>?_⟩
     have W6:=W.draw nd nla T6 he6
     refine⟨_,rfl,_,rfl,t,N+51+3*i+1,n,rfl,W6.tp,by omega,by omega,by omega,fun b H7 b0 b1 T7 he7=>?_⟩
     have W7:=W6.draw nd nla T7 he7
     refine⟨_,rfl,_,rfl,_,_,rfl,rfl,_,rfl,?_⟩
     refine zGK (fun hc=>?_) (fun hc=>?_)
     . have hab:a<b:=of_decide_eq_true hc
       obtain⟨m0,m1,m2,hm,hmb⟩:=W7.lg
       refine⟨_,rfl,_,rfl,t,N+51+3*i+1+1,3,rfl,W7.tp,by omega,by decide,by decide,fun r3 H8 g0 g1 T8 he8=>?_⟩
       have W8:=W7.draw nd nla T8 he8
       obtain⟨lg,hlg,hg1,hg2⟩:=at3 hmb g0 g1
       refine⟨la,_,_,_,rfl,rfl,SqL.of (by rw[he8 la nla];exact hm),hlg,?_⟩
       refine⟨_,rfl,_,rfl,_,rfl,by show 2<=sizeLine;decide,fun p hp=>?_⟩
       have W9:=W8.laid (o:=.tup [.int a,.int b]) hp
       obtain⟨kvs,hk,J,hkl⟩:=W9.dc
       refine⟨d,_,rfl,DPut.t (k:=[Sum.inl a,Sum.inl b]) hk zI (zz (by omega)),?_⟩
       exact⟨_,_,_,rfl,(W9.put hd0 hk a0 hab b1 hg1 hg2).up (by omega) (by omega)⟩
     . exact⟨_,_,_,rfl,W7.up (by omega) (by omega)⟩
    case after2=>
     rintro σ H5 ⟨vb,vk,va,rfl,W⟩
     obtain⟨kvs,hk,J,hkl⟩:=W.dc
     have hk64:kvs.length<64:=by omega
     refine⟨_,rfl,_,rfl,d,kvs,zEU kvs,rfl,hk,J.keys,J.ne,by rw[zEU,zC];exact hk64,fun l zs ms hl TA hp _=>?_⟩
     refine⟨l,rfl,⟨_,SqL.of zI⟩,[.ref d],rfl,fun D hD=>?_⟩
     have hlz:=TA.length
     have hlm:ms.length=kvs.length:=by rw[hp.length_eq,zEU,zC]
     have nlD:l≠D:=fun e=>by rw[<-e,zI] at hD;cases hD
     have hk1:(upd H5 l (.lst zs)) d=some (.dT kvs):=zL hl _ _ hk
     have hD5:H5 D=none:=by rw[zY nlD.symm] at hD;exact hD
     refine zBl (a:=l) (xs:=zs) (fun i ys H6=>∃ts:List T3,ts.length=i/\ts.map (fun t:T3=>[t.1,t.2.1])=ms.take i/\(∀t∈ts,0<=t.1/\t.1<t.2.1/\t.2.1<n/\1<=t.2.2/\t.2.2<=99)/\H6 D=some (.lst ys)/\zAG H6 ys (ts.map tl)/\zA3 (upd H5 l (.lst zs)) H6)
      ⟨[],rfl,rfl,fun _ h=>by simp at h,zI,trivial,zL hD⟩ (fun i ys H6 h=>?_) (fun i ys H6 h=>?_) (fun i x ys H6 hx h=>?_) (fun ys H6 h=>?_)
     . obtain⟨_,_,_,_,_,_,s6⟩:=h
       exact SqL.of (s6 _ _ zI)
     . obtain⟨ts,e1,e2,_,_,T6,_⟩:=h
       have e3:=T6.length
       rw[zC] at e3
       have e4:=congrArg List.length e2
       rw[zC,zp] at e4
       exact zz (by omega)
     . obtain⟨ts,e1,e2,hts,hD6,T6,s6⟩:=h
       obtain⟨pa,kx,ex,hkx,hpa,_⟩:=TA.get hx
       subst ex
       have hpa6:H6 pa=some (.tup (kx.map V.int)):=s6 _ _ (zL hl _ _ hpa)
       obtain⟨a,b,lg,ek,hv,a0,ab,bn,lg1,lg2⟩:=J.val (hp.mem_iff.mp (zc hkx))
       subst ek
       refine⟨⟨rfl,rfl⟩,?_⟩
       refine zHX ?_
       refine⟨_,rfl,pa,_,_,_,rfl,rfl,SqT.of hpa6,rfl,_,rfl,pa,_,_,_,rfl,rfl,SqT.of hpa6,rfl,_,rfl,_,rfl,d,_,rfl,hv ▸ zJd.t (k:=[Sum.inl a,Sum.inl b]) (s6 _ _ hk1) hpa6,by show 3<=sizeLine;decide,fun p hp6=>?_⟩
       have nDp:D≠p:=zg hD6 hp6
       refine⟨by rw[zY nDp];exact hD6,ts++[(a,b,lg)],by rw[zH,e1];rfl,?_,?_,zI,?_,?_⟩
       . rw[ze,e2,zAA,hkx];rfl
       . intro t ht
         rcases zQ.mp ht with q | q
         . exact hts t q
         . rw[zX.mp q];exact⟨a0,ab,bn,lg1,lg2⟩
       . rw[ze]
         refine (T6.keep fun c xs e=>?_).snoc ⟨p,rfl,by rw[zY nDp.symm,zI];rfl,by simp[tl]⟩
         rw[zY (zB5 e hD6 (by intro z;cases z)),zY (zg e hp6)]
         exact e
       . exact zA9 (s6.trans (zL hp6)) hD
     . obtain⟨ts,e1,e2,hts,hD6,T6,s6⟩:=h
       refine⟨D,ys,rfl,.inl ⟨SqL.of hD6,fun ta hta=>?_⟩⟩
       refine⟨by show 2<=sizeLine;decide,fun wa hwa=>?_⟩
       rw[hlz,zd (zG _)] at e2
       have G:GW n ts:=zK0 J hp hk64 hn1 hn2 e2 hts
       have nwt:wa≠ta:=fun e=>by rw[e,zI] at hwa;cases hwa
       have h6wa:H6 wa=none:=by rw[zY nwt] at hwa;exact hwa
       have s7:zA3 H6 (upd (upd H6 ta (.tup ys)) wa (.tup [.int n,.ref ta])):=zA9 (zL hta) h6wa
       have T7:zAh (upd (upd H6 ta (.tup ys)) wa (.tup [.int n,.ref ta])) t (N+200):=((W.tp.mono (by omega)).keep ((zL hl).trans (s6.trans s7)))
       have nwa:wa≠t:=((W.tp.keep ((zL hl).trans s6)).ne h6wa)
       have sm7:Sm t H (upd (upd H6 ta (.tup ys)) wa (.tup [.int n,.ref ta])):=W.sm.trans (Sm.of ((zL hl).trans (s6.trans s7)))
       refine k wa ts _ ?_ ⟨ta,ys,zI,by rw[zY nwt.symm,zI],T6.keep fun c xs e=>s7 _ _ e,G⟩ T7 sm7
       cases q:H wa with
       | none=>rfl
       | some o=>
        have:=(W.sm.trans (Sm.of ((zL hl).trans s6))) wa o nwa q
        rw[h6wa] at this;cases this
end
end K41
namespace K41
open PySem L2 WM
theorem ifT {c:Bool}{p q:Prop}(h:c=true)(hp:p):(if c=true then p else q):=by rw[if_pos h];exact hp
theorem ifF {c:Bool}{p q:Prop}(h:c=false)(hq:q):(if c=true then p else q):=by rw[if_neg (by simp[h])];exact hq
noncomputable def zKb:Sp:=fun vs H Q _=>∃(wa:Addr)(n:Int)(ts:List T3)(p:Int),vs=[.ref wa,.int p]/\zBU H wa n ts /\
 ∀(l:Addr)(zs:List V)(ms:List (List Int))(H':Hp),zA3 H H'->H l=none->H' l=some (.lst zs)->zAG H' zs ms->ms.Perm (fd p ts)->zH3 ms->Q (.ref l) H'
section
variable {P:Program}{w:World}{K:PySem.W.Frag}{mg:Str->Option Value}{base:Heap}
theorem zFb:zAI ["web", "place", "found", "a", "b", "long"] ["web", "place"] (defScope zHd):=⟨rfl,rfl,rfl,by decide +kernel,rfl,by decide +kernel,by decide +kernel⟩
theorem zLY {f:Addr}{fd':FuncData}(F:Fun K "ties_at" "ties_at" zHd f fd') (mSorted:mg "sorted" = none):zAa P w K mg base CX0 1 f fd' ["web", "place"] zKb:=by
 refine F.ok zFb (fun vs H Q E h=>?_) (fun cdv A outer s H vs Q E hr h=>?_)
 . obtain⟨wa,n,ts,p,rfl,_⟩:=h
   rfl
 . obtain⟨wa,n,ts,p,rfl,⟨ta,tys,hwa,hta,TA,G⟩,k⟩:=h
   refine⟨_,zZ (zAR (i:=2) zFb.nd rfl (Or.inl rfl) (zCL zR))
    (zZ (zCJ PassesOwn.never rfl (zCf (zAj zAp (pv 0) zm (fun _ _=>rfl))) (zG6 rfl (zBx (zAP (i:=3) zFb.nd rfl (Or.inl rfl)) (zBx (zAP (i:=4) zFb.nd rfl (Or.inl rfl)) (zBx (zAP (i:=5) zFb.nd rfl (Or.inl rfl)) zE9))))
     (zZ (zCF (zAS zD6 (pv 3) (pv 1) (zAv _)) (zn (zBp (zDW PySem.F.plainAttrs_list PySem.F.slot_list_append PySem.F.type_list_append zBZ (pv 2) (zF (zBY (zF (pv 4) (zF (pv 5) zR))) zR)))) zBD)
     (zn (zCF (zAS zD6 (pv 4) (pv 1) (zAv _)) (zn (zBp (zDW PySem.F.plainAttrs_list PySem.F.slot_list_append PySem.F.type_list_append zBZ (pv 2) (zF (zBY (zF (pv 3) (zF (pv 5) zR))) zR)))) zBD))))
    (zn (zAd (zAD zEJ (by rfl) mSorted (by decide +kernel) (zF (pv 2) zR))))),?_⟩
   refine⟨zk _,fun l hl=>?_⟩
   have hwl:wa≠l:=zg hwa hl
   have htl:ta≠l:=zg hta hl
   have hlt:tys.length=ts.length:=by rw[TA.length,zC]
   refine⟨_,rfl,wa,_,_,_,rfl,rfl,SqT.of (by rw[zY hwl];exact hwa),rfl,ta,rfl,⟨_,SqT.of (by rw[zY htl];exact hta)⟩,zC5 (K:=K) (a:=ta) (xs:=tys)
    (fun i σ H2=>∃(va vb vl:Option V)(xs:List V),σ=[some (.ref wa),some (.int p),some (.ref l),va,vb,vl]/\zA3 H H2/\H2 l=some (.lst xs)/\zAG H2 xs (fd p (ts.take i)))
    ⟨none,none,none,[],rfl,zL hl,zI,trivial⟩ (fun i σ H2 _ ⟨_,_,_,_,_,s2,_⟩=>SqT.of (s2 _ _ hta)) ?turn ?after⟩
   case turn=>
    rintro i y σ H2 hi ⟨va,vb,vl,xs,rfl,s2,hl2,T2⟩
    obtain⟨ya,ky,rfl,hky,hya,_⟩:=TA.get hi
    rw[zT] at hky
    obtain⟨⟨a,b,c⟩,hti,rfl⟩:∃t:T3,ts[i]? = some t/\tl t=ky:=by
     cases e:ts[i]? with
     | none=>rw[e] at hky;cases hky
     | some t=>rw[e] at hky;exact⟨t,rfl,za hky⟩
    have hil:i<ts.length:=(zJ.mp hti).1
    have hlen:∀{xs':List V}{H3:Hp},zAG H3 xs' (fd p (ts.take i))->xs'.length<sizeLine:=fun T=>by
     have e1:=T.length
     have e2:=zF1 (n:=n) p (ts:=ts.take i) fun t ht=>(G.rng t (List.mem_of_mem_take ht)).2.1
     rw[zp] at e2
     exact zz (by have:=G.len;omega)
    have hfd:fd p (ts.take (i+1))=fd p (ts.take i)++((if a=p then [[b,c]] else [])++(if b=p then [[a,c]] else [])):=by
     rw[zAA,hti,zEH]
     show _++((if a=p then [[b,c]] else [])++(if b=p then [[a,c]] else [])++[])=_
     rw[zw]
    have hab:a<b:=(G.rng _ (zc hti)).2.1
    refine⟨ya,_,rfl,SqT.of (s2 _ _ hya),rfl,_,_,rfl,_,_,rfl,_,_,rfl,rfl,?_⟩
    have app:∀{x:Int},∀q,H2 q=none->∃xs',(upd (upd H2 q (.tup [.int x,.int c])) l (.lst (xs++[.ref q]))) l=some (.lst xs')/\zA3 H (upd (upd H2 q (.tup [.int x,.int c])) l (.lst (xs++[.ref q])))/\zAG (upd (upd H2 q (.tup [.int x,.int c])) l (.lst (xs++[.ref q]))) xs' (fd p (ts.take i)++[[x,c]]):=by
     intro x q hq
     have nlq:l≠q:=zg hl2 hq
     refine⟨_,zI,zA9 (s2.trans (zL hq)) hl,(T2.keep fun e ys he=>?_).snoc ⟨q,rfl,by rw[zY nlq.symm,zI];rfl,by simp⟩⟩
     rw[zY (zB5 he hl2 (by intro z;cases z)),zY (zg he hq)]
     exact he
    refine⟨_,rfl,_,rfl,rfl,_,rfl,?_⟩
    refine zGK (fun h1=>?_) (fun h1=>?_)
    . have e1:a=p:=by have:=of_decide_eq_true h1;injection this
      have n2:¬ b=p:=by omega
      refine⟨_,rfl,.inl ⟨rfl,_,SqL.of hl2⟩,_,rfl,_,rfl,by show 2<=sizeLine;decide,fun q hq=>?_⟩
      have nlq:l≠q:=zg hl2 hq
      refine⟨l,_,_,rfl,rfl,by rw[zY nlq];exact hl2,hlen T2,?_⟩
      refine⟨_,rfl,_,rfl,rfl,_,rfl,?_⟩
      rw[show decide (V.int b=V.int p)=false from zV fun e=>n2 (by injection e)]
      refine zDY ?_
      obtain⟨xs',g1,g2,g3⟩:=app (x:=b) q hq
      refine⟨_,_,_,xs',rfl,g2,g1,?_⟩
      rw[hfd,if_pos e1,if_neg n2]
      exact g3
    . have n1:¬ a=p:=fun e=>by
       have:=h1
       rw[e] at this
       exact this (zM rfl)
      refine⟨_,rfl,_,rfl,rfl,_,rfl,?_⟩
      refine zGK (fun h2=>?_) (fun h2=>?_)
      . have e2:b=p:=by have:=of_decide_eq_true h2;injection this
        refine⟨_,rfl,.inl ⟨rfl,_,SqL.of hl2⟩,_,rfl,_,rfl,by show 2<=sizeLine;decide,fun q hq=>?_⟩
        have nlq:l≠q:=zg hl2 hq
        refine⟨l,_,_,rfl,rfl,by rw[zY nlq];exact hl2,hlen T2,?_⟩
        obtain⟨xs',g1,g2,g3⟩:=app (x:=a) q hq
        refine⟨_,_,_,xs',rfl,g2,g1,?_⟩
        rw[hfd,if_neg n1,if_pos e2]
        exact g3
      . have n2:¬ b=p:=fun e=>by
         have:=h2
         rw[e] at this
         exact this (zM rfl)
        refine⟨_,_,_,xs,rfl,s2,hl2,?_⟩
        rw[hfd,if_neg n1,if_neg n2,zw,zw]
        exact T2
   case after=>
    rintro σ H2 ⟨va,vb,vl,xs,rfl,s2,hl2,T2⟩
    rw[hlt,zd (zG _)] at T2
    have e2:=zF1 (n:=n) p (ts:=ts) fun t ht=>(G.rng t ht).2.1
    refine⟨_,rfl,l,xs,fd p ts,rfl,SqL.of hl2,T2,by have:=G.len;omega,fun l' zs ms hl' T3 hp hrs=>?_⟩
    have nll:l'≠l:=fun e=>by rw[e,hl2] at hl';cases hl'
    have hl0:H l'=none:=by
     cases q:H l' with
     | none=>rfl
     | some o=>have:=s2 l' o q;rw[hl'] at this;cases this
    exact k l' zs ms _ (s2.trans (zL hl')) hl0 zI (T3.keep fun e ys he=>zL hl' _ _ he) hp hrs
end
noncomputable def zGw:Sp:=fun vs H Q _=>∃(wa:Addr)(n:Int)(ts:List T3)(p:Int),vs=[.ref wa,.int p]/\zBU H wa n ts /\
 ∀(l:Addr)(hs:List Int)(H':Hp),zA3 H H'->H l=none->H' l=some (.tup (hs.map V.int))->hs.Pairwise (· < ·)->(∀y,y∈hs↔∃k,Adj ts p y k)->Q (.ref l) H'
theorem zHu {ms:List (List Int)}(h:zH3 ms)(hk:∀k∈ms,∃y l,k=[y,l])(hn:(ms.map hd).Nodup):(ms.map hd).Pairwise (· < ·):=by
 rw[List.pairwise_map]
 rw[List.Nodup,List.pairwise_map] at hn
 have both:ms.Pairwise fun a b=>HT.lexLt b a=false/\hd a≠hd b:=by
  rw[zr]
  intro i j hi hj hij
  exact⟨zr.mp h i j hi hj hij,zr.mp hn i j hi hj hij⟩
 refine both.imp_of_mem fun {a b} ha hb hab=>?_
 obtain⟨y,l,rfl⟩:=hk a ha
 obtain⟨z,m,rfl⟩:=hk b hb
 obtain⟨h1,h2⟩:=hab
 have h2':y≠z:=h2
 rw[HT.lexLt_cons,if_neg (Ne.symm h2')] at h1
 have:=of_decide_eq_false h1
 show y<z
 omega
section
variable {P:Program}{w:World}{K:PySem.W.Frag}{mg:Str->Option Value}{base:Heap}
theorem zJv:zAI ["web", "place"] ["web", "place"] (defScope zDu):=⟨rfl,rfl,rfl,by decide +kernel,rfl,by decide +kernel,by decide +kernel⟩
theorem zIn {f fT:Addr}{fd' fdT:FuncData}(F:Fun K "beside" "beside" zDu f fd') (FT:Fun K "ties_at" "ties_at" zHd fT fdT) (bT:zAH K fdT ["web", "place"] []) (mT:mg "ties_at" = some (.ref fT)) (mSorted:mg "sorted" = none) (mTuple:mg "tuple" = none) :
 zAa P w K mg base CX0 2 f fd' ["web", "place"] zGw:=by
 have GT:zAa P w K mg base CX0 1 fT fdT ["web", "place"] zKb:=zLY FT mSorted
 refine F.ok zJv (fun vs H Q E h=>?_) (fun cdv A outer s H vs Q E hr h=>?_)
 . obtain⟨wa,n,ts,p,rfl,_⟩:=h
   rfl
 . obtain⟨wa,n,ts,p,rfl,W,k⟩:=h
   have G:GW n ts:=by obtain⟨_,_,_,_,_,g⟩:=W;exact g
   refine⟨_,zn (zAd (zBi zA0 (by rfl) mTuple (by decide +kernel) (zF
    (zBq (own:=["other", "long"]) (cn:=[]) (ci:=[]) rfl (csc rfl rfl) trivial rfl
     (zB3 (zx GT hr rfl mT FT.kp bT .nil zAk (zF (pv 0) (zF (pv 1) zR))))
     (fun _ _ _ _=>zLO (n:=2) rfl (zBx (zAP (i:=0) (zCW rfl) rfl (Or.inl rfl)) (zBx (zAP (i:=1) (zCW rfl) rfl (Or.inl rfl)) zE9)))
     (fun _ _ _ _=>zB2) (fun _ _ _ _=>pv 0)) zR))),?_⟩
   refine⟨_,rfl,_,rfl,wa,n,ts,p,rfl,W,fun l zs ms H1 s1 hl0 hl1 T1 hp hrs=>?_⟩
   have hlz:=T1.length
   have hlm:ms.length<64:=by
    have e2:=zF1 (n:=n) p (ts:=ts) fun t ht=>(G.rng t ht).2.1
    have:=G.len
    rw[hp.length_eq];omega
   refine⟨l,rfl,⟨_,SqL.of hl1⟩,[],rfl,fun D hD=>?_⟩
   have nlD:l≠D:=zg hl1 hD
   refine zBl (a:=l) (xs:=zs) (fun i ys H6=>ys=((ms.take i).map hd).map V.int/\H6=upd H1 D (.lst ys)) ⟨rfl,rfl⟩ (fun i ys H6 h=>?_) (fun i ys H6 h=>?_) (fun i x ys H6 hx h=>?_) (fun ys H6 h=>?_)
   . obtain⟨_,rfl⟩:=h
     exact SqL.of (by rw[zY nlD];exact hl1)
   . obtain⟨rfl,_⟩:=h
     rw[zC,zC,zp]
     exact zz (by omega)
   . obtain⟨rfl,rfl⟩:=h
     obtain⟨ya,ky,rfl,hky,hya,_⟩:=T1.get hx
     obtain⟨z,c,rfl,ha⟩:=zDe.mp (hp.mem_iff.mp (zc hky))
     refine⟨ya,_,rfl,SqT.of (by rw[zY (zg hya hD)];exact hya),rfl,_,_,rfl,_,_,rfl,rfl,⟨rfl,rfl⟩,?_⟩
     refine zHX ?_
     refine⟨_,rfl,zI,?_,zCA⟩
     rw[zAA,hky]
     simp[hd]
   . obtain⟨rfl,rfl⟩:=h
     refine⟨D,_,rfl,.inl ⟨SqL.of zI,fun q hq=>?_⟩⟩
     rw[hlz,zd (zG _)] at hq ⊢
     have nqD:q≠D:=fun e=>by rw[e,zI] at hq;cases hq
     have hq1:H1 q=none:=by rw[zY nqD] at hq;exact hq
     have s2:zA3 H (upd (upd H1 D (.lst ((ms.map hd).map V.int))) q (.tup ((ms.map hd).map V.int))):=s1.trans (zA9 (zL hD) hq1)
     have hk:∀k∈ms,∃y l,k=[y,l]:=fun k hk=>by
      obtain⟨y,l,e,_⟩:=zDe.mp (hp.mem_iff.mp hk)
      exact⟨y,l,e⟩
     refine k q (ms.map hd) _ s2 ?_ zI (zHu hrs hk ((hp.map hd).nodup_iff.mpr (zHH G p))) fun y=>?_
     . cases e:H q with
       | none=>rfl
       | some o=>have:=s1 q o e;rw[hq1] at this;cases this
     . constructor
       . intro hy
         obtain⟨k,hk,rfl⟩:=zAT.mp hy
         obtain⟨y,l,rfl,ha⟩:=zDe.mp (hp.mem_iff.mp hk)
         exact⟨l,ha⟩
       . rintro ⟨l,ha⟩
         exact zAT.mpr ⟨[y,l],hp.mem_iff.mpr (zDe.mpr ⟨y,l,rfl,ha⟩),rfl⟩
end
end K41
namespace K41
open PySem L2 WM
theorem zLs (a b:Int):eqV (.int a) (.int b)=(a==b):=rfl
theorem zBm {z:Int}:∀{l:List Int},inV (.int z) (l.map V.int)=decide (z∈l)
 | []=>rfl
 | x::r=>by
  show (eqV (.int x) (.int z) || inV (.int z) (r.map V.int))=_
  rw[zBm (l:=r),zLs]
  by_cases h:x=z
  . subst h;simp
  . have h':(x==z)=false:=by simpa using h
    rw[h',Bool.false_or]
    simp[Ne.symm h]
theorem zBk:∀(l:List Int),(l.map V.int).all zFI=true
 | []=>rfl
 | _::r=>by rw[zAU,List.all_cons,zBk r];rfl
theorem zHK {i j:Int}:decide (V.int i=V.int j)=decide (i=j):=by
 by_cases h:i=j
 . subst h;simp
 . rw[zV h,zV fun e=>h (by injection e)]
structure Mtw (ts:List T3)(left:List Int)(x0:Int)(met:List Int):Prop where
 nd:met.Nodup
 z:x0∈met
 sub:∀x∈met,x∈left
 gr:∀S:Int->Prop,S x0->(∀a b l,a∈met->b∈met->Adj ts a b l->S a->S b)->∀y∈met,S y
theorem Mtw.start {ts:List T3}{left:List Int}{x0:Int}(h:x0∈left):Mtw ts left x0 [x0]:=
 ⟨by simp,by simp,fun x hx=>by rw[zX.mp hx];exact h,fun S hS _ y hy=>by rw[zX.mp hy];exact hS⟩
theorem Mtw.more {ts:List T3}{left met:List Int}{x0 x y k:Int}(h:Mtw ts left x0 met)(hx:x∈met)(ha:Adj ts x y k)(yl:y∈left)(hy:¬ y∈met):Mtw ts left x0 (met++[y]):=by
 refine⟨zGY h.nd hy,zu _ h.z,fun z hz=>?_,fun S hS hc=>?_⟩
 . rcases zQ.mp hz with q | q
   . exact h.sub z q
   . rw[zX.mp q];exact yl
 . have h1:=h.gr S hS fun a b l ha hb=>hc a b l (zu _ ha) (zu _ hb)
   intro z hz
   rcases zQ.mp hz with q | q
   . exact h1 z q
   . rw[zX.mp q]
     exact hc x y k (zu _ hx) (by simp) ha (h1 x hx)
theorem Mtw.len {ts:List T3}{left met:List Int}{x0:Int}(h:Mtw ts left x0 met):met.length<=left.length:=zCN h.nd h.sub
theorem zCe {ms:List Int}(h:ms.Pairwise (· <= ·))(nd:ms.Nodup):ms.Pairwise (· < ·):=(h.and nd).imp fun h=>by omega
theorem Mtw.part {ts:List T3}{left met ms:List Int}{x0:Int}(h:Mtw ts left x0 met)(hp:ms.Perm met)(hs:ms.Pairwise (· <= ·))(hc:∀x∈met,∀y c,Adj ts x y c->y∈left->y∈met):zCX ts left x0 ms:=by
 have me:∀y,y∈ms↔y∈met:=fun y=>hp.mem_iff
 refine⟨zCe hs (hp.nodup_iff.mpr h.nd),fun y hy=>h.sub y ((me y).mp hy),(me _).mpr h.z,fun a ha b l A hb=>(me b).mpr (hc a ((me a).mp ha) b l A hb),zJM (x:=x0) fun S hS hcl y hy=>?_⟩
 exact h.gr S hS (fun a b l ha hb=>hcl a b l ((me a).mpr ha) ((me b).mpr hb)) y ((me y).mp hy)
noncomputable def spJw:Sp:=fun vs H Q _=>∃(wa pl:Addr)(n:Int)(ts:List T3)(left:List Int)(x0:Int),vs=[.ref wa,.ref pl,.int x0]/\zBU H wa n ts/\H pl=some (.lst (left.map V.int))/\x0∈left/\left.length<64 /\
 ∀(la:Addr)(p:List Int)(H':Hp),H la=none->zA3 H H'->H' la=some (.lst (p.map V.int))->zCX ts left x0 p->Q (.ref la) H'
section
variable {P:Program}{w:World}{K:PySem.W.Frag}{mg:Str->Option Value}{base:Heap}
theorem scJw:zAI ["web", "places", "start", "met", "gone", "place"] ["web", "places", "start"] (defScope sJw):=⟨rfl,rfl,rfl,by decide +kernel,rfl,by decide +kernel,by decide +kernel⟩
theorem ok_jw {f fB fT:Addr}{fd' fdB fdT:FuncData}(F:Fun K "joined_within" "joined_within" sJw f fd') (FB:Fun K "beside" "beside" zDu fB fdB) (bB:zAH K fdB ["web", "place"] []) (mB:mg "beside" = some (.ref fB))
 (FT:Fun K "ties_at" "ties_at" zHd fT fdT) (bT:zAH K fdT ["web", "place"] []) (mT:mg "ties_at" = some (.ref fT)) (mSorted:mg "sorted" = none) (mTuple:mg "tuple" = none) (mLen:mg "len" = none) :
 zAa P w K mg base CX0 3 f fd' ["web", "places", "start"] spJw:=by
 have GB:zAa P w K mg base CX0 2 fB fdB ["web", "place"] zGw:=zIn FB FT bT mT mSorted mTuple
 refine F.ok scJw (fun vs H Q E h=>?_) (fun cdv A outer s H vs Q E hr h=>?_)
 . obtain⟨wa,pl,n,ts,left,x0,rfl,_⟩:=h
   rfl
 . obtain⟨wa,pl,n,ts,left,x0,rfl,W,hpl,hx0,hll,k⟩:=h
   obtain⟨ta,tys,hwa,_,_,G⟩:=id W
   refine⟨_,zZ (zAR (i:=3) scJw.nd rfl (Or.inl rfl) (zCL (zF (pv 2) zR))) (zZ (zAR (i:=4) scJw.nd rfl (Or.inl rfl) zm)
    (zZ (zC9 PassesOwn.never (zAS zGX (pv 4) (zAD zAe (by rfl) mLen PySem.boot_len (zF (pv 3) zR)) (zAv _))
     (zZ (zCJ PassesOwn.never rfl (zCf (zx GB hr rfl mB FB.kp bB .nil zAk (zF (pv 0) (zF (zAj zBE (pv 3) (pv 4) (fun _ _=>rfl)) zR)))) (zAP (i:=5) scJw.nd rfl (Or.inl rfl))
      (zn (zCF (PW.pt (zDx (zAS zD4 (pv 5) (pv 1) (by with_unfolding_all rfl)) (zDS (zAS zCM (pv 5) (pv 3) (by with_unfolding_all rfl))))) (zn (zBp (zDW PySem.F.plainAttrs_list PySem.F.slot_list_append PySem.F.type_list_append zBZ (pv 3) (zF (pv 5) zR)))) zBD)))
     (zn (ps_aug (i:=4) scJw.nd rfl (Or.inl rfl) zm ip_add))))
    (zn (zAd (zAD zCP (by rfl) mSorted (by decide +kernel) (zF (pv 3) zR)))))),?_⟩
   refine⟨_,rfl,by show 1<=sizeLine;decide,fun ma hma=>?_⟩
   have hnw:wa≠ma:=zg hwa hma
   refine⟨fun m σ H2=>∃(g:Nat)(met:List Int)(vp:Option V),σ=[some (.ref wa),some (.ref pl),some (.int x0),some (.ref ma),some (.int g),vp]/\m=left.length-g/\zA3 H H2/\H2 ma=some (.lst (met.map V.int))/\Mtw ts left x0 met/\g<=met.length/\(∀j x,j<g->met[j]? = some x->∀y c,Adj ts x y c->y∈left->y∈met),
    ⟨_,0,[x0],none,rfl,rfl,zL hma,zI,Mtw.start hx0,zk _,fun j x h=>by omega⟩,?_⟩
   rintro m σ H2 ⟨g,met,vp,rfl,rfl,s2,hm2,M,hg,hcl⟩
   refine⟨_,rfl,_,rfl,ma,_,rfl,.inl (SqL.of hm2),_,_,rfl,rfl,_,rfl,?_⟩
   have hlen:=M.len
   refine zGK (fun hc=>?_) (fun hc=>?_)
   . have hlt:g<met.length:=by
      have:=of_decide_eq_true hc
      rw[zC] at this
      omega
     refine⟨fun σ' H'=>∃(met':List Int)(vp:Option V),σ'=[some (.ref wa),some (.ref pl),some (.int x0),some (.ref ma),some (.int (g+1)),vp]/\zA3 H H'/\H' ma=some (.lst (met'.map V.int))/\Mtw ts left x0 met'/\g+1<=met'.length/\(∀j x,j<g+1->met'[j]? = some x->∀y c,Adj ts x y c->y∈left->y∈met'),?_,?_⟩
     . rintro σ' H' ⟨met',vp',rfl,s',hm',M',hg',hc'⟩
       exact⟨left.length-(g+1),by omega,g+1,met',vp',rfl,rfl,s',hm',M',hg',hc'⟩
     . -- for place in beside(web,met[gone])
       refine⟨_,rfl,_,rfl,_,rfl,ma,_,_,_,rfl,rfl,SqL.of hm2,zB8 (v:=V.int met[g]) (by simp[hlt]),wa,n,ts,met[g],rfl,W.keep s2,fun la hs H3 s3 hla0 hla hrise hmem=>?_⟩
       have hm3:H3 ma=some (.lst (met.map V.int)):=s3 _ _ hm2
       have nlm:la≠ma:=zB5 hla hm3 (by intro z;cases z)
       refine⟨la,rfl,⟨_,SqT.of hla⟩,zC5 (K:=K) (a:=la) (xs:=hs.map V.int) (fun i σ H4=>∃(ex:List Int)(vp:Option V),σ=[some (.ref wa),some (.ref pl),some (.int x0),some (.ref ma),some (.int g),vp]/\zA3 H H4/\H4 la=some (.tup (hs.map V.int))/\H4 ma=some (.lst ((met++ex).map V.int))/\Mtw ts left x0 (met++ex)/\∀j y,j<i->hs[j]? = some y->y∈left->y∈met++ex)
        ⟨[],vp,rfl,s2.trans s3,hla,by rw[zw];exact hm3,by rw[zw];exact M,fun j y h=>by omega⟩ (fun i σ H4 _ ⟨_,_,_,_,e,_⟩=>SqT.of e) ?turn ?after⟩
       case turn=>
        rintro i x σ H4 hi ⟨ex,vp,rfl,s4,hla4,hm4,M4,hin⟩
        obtain⟨y,hy,rfl⟩:∃y,hs[i]? = some y/\V.int y=x:=by
         rw[zT] at hi
         cases e:hs[i]? with
         | none=>rw[e] at hi;cases hi
         | some y=>rw[e] at hi;exact⟨y,rfl,za hi⟩
        obtain⟨c,ha⟩:=(hmem y).mp (zc hy)
        refine⟨_,rfl,_,rfl,pl,_,rfl,.inl (SqL.of (s4 _ _ hpl)),rfl,zBk _,_,rfl,?_⟩
        by_cases ylow:y∈left
        case neg=>
         refine ifF (show inV (.int y) (left.map V.int)=false by rw[zBm];exact zV ylow) (zDY ?_)
         refine⟨ex,_,rfl,s4,hla4,hm4,M4,fun j z hj hz zl=>?_⟩
         by_cases hji:j<i
         . exact hin j z hji hz zl
         . have e:j=i:=by omega
           subst e
           rw[hy] at hz
           cases hz
           exact absurd zl ylow
        refine ifT (show inV (.int y) (left.map V.int)=true by rw[zBm];exact zM ylow) ?_
        refine⟨_,rfl,_,rfl,ma,_,rfl,.inl (SqL.of hm4),rfl,zBk _,_,rfl,?_⟩
        refine zGK (fun hc2=>?_) (fun hc2=>?_)
        . have hno:¬ y∈met++ex:=fun hy2=>by
           have hc3:(!inV (.int y) ((met++ex).map V.int))=true:=hc2
           rw[zBm,zM hy2] at hc3
           cases hc3
          have hl4:=M4.len
          refine⟨_,rfl,.inl ⟨rfl,_,SqL.of hm4⟩,_,rfl,ma,_,_,rfl,rfl,hm4,zz (by rw[zC];omega),?_⟩
          refine⟨ex++[y],_,rfl,zA9 s4 hma,by rw[zY nlm];exact hla4,by rw[zI,<-zBC,ze (l₁:=met++ex)];rfl,?_,fun j z hj hz zl=>?_⟩
          . rw[<-zBC]
            exact M4.more (zu _ (zAy hlt)) ha ylow hno
          . rw[<-zBC]
            by_cases hji:j<i
            . exact zu _ (hin j z hji hz zl)
            . have e:j=i:=by omega
              subst e
              rw[hy] at hz
              cases hz
              simp
        . have hyes:y∈met++ex:=by
           by_cases hy2:y∈met++ex
           . exact hy2
           . exfalso
             apply hc2
             show (!inV (.int y) ((met++ex).map V.int))=true
             rw[zBm,zV hy2]
             rfl
          refine⟨ex,_,rfl,s4,hla4,hm4,M4,fun j z hj hz zl=>?_⟩
          by_cases hji:j<i
          . exact hin j z hji hz zl
          . have e:j=i:=by omega
            subst e
            rw[hy] at hz
            cases hz
            exact hyes
       case after=>
        rintro σ H4 ⟨ex,vp,rfl,s4,hla4,hm4,M4,hin⟩
        refine⟨_,rfl,_,_,rfl,rfl,?_⟩
        refine⟨met++ex,_,rfl,s4,hm4,M4,by rw[zH];omega,fun j x hj hx y c ha yl=>?_⟩
        by_cases hjg:j<g
        . rw[zAK (by omega)] at hx
          exact zu _ (hcl j x hjg hx y c ha yl)
        . have e:j=g:=by omega
          subst e
          rw[zAK hlt,zD hlt] at hx
          cases hx
          obtain⟨i,hi,e⟩:=zAC ((hmem y).mpr ⟨c,ha⟩)
          exact hin i y (by rw[zC];exact hi) (by rw[zD hi,e]) yl
   . have hge:g=met.length:=by
      have h1:¬ ((g:Int)<((met.map V.int).length:Int)):=fun z=>hc (zM z)
      rw[zC] at h1
      omega
     subst hge
     refine⟨_,rfl,ma,met,rfl,SqL.of hm2,by omega,fun la ms hla hp hso=>?_⟩
     have hla0:H la=none:=by
      cases e:H la with
      | none=>rfl
      | some o=>have:=s2 la o e;rw[hla] at this;cases this
     refine k la ms _ hla0 (s2.trans (zL hla)) zI (M.part hp hso fun x hx y c ha yl=>?_)
     obtain⟨j,hj,e⟩:=zAC hx
     exact hcl j x hj (by rw[zD hj,e]) y c ha yl
end
end K41
namespace K41
open PySem L2 WM
noncomputable def zLC:Sp:=fun vs H Q _=>∃i:Int,vs=[.int i]/\Q (.bl true) H
noncomputable def zLA:Sp:=fun vs H Q _=>∃(p:Addr)(ys:List V),vs=[.ref p,.int ys.length]/\H p=some (.tup ys)/\Q (.bl true) H
structure Ordr (n:Int)(os:List Int):Prop where
 ln:os.length=n.toNat
 nd:os.Nodup
 rng:∀p∈os,0<=p/\p<n
section
variable {P:Program}{w:World}{K:PySem.W.Frag}{mg:Str->Option Value}{base:Heap}
theorem scNum:zAI ["thing"] ["thing"] (defScope sNum):=⟨rfl,rfl,rfl,by decide +kernel,rfl,by decide +kernel,by decide +kernel⟩
theorem zKi {f:Addr}{fd':FuncData}(F:Fun K "is_number" "is_number" sNum f fd') (mIsi:mg "isinstance" = none) (mInt:mg "int" = none) (mBool:mg "bool" = none):zAa P w K mg base CX0 1 f fd' ["thing"] zLC:=by
 refine F.ok scNum (fun vs H Q E h=>?_) (fun cdv A outer s H vs Q E hr h=>?_)
 . obtain⟨i,rfl,_⟩:=h
   rfl
 . obtain⟨i,rfl,k⟩:=h
   refine⟨_,zn (zAd (zCw (zAD zB6 (by rfl) mIsi (by decide +kernel) (zF (pv 0) (zF (zD0 (T := "int") (by rfl) mInt (by decide +kernel)) zR)))
    (zCu (pe_not (zAD zB6 (by rfl) mIsi (by decide +kernel) (zF (pv 0) (zF (zD0 (T := "bool") (by rfl) mBool (by decide +kernel)) zR))))))),?_⟩
   refine⟨_,rfl,_,_,_,true,rfl,.int i,rfl,true,rfl,zC3 ?_⟩
   exact⟨_,rfl,_,_,_,false,rfl,.int i,rfl,false,rfl,k⟩
theorem scWi:zAI ["thing", "least", "most"] ["thing", "least", "most"] (defScope sWi):=⟨rfl,rfl,rfl,by decide +kernel,rfl,by decide +kernel,by decide +kernel⟩
theorem scPl:zAI ["n", "thing"] ["n", "thing"] (defScope sPl):=⟨rfl,rfl,rfl,by decide +kernel,rfl,by decide +kernel,by decide +kernel⟩
theorem scTof:zAI ["thing", "count"] ["thing", "count"] (defScope sTof):=⟨rfl,rfl,rfl,by decide +kernel,rfl,by decide +kernel,by decide +kernel⟩
theorem ok_tof {f:Addr}{fd':FuncData}(F:Fun K "is_tuple_of" "is_tuple_of" sTof f fd') (mIsi:mg "isinstance" = none) (mTuple:mg "tuple" = none) (mLen:mg "len" = none):zAa P w K mg base CX0 1 f fd' ["thing", "count"] zLA:=by
 refine F.ok scTof (fun vs H Q E h=>?_) (fun cdv A outer s H vs Q E hr h=>?_)
 . obtain⟨p,ys,rfl,_⟩:=h
   rfl
 . obtain⟨p,ys,rfl,hp,k⟩:=h
   refine⟨_,zn (zAd (zCw (zAD zB6 (by rfl) mIsi (by decide +kernel) (zF (pv 0) (zF (zD0 (T := "tuple") (by rfl) mTuple (by decide +kernel)) zR)))
    (zCu (zCC zD6 (zAD zAe (by rfl) mLen PySem.boot_len (zF (pv 0) zR)) (pv 1) (zAv _))))),?_⟩
   refine⟨_,rfl,_,_,_,true,rfl,.tup hp,rfl,true,rfl,zC3 ?_⟩
   refine⟨_,rfl,p,_,rfl,.inr (SqT.of hp),_,rfl,rfl,?_⟩
   rw[zM rfl]
   exact k
end
theorem zCT {H:Hp}{xs:List V}{ds:List PyData}(h:zAt H xs ds):xs.length=ds.length:=by
 induction xs generalizing ds with
 | nil=>cases h;rfl
 | cons x xs ih=>
  cases h with
  | cons a b=>rw[zj,zj,ih b]
theorem zBF {H H':Hp}(k:zA3 H H'){v:V}{d:PyData}(s:zBa H v d):zBa H' v d:=
 zBa.rec (motive_1:=fun v d _=>zBa H' v d) (motive_2:=fun xs ds _=>zAt H' xs ds) .non (fun b=>.bl b) (fun i=>.int i) (fun x=>.str x) (fun e _ ih=>.tup (k _ _ e) ih) (fun e _ ih=>.lst (k _ _ e) ih) .nil (fun _ _ i1 i2=>.cons i1 i2) s
theorem sh_int {H:Hp}:∀{xs:List V}{os:List Int},zAt H xs (os.map PyData.int)->xs=os.map V.int:=by
 intro xs os h
 induction os generalizing xs with
 | nil=>cases h;rfl
 | cons o os ih=>
  cases h with
  | cons a b=>
   cases a
   rw[ih b]
   rfl
noncomputable def zH5:List Int->Bool
 | a::b::r=>decide (a<b) && zH5 (b::r)
 | _=>true
theorem zIX:∀(ms:List Int),zH5 ms=(List.range (ms.length-1)).all fun k=>decide (ms.getD k 0<ms.getD (k+1) 0)
 | []=>rfl
 | [_]=>rfl
 | a::b::r=>by
  show (decide (a<b) && zH5 (b::r))=_
  rw[zIX (b::r)]
  show _=(List.range (r.length+1)).all _
  rw[List.range_succ_eq_map,List.all_cons,List.all_map]
  rfl
theorem zG3:∀(ms:List Int),zH5 ms=true↔ms.Pairwise (· < ·)
 | []=>by simp[zH5]
 | [_]=>by simp[zH5]
 | a::b::r=>by
  have ih:=zG3 (b::r)
  show (decide (a<b) && zH5 (b::r))=true↔_
  rw[zAz,ih,zAZ,List.pairwise_cons (a:=a)]
  constructor
  . rintro ⟨h1,h2⟩
    refine⟨fun x hx=>?_,h2⟩
    rcases zW.mp hx with rfl | hx
    . exact h1
    . have:=(List.pairwise_cons.mp h2).1 x hx
      omega
  . rintro ⟨h1,h2⟩
    exact⟨h1 b zN,h2⟩
noncomputable def spRis:Sp:=fun vs H Q _=>∃(p:Addr)(xs:List Int),vs=[.ref p]/\H p=some (.tup (xs.map V.int))/\xs.length<=1000/\∀H',zA3 H H'->Q (.bl (zH5 xs)) H'
section
variable {P:Program}{w:World}{K:PySem.W.Frag}{mg:Str->Option Value}{base:Heap}
theorem scRis:zAI ["things"] ["things"] (defScope sRis):=⟨rfl,rfl,rfl,by decide +kernel,rfl,by decide +kernel,by decide +kernel⟩
theorem ok_ris {f:Addr}{fd':FuncData}(F:Fun K "is_rising" "is_rising" sRis f fd') (mLen:mg "len" = none) (mRange:mg "range" = none) (mAll:mg "all" = none):zAa P w K mg base CX0 1 f fd' ["things"] spRis:=by
 refine F.ok scRis (fun vs H Q E h=>?_) (fun cdv A outer s H vs Q E hr h=>?_)
 . obtain⟨p,xs,rfl,_⟩:=h
   rfl
 . obtain⟨p,xs,rfl,hp,hl,k⟩:=h
   refine⟨_,zn (zAd (zAD (zFL rfl) (by rfl) mAll (by decide +kernel) (zF (zBq (own:=["k"]) (cn:=["things"]) (ci:=[0]) rfl (csc rfl rfl) ⟨rfl,rfl,rfl,trivial⟩ rfl
    (zDz rfl mRange (zF zm (zF (zAD zAe (by rfl) mLen PySem.boot_len (zF (pv 0) zR)) zR))) (fun _ _ _ _=>zAP (i:=0) (zCW rfl) rfl (Or.inl rfl)) (fun _ _ _ _=>zB2)
    (fun _ _ _ _=>zCC zGX (zAj zFF (pv 1) (zBP zD2 (pv 0) zm) (fun _ _=>rfl)) (zAj zFF (pv 1) (pv 0) (fun _ _=>rfl)) (zAv _))) zR))),?_⟩
   refine⟨_,rfl,p,_,rfl,.inr (SqT.of hp),1,_,rfl,⟨by decide,by decide,by rw[zC];omega,by rw[zC];omega⟩,[.ref p],rfl,fun D hD=>?_⟩
   refine zCr (lo:=1) (n:=(((xs.map V.int).length:Int)-1).toNat) (fun q ys H4=>q<=(((xs.map V.int).length:Int)-1).toNat/\ys=((List.range q).map fun k=>decide (xs.getD k 0<xs.getD (k+1) 0)).map V.bl/\H4=upd H D (.lst ys)) ⟨zk _,rfl,rfl⟩ (fun q ys H4 z=>?_) (fun q ys H4 hq z=>?_) (fun ys H4 z=>?_)
   . obtain⟨hq,rfl,_⟩:=z
     rw[zC] at hq
     rw[zC,zC,zAW]
     exact zz (by omega)
   . obtain⟨_,rfl,rfl⟩:=z
     rw[zC] at hq
     have hp4:=zL (o:=.lst (((List.range q).map fun k=>decide (xs.getD k 0<xs.getD (k+1) 0)).map V.bl)) hD _ _ hp
     have h1:q<xs.length:=by omega
     have h2:q+1<xs.length:=by omega
     refine⟨⟨rfl,rfl⟩,?_⟩
     refine zHX ?_
     refine⟨_,rfl,_,rfl,_,_,rfl,rfl,p,_,_,.int xs[q],rfl,rfl,SqT.of hp4,zKx (by omega) (by rw[show ((1:Int)+q-1).toNat=q by omega,zT,zD h1];rfl),_,rfl,_,rfl,p,_,_,.int xs[q+1],rfl,rfl,SqT.of hp4,zKx (by omega) (by rw[show ((1:Int)+q).toNat=q+1 by omega,zT,zD h2];rfl),_,_,rfl,rfl,zI,by rw[zC];omega,?_,zCA⟩
     have d1:xs.getD q 0=xs[q]:=by rw[zP,zD h1];rfl
     have d2:xs.getD (q+1) 0=xs[q+1]:=by rw[zP,zD h2];rfl
     rw[List.range_succ,ze,ze]
     show _=_++[V.bl (decide (xs.getD q 0<xs.getD (q+1) 0))]
     rw[d1,d2]
   . obtain⟨_,rfl,rfl⟩:=z
     refine⟨D,_,rfl,SqL.of zI,?_⟩
     have e:(((List.range (((xs.map V.int).length:Int)-1).toNat).map fun k=>decide (xs.getD k 0<xs.getD (k+1) 0)).all id)=zH5 xs:=by
      rw[zIX,List.all_map,zC,show ((xs.length:Int)-1).toNat=xs.length-1 by omega]
      rfl
     rw[e]
     exact k _ (zL hD)
end
inductive Pln where
 | mk (ps:List Int)(ks:List Pln)
mutual
noncomputable def zBH:Pln->List Int
 | .mk ps ks=>ps++zA7 ks
noncomputable def zA7:List Pln->List Int
 | []=>[]
 | k::ks=>zBH k++zA7 ks
end
mutual
noncomputable def chO (x:Int):Pln->Option (List Int)
 | .mk ps ks=>if x∈ps then some ps else (zEn x ks).map (ps ++ ·)
noncomputable def zEn (x:Int):List Pln->Option (List Int)
 | []=>none
 | k::ks=>match chO x k with
  | some r=>some r
  | none=>zEn x ks
end
mutual
noncomputable def zGj:Pln->Nat
 | .mk ps ks=>ps.length+zCk ks
noncomputable def zCk:List Pln->Nat
 | []=>0
 | k::ks=>max (zGj k) (zCk ks)
end
mutual
noncomputable def hgt:Pln->Nat
 | .mk _ ks=>zJg ks+1
noncomputable def zJg:List Pln->Nat
 | []=>0
 | k::ks=>max (hgt k) (zJg ks)
end
mutual
noncomputable def plD:Pln->PyData
 | .mk ps ks=>.tuple [.tuple (ps.map PyData.int),.tuple (zC0 ks)]
noncomputable def zC0:List Pln->List PyData
 | []=>[]
 | k::ks=>plD k::zC0 ks
end
theorem zCZ:∀ks:List Pln,(zC0 ks).length=ks.length
 | []=>rfl
 | _::ks=>by rw[zC0,zj,zj,zCZ ks]
theorem zDG {k:Pln}:∀{ks:List Pln},k∈ks->hgt k<=zJg ks
 | [],h=>by cases h
 | j::ks,h=>by
  rw[zJg]
  rcases zW.mp h with rfl | h
  . omega
  . have:=zDG h
    omega
theorem zEl {k:Pln}:∀{ks:List Pln}{i:Nat},ks[i]? = some k->zA7 (ks.take (i+1))=zA7 (ks.take i)++zBH k
 | [],_,h=>by cases h
 | j::ks,0,h=>by
  cases h
  show zBH k++zA7 (ks.take 0)=zA7 []++zBH k
  simp[zA7]
 | j::ks,i+1,h=>by
  show zBH j++zA7 (ks.take (i+1))=(zBH j++zA7 (ks.take i))++zBH k
  rw[zEl (ks:=ks) (by simpa using h),zBC]
theorem zCj {k:Pln}:∀{ks:List Pln},k∈ks->(zBH k).length<=(zA7 ks).length
 | [],h=>by cases h
 | j::ks,h=>by
  rw[zA7,zH]
  rcases zW.mp h with rfl | h
  . omega
  . have:=zCj h
    omega
theorem zFz:∀(ks:List Pln)(i:Nat),(zA7 (ks.take i)).length<=(zA7 ks).length
 | ks,0=>by simp[zA7]
 | [],_+1=>zG _
 | k::ks,i+1=>by
  show (zBH k++zA7 (ks.take i)).length<=(zBH k++zA7 ks).length
  rw[zH,zH]
  have:=zFz ks i
  omega
theorem zFZ {H:Hp}:∀{zs:List V}{ks:List Pln}{i:Nat}{z:V},zAt H zs (zC0 ks)->zs[i]? = some z->∃k,ks[i]? = some k/\zBa H z (plD k)
 | [],_,_,_,_,h=>by cases h
 | z::zs,[],_,_,s,_=>by cases s
 | z::zs,k::ks,i,y,s,h=>by
  rw[zC0] at s
  cases s with
  | cons a b=>
   cases i with
   | zero=>cases h;exact⟨k,rfl,a⟩
   | succ i=>
    obtain⟨k',h1,h2⟩:=zFZ (ks:=ks) (i:=i) b (by simpa using h)
    exact⟨k',by simpa using h1,h2⟩
theorem zFj {H:Hp}{v:V}{ps:List Int}{ks:List Pln}(S:zBa H v (plD (.mk ps ks))):∃(a b c:Addr)(zs:List V),v = .ref a/\H a=some (.tup [.ref b,.ref c])/\H b=some (.tup (ps.map V.int))/\H c=some (.tup zs)/\zAt H zs (zC0 ks):=by
 rw[plD] at S
 cases S with
 | tup e al=>cases al with
  | cons s1 al=>cases al with
   | cons s2 al=>
    cases al
    cases s1 with
    | tup e1 a1=>cases s2 with
     | tup e2 a2=>
      rw[sh_int a1] at e1
      exact⟨_,_,_,_,rfl,e,e1,e2,a2⟩
noncomputable def spPo (h:Nat):Sp:=fun vs H Q _=>∃(v:V)(p:Pln),vs=[v]/\zBa H v (plD p)/\hgt p<=h/\(zBH p).length<=1000/\∀(l:Addr)(H':Hp),zA3 H H'->H' l=some (.tup ((zBH p).map V.int))->Q (.ref l) H'
section
variable {P:Program}{w:World}{K:PySem.W.Frag}{mg:Str->Option Value}{base:Heap}
theorem scPo:zAI ["plan", "found", "part"] ["plan"] (defScope sPo):=⟨rfl,rfl,rfl,by decide +kernel,rfl,by decide +kernel,by decide +kernel⟩
theorem ok_po {f:Addr}{fd':FuncData}(F:Fun K "plan_order" "plan_order" sPo f fd') (bF:zAH K fd' ["plan"] []) (mF:mg "plan_order" = some (.ref f)) (mList:mg "list" = none) (mTuple:mg "tuple" = none):∀h:Nat,zAa P w K mg base CX0 (h+1) f fd' ["plan"] (spPo h)
 | 0=>F.ok scPo (fun vs H Q E h=>by obtain⟨v,p,rfl,_⟩:=h;rfl) (fun cdv A outer s H vs Q E hr h=>by
  obtain⟨v,⟨ps,ks⟩,rfl,_,h0,_⟩:=h
  rw[hgt] at h0
  omega)
 | h+1=>by
  have GP:=ok_po F bF mF mList mTuple h
  refine F.ok scPo (fun vs H Q E h=>?_) (fun cdv A outer s H vs Q E hr h=>?_)
  . obtain⟨v,p,rfl,_⟩:=h
    rfl
  . obtain⟨v,⟨ps,ks⟩,rfl,S,hh,hl,k⟩:=h
    rw[hgt] at hh
    rw[zBH] at hl k
    obtain⟨a,b,c,zs,rfl,ha,hb,hc,al⟩:=zFj S
    have hzl:=zCT al
    rw[zCZ] at hzl
    refine⟨_,zZ (zAR (i:=1) scPo.nd rfl (Or.inl rfl) (zBi zGA (by rfl) mList (by decide +kernel) (zF (zAj zAp (pv 0) zm (fun _ _=>rfl)) zR)))
     (zZ (zCJ PassesOwn.never rfl (zCf (zAj zAp (pv 0) zm (fun _ _=>rfl))) (zAP (i:=2) scPo.nd rfl (Or.inl rfl))
      (zn (zBp (zDW PySem.F.plainAttrs_list PySem.F.slot_list_extend PySem.F.type_list_extend zHj (pv 1) (zF (zx GP hr rfl mF F.kp bF .nil zAk (zF (pv 2) zR)) zR)))))
     (zn (zAd (zBi zA0 (by rfl) mTuple (by decide +kernel) (zF (pv 1) zR))))),?_⟩
    refine⟨_,rfl,_,_,_,_,rfl,rfl,SqT.of ha,rfl,b,_,rfl,.inr (SqT.of hb),fun D hD=>?_⟩
    have s1:=zL (o:=.lst (ps.map V.int)) hD
    refine⟨_,rfl,_,_,_,_,rfl,rfl,SqT.of (s1 _ _ ha),rfl,c,rfl,⟨_,SqT.of (s1 _ _ hc)⟩,zC5 (K:=K) (a:=c) (xs:=zs) (fun i σ H2=>∃vt:Option V,σ=[some (.ref a),some (.ref D),vt]/\i<=ks.length/\H2 D=some (.lst ((ps++zA7 (ks.take i)).map V.int))/\zA3 H H2)
     ⟨none,rfl,zk _,by rw[zI];simp[zA7],s1⟩ (fun i σ H2 _ z=>?_) (fun i x σ H2 hx z=>?_) (fun σ H2 z=>?_)⟩
    . obtain⟨_,_,_,_,s2⟩:=z
      exact SqT.of (s2 _ _ hc)
    . obtain⟨vt,rfl,hi,h2,s2⟩:=z
      obtain⟨kd,hk,Sk⟩:=zFZ al hx
      have hkm:=zc hk
      have hil:=(zJ.mp hk).1
      have hf:=zEl hk
      have hkl:=zCj hkm
      have hkh:=zDG hkm
      have hlen:(zA7 (ks.take (i+1))).length<=(zA7 ks).length:=zFz ks (i+1)
      rw[hf,zH] at hlen
      rw[zH] at hl
      refine⟨_,rfl,.inl ⟨rfl,_,SqL.of h2⟩,_,rfl,x,kd,rfl,zBF s2 Sk,by omega,by omega,fun l H3 s3 h3=>?_⟩
      refine⟨D,l,_,_,rfl,rfl,s3 _ _ h2,h3,?_,?_⟩
      . rw[zC,zC,zH]
        exact zBQ (zz (by omega))
      . exact⟨_,rfl,hil,by rw[hf,zI,<-ze,zBC],zA9 (s2.trans s3) hD⟩
    . obtain⟨vt,rfl,hi,h2,s2⟩:=z
      rw[hzl,zd (zG _)] at h2
      refine⟨_,rfl,D,_,rfl,.inl ⟨SqL.of h2,fun l hl'=>?_⟩⟩
      exact k l _ (s2.trans (zL hl')) zI
end
end K41
namespace K41
open PySem L2 WM
mutual
theorem zGl {x:Int}:∀(p:Pln){r:List Int},chO x p=some r->r.length<=(zBH p).length
 | .mk ps ks,r,h=>by
  rw[chO] at h
  rw[zBH,zH]
  split at h
  . cases h
    omega
  . rw[zBb] at h
    obtain⟨r',h1,rfl⟩:=h
    have:=zHN ks h1
    rw[zH]
    omega
theorem zHN {x:Int}:∀(ks:List Pln){r:List Int},zEn x ks=some r->r.length<=(zA7 ks).length
 | [],r,h=>by rw[zEn] at h;cases h
 | k::ks,r,h=>by
  rw[zEn] at h
  rw[zA7,zH]
  split at h
  . next r' e=>
    cases h
    have:=zGl k e
    omega
  . have:=zHN ks h
    omega
end
theorem zJO {x:Int}{ks:List Pln}{i:Nat}{k:Pln}(h:ks[i]? = some k):zEn x (ks.drop i)=match chO x k with | some r=>some r | none=>zEn x (ks.drop (i+1)):=by
 obtain⟨hi,e⟩:=zJ.mp h
 rw[List.drop_eq_getElem_cons hi,e,zEn]
 try (cases chO x k <;> rfl)
theorem zHI {k:Pln}:∀{ks:List Pln},k∈ks->zGj k<=zCk ks
 | [],h=>by cases h
 | j::ks,h=>by
  rw[zCk]
  rcases zW.mp h with rfl | h
  . omega
  . have:=zHI h
    omega
theorem zHJ:∀{ks:List Pln},ks≠[]->∃k∈ks,zGj k=zCk ks
 | [],h=>absurd rfl h
 | [k],_=>⟨k,zN,by rw[zCk,zCk];omega⟩
 | k::j::ks,_=>by
  obtain⟨m,hm,e⟩:=zHJ (ks:=j::ks) (by simp)
  by_cases c:zCk (j::ks)<=zGj k
  . exact⟨k,zN,by rw[zCk];omega⟩
  . exact⟨m,zO _ hm,by rw[zCk];omega⟩
mutual
noncomputable def zDf:Pln->Prop
 | .mk _ ks=>ks.length<=1000/\ks1 ks
noncomputable def ks1:List Pln->Prop
 | []=>True
 | k::ks=>zDf k/\ks1 ks
end
theorem zGc {k:Pln}:∀{ks:List Pln},ks1 ks->k∈ks->zDf k
 | [],_,h=>by cases h
 | j::ks,h,hm=>by
  rw[ks1] at h
  rcases zW.mp hm with rfl | hm
  . exact h.1
  . exact zGc h.2 hm
noncomputable def spCo (h:Nat):Sp:=fun vs H Q _=>∃(v:V)(p:Pln)(x:Int),vs=[v,.int x]/\zBa H v (plD p)/\hgt p<=h/\(zBH p).length<=1000/\(chO x p=none->∀H',zA3 H H'->Q .non H')/\(∀(r:List Int)(l:Addr)(H':Hp),chO x p=some r->zA3 H H'->H' l=some (.tup (r.map V.int))->Q (.ref l) H')
noncomputable def spCh (h:Nat):Sp:=fun vs H Q _=>∃(v:V)(p:Pln)(x:Int)(r:List Int),vs=[v,.int x]/\zBa H v (plD p)/\hgt p<=h/\(zBH p).length<64/\chO x p=some r/\(∀(ms:List Int)(l:Addr)(H':Hp),ms.Pairwise (· < ·)->(∀z,z∈ms↔z∈r)->zA3 H H'->H' l=some (.tup (ms.map V.int))->Q (.ref l) H')
noncomputable def spDe (h:Nat):Sp:=fun vs H Q _=>∃(v:V)(p:Pln),vs=[v]/\zBa H v (plD p)/\hgt p<=h/\(zBH p).length<=1000/\zDf p/\∀H',zA3 H H'->Q (.int (zGj p)) H'
section
variable {P:Program}{w:World}{K:PySem.W.Frag}{mg:Str->Option Value}{base:Heap}
theorem scCo:zAI ["plan", "place", "part", "rest"] ["plan", "place"] (defScope sCo):=⟨rfl,rfl,rfl,by decide +kernel,rfl,by decide +kernel,by decide +kernel⟩
theorem ok_co {f:Addr}{fd':FuncData}(F:Fun K "chain_or_none" "chain_or_none" sCo f fd') (bF:zAH K fd' ["plan", "place"] []) (mF:mg "chain_or_none" = some (.ref f)):∀h:Nat,zAa P w K mg base CX0 (h+1) f fd' ["plan", "place"] (spCo h)
 | 0=>F.ok scCo (fun vs H Q E h=>by obtain⟨v,p,x,rfl,_⟩:=h;rfl) (fun cdv A outer s H vs Q E hr h=>by
  obtain⟨v,⟨ps,ks⟩,x,rfl,_,h0,_⟩:=h
  rw[hgt] at h0
  omega)
 | h+1=>by
  have GP:=ok_co F bF mF h
  refine F.ok scCo (fun vs H Q E h=>?_) (fun cdv A outer s H vs Q E hr h=>?_)
  . obtain⟨v,p,x,rfl,_⟩:=h
    rfl
  . obtain⟨v,⟨ps,ks⟩,x,rfl,S,hh,hl,kn,ks'⟩:=h
    rw[hgt] at hh
    rw[zBH,zH] at hl
    rw[chO] at kn ks'
    obtain⟨a,b,c,zs,rfl,ha,hb,hc,al⟩:=zFj S
    have hzl:=zCT al
    rw[zCZ] at hzl
    refine⟨_,zZ (zCF (zAS zD4 (pv 1) (zAj zAp (pv 0) zm (fun _ _=>rfl)) (by with_unfolding_all rfl)) (zn (zAd (zAj zAp (pv 0) zm (fun _ _=>rfl)))) zBD)
     (zZ (zCJ PassesOwn.never rfl (zCf (zAj zAp (pv 0) zm (fun _ _=>rfl))) (zAP (i:=2) scCo.nd rfl (Or.inl rfl))
      (zZ (zAR (i:=3) scCo.nd rfl (Or.inl rfl) (zx GP hr rfl mF F.kp bF .nil zAk (zF (pv 2) (zF (pv 1) zR))))
      (zn (zCF (zAS zIi (pv 3) zCv (zAv _)) (zn (zAd (zBP zIl (zAj zAp (pv 0) zm (fun _ _=>rfl)) (pv 3)))) zBD))))
     (zn (zAd zCv))),?_⟩
    refine⟨_,rfl,_,rfl,_,_,_,_,rfl,rfl,SqT.of ha,rfl,b,_,rfl,.inr (SqT.of hb),rfl,zBk _,_,rfl,?_⟩
    show (if inV (.int x) (ps.map V.int)=true then _ else _)
    rw[zBm]
    by_cases cx:x∈ps
    . refine ifT (zM cx) ?_
      rw[if_pos cx] at ks'
      exact⟨_,rfl,_,_,_,_,rfl,rfl,SqT.of ha,rfl,ks' ps b H rfl (zA3.refl _) hb⟩
    . refine ifF (zV cx) ?_
      rw[if_neg cx] at kn ks'
      refine⟨_,rfl,_,_,_,_,rfl,rfl,SqT.of ha,rfl,c,rfl,⟨_,SqT.of hc⟩,zC5 (K:=K) (a:=c) (xs:=zs) (fun i σ H2=>∃v2 v3:Option V,σ=[some (.ref a),some (.int x),v2,v3]/\zEn x ks=zEn x (ks.drop i)/\zA3 H H2) ⟨none,none,rfl,rfl,zA3.refl _⟩ (fun i σ H2 _ z=>?_) (fun i y σ H2 hy z=>?_) (fun σ H2 z=>?_)⟩
      . obtain⟨_,_,_,_,s2⟩:=z
        exact SqT.of (s2 _ _ hc)
      . obtain⟨v2,v3,rfl,hd,s2⟩:=z
        obtain⟨kd,hk,Sk⟩:=zFZ al hy
        have hkm:=zc hk
        have hkl:=zCj hkm
        have hkh:=zDG hkm
        rw[zJO hk] at hd
        refine⟨_,rfl,_,rfl,y,kd,x,rfl,zBF s2 Sk,by omega,by omega,fun e H3 s3=>?_,fun r l H3 e s3 h3=>?_⟩
        . rw[e] at hd
          refine⟨_,rfl,rfl,_,rfl,ifF rfl ?_⟩
          exact⟨_,_,rfl,hd,s2.trans s3⟩
        . rw[e] at hd
          have hrl:=zGl kd e
          have s23:=s2.trans s3
          refine⟨_,rfl,rfl,_,rfl,ifT rfl ?_⟩
          have ke:∀(l:Addr)(H':Hp),zA3 H H'->H' l=some (.tup ((ps++r).map V.int))->Q (.ref l) H':=fun l H' s' h'=>ks' (ps++r) l H' (by rw[hd];rfl) s' h'
          refine⟨_,rfl,_,_,_,_,rfl,rfl,SqT.of (s23 _ _ ha),rfl,_,rfl,b,l,ps.map V.int,r.map V.int,rfl,rfl,SqT.of (s23 _ _ hb),SqT.of h3,?_,fun e0=>?_,fun _ e0=>?_,fun _ _ p hp=>?_⟩
          . rw[zC,zC]
            exact zBQ (zz (by omega))
          . have:ps=[]:=zBW.mp e0
            subst this
            exact ke l H3 s23 h3
          . have:r=[]:=zBW.mp e0
            subst this
            exact ke b H3 s23 (by rw[zw];exact s23 _ _ hb)
          . exact ke p _ (s23.trans (zL hp)) (by rw[ze];exact zI)
      . obtain⟨v2,v3,rfl,hd,s2⟩:=z
        rw[hzl,List.drop_of_length_le (zG _),zEn] at hd
        exact kn (by rw[hd];rfl) _ s2
theorem scCh:zAI ["plan", "place"] ["plan", "place"] (defScope sCh):=⟨rfl,rfl,rfl,by decide +kernel,rfl,by decide +kernel,by decide +kernel⟩
theorem ok_ch {f fC:Addr}{fd' fdC:FuncData}{h:Nat}(F:Fun K "chain" "chain" sCh f fd') (FC:Fun K "chain_or_none" "chain_or_none" sCo fC fdC) (bC:zAH K fdC ["plan", "place"] []) (mC:mg "chain_or_none" = some (.ref fC)) (mTuple:mg "tuple" = none) (mSorted:mg "sorted" = none) (mSet:mg "set" = none):zAa P w K mg base CX0 (h+2) f fd' ["plan", "place"] (spCh h):=by
 have GC:zAa P w K mg base CX0 (h+1) fC fdC ["plan", "place"] (spCo h):=ok_co FC bC mC h
 refine F.ok scCh (fun vs H Q E h=>?_) (fun cdv A outer s H vs Q E hr h=>?_)
 . obtain⟨v,p,x,r,rfl,_⟩:=h
   rfl
 . obtain⟨v,p,x,r,rfl,S,hh,hl,hx,k⟩:=h
   refine⟨_,zn (zAd (zBi zA0 (by rfl) mTuple (by decide +kernel) (zF (zFm rfl rfl mSorted rfl mSet (zF (zx GC hr rfl mC FC.kp bC .nil zAk (zF (pv 0) (zF (pv 1) zR))) zR)) zR))),?_⟩
   refine⟨_,rfl,_,rfl,v,p,x,rfl,S,hh,by omega,(fun e=>by rw[hx] at e;cases e),fun r' l H1 e s1 h1=>?_⟩
   rw[hx] at e
   cases e
   have hrl:=zGl p hx
   refine⟨l,r,rfl,.inr (SqT.of h1),by omega,fun l2 ms hl2 hr2 hm2=>?_⟩
   refine⟨l2,_,rfl,.inl ⟨SqL.of zI,fun l3 hl3=>?_⟩⟩
   exact k ms l3 _ hr2 hm2 (s1.trans ((zL hl2).trans (zL hl3))) zI
theorem scDe:zAI ["plan"] ["plan"] (defScope sDe):=⟨rfl,rfl,rfl,by decide +kernel,rfl,by decide +kernel,by decide +kernel⟩
theorem ok_de {f:Addr}{fd':FuncData}(F:Fun K "deepest" "deepest" sDe f fd') (bF:zAH K fd' ["plan"] []) (mF:mg "deepest" = some (.ref f)) (mLen:mg "len" = none) (mMax:mg "max" = none):∀h:Nat,zAa P w K mg base CX0 (h+1) f fd' ["plan"] (spDe h)
 | 0=>F.ok scDe (fun vs H Q E h=>by obtain⟨v,p,rfl,_⟩:=h;rfl) (fun cdv A outer s H vs Q E hr h=>by
  obtain⟨v,⟨ps,ks⟩,rfl,_,h0,_⟩:=h
  rw[hgt] at h0
  omega)
 | h+1=>by
  have GP:=ok_de F bF mF mLen mMax h
  refine F.ok scDe (fun vs H Q E h=>?_) (fun cdv A outer s H vs Q E hr h=>?_)
  . obtain⟨v,p,rfl,_⟩:=h
    rfl
  . obtain⟨v,⟨ps,ks⟩,rfl,S,hh,hl,hk0,k⟩:=h
    rw[hgt] at hh
    rw[zBH,zH] at hl
    rw[zGj] at k
    rw[zDf] at hk0
    obtain⟨a,b,c,zs,rfl,ha,hb,hc,al⟩:=zFj S
    have hzl:=zCT al
    rw[zCZ] at hzl
    have hu:=zGe hr
    refine⟨_,zn (zAd (zBP zCh (zAD zAe (by rfl) mLen PySem.boot_len (zF (zAj zAp (pv 0) zm (fun _ _=>rfl)) zR))
     (zGW rfl hu rfl mMax (zF (zBq (own:=["part"]) (cn:=[]) (ci:=[]) rfl (csc rfl rfl) trivial rfl (zCf (zAj zAp (pv 0) zm (fun _ _=>rfl))) (fun _ _ _ _=>zAP (i:=0) (zCW rfl) rfl (Or.inl rfl)) (fun _ _ _ _=>zB2)
      (fun _ _ _ _=>zx GP hr rfl mF F.kp bF .nil zAk (zF (pv 0) zR))) zR) zm))),?_⟩
    refine⟨_,rfl,_,_,_,_,rfl,rfl,SqT.of ha,rfl,b,_,rfl,.inr (SqT.of hb),?_⟩
    refine⟨_,rfl,_,_,_,_,rfl,rfl,SqT.of ha,rfl,c,rfl,⟨_,SqT.of hc⟩,[],rfl,fun D hD=>?_⟩
    refine zDp (a:=c) (xs:=zs) (fun i ys H4=>ys=((ks.take i).map fun k=>(zGj k:Int)).map V.int/\zA3 H H4/\H4 D=some (.lst ys)) ⟨rfl,zL hD,zI⟩ (fun i ys H4 z=>?_) (fun i ys H4 z=>?_) (fun i y ys H4 hy z=>?_) (fun ys H4 z=>?_)
    . obtain⟨_,s4,_⟩:=z
      exact SqT.of (s4 _ _ hc)
    . obtain⟨rfl,_⟩:=z
      rw[zC,zC,zp]
      exact zz (by omega)
    . obtain⟨rfl,s4,h4⟩:=z
      obtain⟨kd,hk,Sk⟩:=zFZ al hy
      have hkm:=zc hk
      have hkl:=zCj hkm
      have hkh:=zDG hkm
      refine⟨⟨rfl,rfl⟩,?_⟩
      refine zHX ?_
      refine⟨_,rfl,y,kd,rfl,zBF s4 Sk,by omega,by omega,zGc hk0.2 hkm,fun H5 s5=>⟨s5 _ _ h4,?_,zA9 (s4.trans s5) hD,zI⟩⟩
      rw[zAA,hk,ze,ze];rfl
    . obtain⟨rfl,s4,h4⟩:=z
      rw[hzl,zd (zG _)] at h4
      refine⟨_,rfl,D,_,rfl,.inl (SqL.of h4),fun e0=>?_,fun n hn hm=>?_⟩
      . have:ks=[]:=zBW.mp e0
        subst this
        refine⟨_,_,rfl,rfl,?_⟩
        rw[zCk] at k
        have:=k _ s4
        rw[zC]
        exact this
      . refine⟨_,_,rfl,rfl,?_⟩
        obtain⟨kd,hkd,rfl⟩:=zAT.mp hn
        obtain⟨kx,hkx,ex⟩:=zHJ (ks:=ks) (fun z=>by subst z;cases hkd)
        have h1:=zHI hkd
        have h2:=hm (zGj kx:Int) (zAT.mpr ⟨kx,hkx,rfl⟩)
        have:=k _ s4
        rw[zC]
        rw[show (((ps.length+zCk ks:Nat)):Int)=(ps.length:Int)+(zGj kd:Int) by omega] at this
        exact this
end
mutual
theorem zGm {x:Int}:∀p:Pln,(chO x p).isSome=decide (x∈zBH p)
 | .mk ps ks=>by
  rw[chO,zBH]
  by_cases c:x∈ps
  . rw[if_pos c,zM (zQ.mpr (.inl c))]
    rfl
  . rw[if_neg c,Option.isSome_map,zHO ks]
    by_cases c2:x∈zA7 ks
    . rw[zM c2,zM (zQ.mpr (.inr c2))]
    . rw[zV c2,zV (fun z=>(zQ.mp z).elim c c2)]
theorem zHO {x:Int}:∀ks:List Pln,(zEn x ks).isSome=decide (x∈zA7 ks)
 | []=>by rw[zEn,zA7];simp
 | k::ks=>by
  have h1:=zGm (x:=x) k
  have h2:=zHO (x:=x) ks
  rw[zEn,zA7]
  cases e:chO x k with
  | some r=>
   rw[e] at h1
   have:x∈zBH k:=of_decide_eq_true h1.symm
   rw[zM (zQ.mpr (.inl this))]
   rfl
  | none=>
   rw[e] at h1
   have c:¬ x∈zBH k:=of_decide_eq_false h1.symm
   show (zEn x ks).isSome=_
   rw[h2]
   by_cases c2:x∈zA7 ks
   . rw[zM c2,zM (zQ.mpr (.inr c2))]
   . rw[zV c2,zV (fun z=>(zQ.mp z).elim c c2)]
end
theorem zJR {x:Int}{p:Pln}(h:x∈zBH p):∃r,chO x p=some r:=by
 have:=zGm (x:=x) p
 rw[zM h] at this
 exact zBn.mp this
theorem zLw {x:Int}{p:Pln}(h:¬ x∈zBH p):chO x p=none:=by
 have:=zGm (x:=x) p
 rw[zV h] at this
 cases e:chO x p with
 | none=>rfl
 | some r=>rw[e] at this;cases this
section
variable {X:Cx}{pl:List (Addr×Obj)}{N':List Str}{sc:Scope}{fp:List Addr}{s3:Shared}{H3:Hp}
theorem op_inC:OpR (zBo X pl N' sc fp s3 H3) (compareOp .In) (rIn X.K false):=zD4
end
end K41
namespace K41
open PySem L2 WM
theorem zAx (q:Nat):(lowTo q).length=q:=by unfold lowTo;rw[zC,zAW]
theorem zI5 (q:Nat):lowTo (q+1)=lowTo q++[(q:Int)]:=by unfold lowTo;rw[List.range_succ,ze];rfl
mutual
noncomputable def zKn:Pln->Prop
 | .mk ps ks=>ps≠[]/\zGf ks
noncomputable def zGf:List Pln->Prop
 | []=>True
 | k::ks=>zKn k/\zGf ks
end
theorem zFy {k:Pln}:∀{ks:List Pln},zGf ks->k∈ks->zKn k
 | [],_,h=>by cases h
 | j::ks,h,hm=>by
  rw[zGf] at h
  rcases zW.mp hm with rfl | hm
  . exact h.1
  . exact zFy h.2 hm
mutual
theorem zLu {x:Int}:∀(p:Pln){r:List Int},chO x p=some r->r.Sublist (zBH p)/\x∈r/\r.length<=zGj p
 | .mk ps ks,r,h=>by
  rw[chO] at h
  rw[zBH,zGj]
  split at h
  . next c=>
    cases h
    exact⟨List.sublist_append_left _ _,c,by omega⟩
  . rw[zBb] at h
    obtain⟨r',h1,rfl⟩:=h
    obtain⟨a,b,c⟩:=zHM ks h1
    exact⟨a.append_left ps,zQ.mpr (.inr b),by rw[zH];omega⟩
theorem zHM {x:Int}:∀(ks:List Pln){r:List Int},zEn x ks=some r->r.Sublist (zA7 ks)/\x∈r/\r.length<=zCk ks
 | [],r,h=>by rw[zEn] at h;cases h
 | k::ks,r,h=>by
  rw[zEn] at h
  rw[zA7,zCk]
  split at h
  . next r' e=>
    cases h
    obtain⟨a,b,c⟩:=zLu k e
    exact⟨a.trans (List.sublist_append_left _ _),b,by omega⟩
  . obtain⟨a,b,c⟩:=zHM ks h
    exact⟨a.trans (List.sublist_append_right _ _),b,by omega⟩
end
theorem zDH {k:Pln}{x:Int}(hx:x∈zBH k):∀{ks:List Pln},k∈ks->x∈zA7 ks
 | [],h=>by cases h
 | j::ks,h=>by
  rw[zA7]
  rcases zW.mp h with rfl | h
  . exact zQ.mpr (.inl hx)
  . exact zQ.mpr (.inr (zDH hx h))
theorem zJP {k:Pln}{x:Int}(hx:x∈zBH k):∀{ks:List Pln},(zA7 ks).Nodup->k∈ks->zEn x ks=chO x k
 | [],_,h=>by cases h
 | j::ks,nd,h=>by
  rw[zA7,zA2] at nd
  rw[zEn]
  by_cases c:x∈zBH j
  . rcases zW.mp h with rfl | h
    . obtain⟨r,hr⟩:=zJR c
      rw[hr]
    . exact absurd rfl (nd.2.2 x c x (zDH hx h))
  . rw[zLw c]
    rcases zW.mp h with rfl | h
    . exact absurd hx c
    . exact zJP hx nd.2.1 h
theorem zEw {H:Hp}:∀l:List Int,zAt H (l.map V.int) (l.map PyData.int)
 | []=>.nil
 | _::r=>.cons (.int _) (zEw r)
mutual
theorem zGV {H H':Hp}(k:∀b ys,H b=some (.tup ys)->H' b=some (.tup ys)):∀(q:Pln){v:V},zBa H v (plD q)->zBa H' v (plD q)
 | .mk ps ks,v,S=>by
  obtain⟨a,b,c,zs,rfl,ha,hb,hc,al⟩:=zFj S
  rw[plD]
  exact .tup (k _ _ ha) (.cons (.tup (k _ _ hb) (zEw _)) (.cons (.tup (k _ _ hc) (zCK k ks al)) .nil))
theorem zCK {H H':Hp}(k:∀b ys,H b=some (.tup ys)->H' b=some (.tup ys)):∀(ks:List Pln){zs:List V},zAt H zs (zC0 ks)->zAt H' zs (zC0 ks)
 | [],zs,S=>by
  rw[zC0] at S ⊢
  cases S
  exact .nil
 | q::ks,zs,S=>by
  rw[zC0] at S ⊢
  cases S with
  | cons a b=>exact .cons (zGV k q a) (zCK k ks b)
end
theorem zE8:∀ks js:List Pln,zC0 (ks++js)=zC0 ks++zC0 js
 | [],_=>rfl
 | k::ks,js=>by rw[List.cons_append,zC0,zC0,zE8 ks js];rfl
theorem zJK (xs:List V)(m:Nat):zFO xs none (some (m:Int))=xs.take m:=by
 unfold zFO
 rw[HT.sIx_none,HT.sIx_nat,List.drop_zero,Nat.sub_zero]
 by_cases h:m<=xs.length
 . rw[Nat.min_eq_left h]
 . rw[Nat.min_eq_right (by omega),zd (zG _),zd (by omega)]
end K41
namespace K41
open PySem L2 WM
theorem zIp {α:Type}{l k:List α}(h:(l++k).Nodup){x:α}(h1:x∈l)(h2:x∈k):False:=(zA2.mp h).2.2 x h1 x h2 rfl
theorem zHG {x:Int}:∀{ks:List Pln},x∈zA7 ks->∃k∈ks,x∈zBH k
 | [],h=>by rw[zA7] at h;cases h
 | k::ks,h=>by
  rw[zA7] at h
  rcases zQ.mp h with h | h
  . exact⟨k,zN,h⟩
  . obtain⟨j,h1,h2⟩:=zHG h
    exact⟨j,zO _ h1,h2⟩
theorem zLv {ps:List Int}{ks:List Pln}{x:Int}(h:x∈ps):chO x (.mk ps ks)=some ps:=by rw[chO,if_pos h]
theorem zJQ {ps:List Int}{ks:List Pln}{k:Pln}{x:Int}(nd:(zBH (.mk ps ks)).Nodup)(hk:k∈ks)(hx:x∈zBH k):chO x (.mk ps ks)=(chO x k).map (ps ++ ·):=by
 rw[zBH] at nd
 rw[chO,if_neg fun z=>zIp nd z (zDH hx hk),zJP hx (zA2.mp nd).2.1 hk]
noncomputable def zLy (ts:List T3)(p:Pln):Prop:=∀a b l,Adj ts a b l->a∈zBH p->b∈zBH p->(∃r,chO b p=some r/\a∈r)\/∃r,chO a p=some r/\b∈r
structure LetP (n:Int)(ts:List T3)(p:Pln):Prop where
 nd:(zBH p).Nodup
 rng:∀x∈zBH p,0<=x/\x<n
 all:∀x,0<=x->x<n->x∈zBH p
 tie:zLy ts p
section
variable {X:Cx}
end
theorem zA3.none {H H':Hp}{r:Addr}(s:zA3 H H')(h:H' r=none):H r=none:=by
 cases z:H r with
 | none=>rfl
 | some u=>have y:=(s _ _ z).symm.trans h;cases y
theorem zLN {X:Cx}{st:Stmt}{u u':TS}(h:PS X st u)(m:∀D σ H,u' D σ H->u D σ H):PS X st u':=fun pins s σ H D I q=>h pins s σ H D I (m D σ H q)
theorem zFh {X:Cx}{st:List Stmt}:PSs X st (fun _ _ _=>False):=fun _ _ _ _ _ _ h=>h.elim
theorem upd_3 {H:Hp}{dx e:Addr}{o1 o2 x:HO}(n:dx≠e):upd (upd (upd H dx o1) e x) dx o2=upd (upd H dx o2) e x:=by
 funext b
 by_cases h1:b=dx
 . subst h1;rw[zI,zY n,zI]
 . by_cases h2:b=e
   . subst h2;rw[zY h1,zI,zI]
   . rw[zY h1,zY h2,zY h1,zY h2,zY h1]
section
variable {P:Program}{w:World}{K:PySem.W.Frag}{mg:Str->Option Value}{base:Heap}
theorem scI1:zAI ["self", "word", "at"] ["self", "word", "at"] (defScope sI1):=⟨rfl,rfl,rfl,by decide +kernel,rfl,by decide +kernel,by decide +kernel⟩
theorem ok_I1 {C f:Addr}{fd':FuncData}(F:Fun K "__init__" "NoPlan.__init__" sI1 f fd') (EI:zHT K C f)(mo:PySem.W.mroIn K C (.type "object")=some true) (n1:PySem.W.findIn K (.ref C) "word" = some none) (n2:PySem.W.findIn K (.ref C) "at" = some none):zAa P w K mg base CX0 1 f fd' ["self", "word", "at"] (spXI C "word" "at"):=by
 refine F.ok scI1 (fun vs H Q E h=>?_) (fun cdv A outer s H vs Q E hr h=>?_)
 . obtain⟨e,t,v1,v2,rfl,_⟩:=h
   rfl
 . obtain⟨e,t,v1,v2,rfl,he,k⟩:=h
   refine⟨_,zZ (zIa EI mo n1 (pv 0) (pv 1)) (zn (zIa EI mo n2 (pv 0) (pv 2))),?_⟩
   refine⟨_,rfl,_,rfl,e,t,rfl,.inl ⟨he,fun dx hdx=>?_⟩⟩
   have ne:dx≠e:=fun z=>by rw[z,he] at hdx;cases hdx
   refine⟨_,rfl,_,rfl,e,t,rfl,.inr ⟨dx,_,zI,by rw[zY ne,zI],by show 1<900;decide,?_⟩⟩
   show Q _ _
   rw[upd_3 ne]
   exact k dx hdx ne
end
noncomputable def plB:Nat->Pln->Bool
 | 0,_=>false
 | m+1,.mk ps ks=>zH5 ps && ks.all (plB m)
structure PlG (p:Pln):Prop where
 gd:zKn p
 nn:∀x∈zBH p,0<=x
 ln:(zBH p).length<64
 k1:zDf p
theorem PlG.kid {ps:List Int}{ks:List Pln}{k:Pln}(g:PlG (.mk ps ks))(h:k∈ks):PlG k:=by
 obtain⟨a,b,c,d⟩:=g
 rw[zKn] at a
 rw[zBH] at b c
 rw[zDf] at d
 rw[zH] at c
 exact⟨zFy a.2 h,fun x hx=>b x (zQ.mpr (.inr (zDH hx h))),by have:=zCj h;omega,zGc d.2 h⟩
noncomputable def spPp:Sp:=fun vs H Q _=>∃(p:Addr)(ps:List Int),vs=[.ref p]/\H p=some (.tup (ps.map V.int))/\ps≠[]/\(∀x∈ps,0<=x)/\ps.length<64/\∀H',zA3 H H'->Q (.bl (zH5 ps)) H'
noncomputable def spPw (m:Nat):Sp:=fun vs H Q _=>∃(v:V)(p:Pln),vs=[v,.int m]/\zBa H v (plD p)/\PlG p/\∀H',zA3 H H'->Q (.bl (plB m p)) H'
noncomputable def spIp:Sp:=fun vs H Q _=>∃(v:V)(p:Pln),vs=[v]/\zBa H v (plD p)/\PlG p/\∀H',zA3 H H'->Q (.bl (plB 24 p)) H'
section
variable {P:Program}{w:World}{K:PySem.W.Frag}{mg:Str->Option Value}{base:Heap}
theorem scPp:zAI ["thing"] ["thing"] (defScope sPp):=⟨rfl,rfl,rfl,by decide +kernel,rfl,by decide +kernel,by decide +kernel⟩
theorem ok_pp {f fN fR:Addr}{fd' fdN fdR:FuncData}(F:Fun K "are_plan_places" "are_plan_places" sPp f fd') (FN:Fun K "is_number" "is_number" sNum fN fdN) (bN:zAH K fdN ["thing"] []) (mN:mg "is_number" = some (.ref fN))
 (FR:Fun K "is_rising" "is_rising" sRis fR fdR) (bR:zAH K fdR ["things"] []) (mR:mg "is_rising" = some (.ref fR)) (mIsi:mg "isinstance" = none) (mInt:mg "int" = none) (mBool:mg "bool" = none) (mTuple:mg "tuple" = none) (mLen:mg "len" = none) (mRange:mg "range" = none) (mAll:mg "all" = none):zAa P w K mg base CX0 2 f fd' ["thing"] spPp:=by
 have GN:zAa P w K mg base CX0 1 fN fdN ["thing"] zLC:=zKi FN mIsi mInt mBool
 have GR:zAa P w K mg base CX0 1 fR fdR ["things"] spRis:=ok_ris FR mLen mRange mAll
 refine F.ok scPp (fun vs H Q E h=>?_) (fun cdv A outer s H vs Q E hr h=>?_)
 . obtain⟨p,ps,rfl,_⟩:=h
   rfl
 . obtain⟨p,ps,rfl,hp,hne,nn,hl,k⟩:=h
   refine⟨_,zZ (zCF (PW.pt (zE2 (zCt (zCb (zAD zB6 (by rfl) mIsi (by decide +kernel) (zF (pv 0) (zF (zD0 (T := "tuple") (by rfl) mTuple (by decide +kernel)) zR))))) (zDw (zAS zD6 (zAD zAe (by rfl) mLen PySem.boot_len (zF (pv 0) zR)) zm (zAv _))))) zFh zBD)
    (zn (zAd (zCw (zAD (zFL rfl) (by rfl) mAll (by decide +kernel) (zF (zBq (own:=["place"]) (cn:=[]) (ci:=[]) rfl (csc rfl rfl) trivial rfl (zCf (pv 0)) (fun _ _ _ _=>zAP (i:=0) (zCW rfl) rfl (Or.inl rfl))
     (fun _ _ _ _=>zB2) (fun _ _ _ _=>zCw (zx GN hr rfl mN FN.kp bN .nil zAk (zF (pv 0) zR)) (zCu (zCC op_ge (pv 0) zm (zAv _))))) zR))
     (zCu (zx GR hr rfl mR FR.kp bR .nil zAk (zF (pv 0) zR)))))),?_⟩
   refine⟨_,rfl,_,_,_,true,rfl,.tup hp,rfl,true,rfl,zDY ?_⟩
   refine⟨_,rfl,p,_,rfl,.inr (SqT.of hp),rfl,_,rfl,ifF (zV fun z=>?_) ?_⟩
   . have z:=V.int.inj z
     rw[zC] at z
     exact hne (zAJ.mp (by omega))
   refine⟨_,rfl,p,rfl,⟨_,SqT.of hp⟩,[],rfl,fun D hD=>?_⟩
   refine zDp (a:=p) (xs:=ps.map V.int) (fun i ys H4=>i<=ps.length/\ys=(List.replicate i true).map V.bl/\H4=upd H D (.lst ys)) ⟨zk _,rfl,rfl⟩ (fun i ys H4 h=>?_) (fun i ys H4 h=>?_) (fun i v ys H4 hv h=>?_) (fun ys H4 h=>?_)
   . obtain⟨_,_,rfl⟩:=h
     exact SqT.of (by rw[zY (zg hp hD)];exact hp)
   . obtain⟨hi,rfl,_⟩:=h
     rw[zC,zBg]
     exact zz (by omega)
   . obtain⟨_,rfl,rfl⟩:=h
     obtain⟨x,hx,rfl⟩:∃x,ps[i]? = some x/\V.int x=v:=by
      rw[zT] at hv
      cases e:ps[i]? with
      | none=>rw[e] at hv;cases hv
      | some x=>rw[e] at hv;exact⟨x,rfl,za hv⟩
     have x0:=nn x (zc hx)
     refine⟨⟨rfl,rfl⟩,?_⟩
     refine zHX ?_
     refine⟨_,rfl,x,rfl,true,rfl,zC3 ?_⟩
     refine⟨_,rfl,_,_,rfl,rfl,?_⟩
     dsimp only
     rw[zM x0]
     refine⟨zI,(zJ.mp hx).1,?_,zCA⟩
     rw[List.replicate_succ',ze];rfl
   . obtain⟨_,rfl,rfl⟩:=h
     refine⟨D,List.replicate (ps.map V.int).length true,rfl,SqL.of zI,?_⟩
     have hall:(List.replicate (ps.map V.int).length true).all id=true:=List.all_eq_true.mpr fun b hb=>(List.mem_replicate.mp hb).2
     rw[hall]
     refine⟨true,rfl,zC3 ?_⟩
     have s1:=zL (o:=.lst ((List.replicate (ps.map V.int).length true).map V.bl)) hD
     exact⟨_,rfl,p,ps,rfl,s1 _ _ hp,by omega,fun H' s'=>k H' (s1.trans s')⟩
theorem scPw:zAI ["thing", "most"] ["thing", "most"] (defScope sPw):=⟨rfl,rfl,rfl,by decide +kernel,rfl,by decide +kernel,by decide +kernel⟩
theorem ok_pw {f fT fA:Addr}{fd' fdT fdA:FuncData}(F:Fun K "is_plan_within" "is_plan_within" sPw f fd') (bF:zAH K fd' ["thing", "most"] []) (mF:mg "is_plan_within" = some (.ref f)) (FT:Fun K "is_tuple_of" "is_tuple_of" sTof fT fdT) (bT:zAH K fdT ["thing", "count"] []) (mT:mg "is_tuple_of" = some (.ref fT))
 (FA:Fun K "are_plan_places" "are_plan_places" sPp fA fdA) (bA:zAH K fdA ["thing"] []) (mA:mg "are_plan_places" = some (.ref fA)) (GT:∀m,zAa P w K mg base CX0 (m+2) fT fdT ["thing", "count"] zLA) (GA:∀m,zAa P w K mg base CX0 (m+2) fA fdA ["thing"] spPp)
 (mIsi:mg "isinstance" = none) (mTuple:mg "tuple" = none) (mAll:mg "all" = none):∀m:Nat,zAa P w K mg base CX0 (m+3) f fd' ["thing", "most"] (spPw m)
 | 0=>by
  refine F.ok scPw (fun vs H Q E h=>?_) (fun cdv A outer s H vs Q E hr h=>?_)
  . obtain⟨v,p,rfl,_⟩:=h
    rfl
  . obtain⟨v,p,rfl,S,g,k⟩:=h
    refine⟨_,zZ (zCF (PW.pt (zE2 (zAS zD6 (pv 1) zm (zAv _)) (zE2 (zCt (zCb (zx (GT 0) hr rfl mT FT.kp bT .nil zAk (zF (pv 0) (zF zm zR))))) (zDw (zCt (zCb (zAD zB6 (by rfl) mIsi (by decide +kernel) (zF (zAj zAp (pv 0) zm (fun _ _=>rfl)) (zF (zD0 (T := "tuple") (by rfl) mTuple (by decide +kernel)) zR))))))))) (zn (zAd zIg)) zBD) zFh,?_⟩
    exact⟨_,rfl,rfl,_,rfl,zC3 (zC3 (k H (zA3.refl _)))⟩
 | m+1=>by
  have GW:=ok_pw F bF mF FT bT mT FA bA mA GT GA mIsi mTuple mAll m
  refine F.ok scPw (fun vs H Q E h=>?_) (fun cdv A outer s H vs Q E hr h=>?_)
  . obtain⟨v,p,rfl,_⟩:=h
    rfl
  . obtain⟨v,⟨ps,ks⟩,rfl,S,g,k⟩:=h
    obtain⟨a,b,c,zs,rfl,ha,hb,hc,al⟩:=zFj S
    have hzl:=zCT al
    rw[zCZ] at hzl
    obtain⟨gd,nn,ln,k1⟩:=id g
    rw[zKn] at gd
    rw[zBH] at nn ln
    rw[zDf] at k1
    rw[zH] at ln
    refine⟨_,zZ (zCF (PW.pt (zE2 (zAS zD6 (pv 1) zm (zAv _)) (zE2 (zCt (zCb (zx (GT (m+1)) hr rfl mT FT.kp bT .nil zAk (zF (pv 0) (zF zm zR))))) (zDw (zCt (zCb (zAD zB6 (by rfl) mIsi (by decide +kernel) (zF (zAj zAp (pv 0) zm (fun _ _=>rfl)) (zF (zD0 (T := "tuple") (by rfl) mTuple (by decide +kernel)) zR))))))))) zFh zBD)
     (zn (zAd (zCw (zx (GA (m+1)) hr rfl mA FA.kp bA .nil zAk (zF (zAj zAp (pv 0) zm (fun _ _=>rfl)) zR))
      (zCu (zAD (zFL rfl) (by rfl) mAll (by decide +kernel) (zF (zBq (own:=["plan"]) (cn:=["most"]) (ci:=[1]) rfl (csc rfl rfl) ⟨rfl,rfl,rfl,trivial⟩ rfl (zCf (zAj zAp (pv 0) zm (fun _ _=>rfl))) (fun _ _ _ _=>zAP (i:=0) (zCW rfl) rfl (Or.inl rfl))
       (fun _ _ _ _=>zB2) (fun _ _ _ _=>zx GW hr rfl mF F.kp bF .nil zAk (zF (pv 0) (zF (zBP zD2 (pv 1) zm) zR)))) zR)))))),?_⟩
    refine⟨_,rfl,rfl,_,rfl,ifF (zV fun z=>?_) ?_⟩
    . have z:=V.int.inj z
      omega
    refine⟨_,rfl,a,[.ref b,.ref c],rfl,ha,true,rfl,zDY ?_⟩
    refine⟨_,rfl,a,_,_,.ref c,rfl,rfl,SqT.of ha,rfl,_,_,_,true,rfl,.tup hc,rfl,true,rfl,zDY ?_⟩
    refine⟨_,rfl,a,_,_,.ref b,rfl,rfl,SqT.of ha,rfl,b,ps,rfl,hb,gd.1,fun x hx=>nn x (zQ.mpr (.inl hx)),by omega,fun H1 s1=>?_⟩
    rw[plB] at k
    refine⟨_,rfl,?_⟩
    cases cr:zH5 ps with
    | false=>
     rw[cr] at k
     exact zDY (k H1 s1)
    | true=>
     rw[cr,Bool.true_and] at k
     refine zC3 ?_
     refine⟨_,rfl,a,_,_,.ref c,rfl,rfl,SqT.of (s1 _ _ ha),rfl,c,rfl,⟨_,SqT.of (s1 _ _ hc)⟩,[.int ((m+1:Nat):Int)],rfl,fun D hD=>?_⟩
     have hc1:=s1 _ _ hc
     refine zDp (a:=c) (xs:=zs) (fun i ys H4=>i<=ks.length/\ys=((ks.take i).map (plB m)).map V.bl/\zA3 H1 H4/\H4 D=some (.lst ys)) ⟨zk _,rfl,zL hD,zI⟩ (fun i ys H4 h=>?_) (fun i ys H4 h=>?_) (fun i v ys H4 hv h=>?_) (fun ys H4 h=>?_)
     . obtain⟨_,_,s4,_⟩:=h
       exact SqT.of (s4 _ _ hc1)
     . obtain⟨hi,rfl,_⟩:=h
       rw[zC,zC,zp]
       have:=k1.1
       exact zz (by omega)
     . obtain⟨_,rfl,s4,h4⟩:=h
       obtain⟨kd,hk,Sk⟩:=zFZ al hv
       refine⟨⟨rfl,rfl⟩,?_⟩
       refine zHX ?_
       refine⟨_,rfl,_,rfl,_,_,rfl,rfl,v,kd,?_,zBF (s1.trans s4) Sk,g.kid (zc hk),fun H5 s5=>?_⟩
       . show [v,V.int (((m+1:Nat):Int)-1)]=_
         rw[show ((m+1:Nat):Int)-1=(m:Int) by omega]
       refine⟨s5 _ _ h4,(zJ.mp hk).1,?_,zA9 (s4.trans s5) hD,zI⟩
       rw[zAA,hk,ze,ze];rfl
     . obtain⟨_,rfl,s4,h4⟩:=h
       rw[hzl,zd (zG _)] at h4
       refine⟨D,ks.map (plB m),rfl,SqL.of h4,?_⟩
       have e:(ks.map (plB m)).all id=ks.all (plB m):=by rw[List.all_map];rfl
       rw[e]
       exact k H4 (s1.trans s4)
theorem scIp:zAI ["thing"] ["thing"] (defScope sIp):=⟨rfl,rfl,rfl,by decide +kernel,rfl,by decide +kernel,by decide +kernel⟩
theorem ok_ip {f fW:Addr}{fd' fdW:FuncData}{tk:Tok}(F:Fun K "is_plan" "is_plan" sIp f fd') (FW:Fun K "is_plan_within" "is_plan_within" sPw fW fdW) (bW:zAH K fdW ["thing", "most"] []) (mW:mg "is_plan_within" = some (.ref fW)) (GW:zAa P w K mg base CX0 27 fW fdW ["thing", "most"] (spPw 24)) (mMW:mg "MOST_WITHIN" = some (.int 24 tk)):zAa P w K mg base CX0 28 f fd' ["thing"] spIp:=by
 refine F.ok scIp (fun vs H Q E h=>?_) (fun cdv A outer s H vs Q E hr h=>?_)
 . obtain⟨v,p,rfl,_⟩:=h
   rfl
 . obtain⟨v,p,rfl,S,g,k⟩:=h
   refine⟨_,zn (zAd (zx GW hr rfl mW FW.kp bW .nil zAk (zF (pv 0) (zF (zB4 (v:=.int 24) rfl mMW ⟨tk,rfl⟩) zR)))),?_⟩
   exact⟨_,rfl,v,p,rfl,S,g,k⟩
end
mutual
noncomputable def zIV:Pln->Prop
 | .mk ps ks=>ps.Pairwise (· < ·)/\zFg ks
noncomputable def zFg:List Pln->Prop
 | []=>True
 | k::ks=>zIV k/\zFg ks
end
theorem zEd {k:Pln}:∀{ks:List Pln},zFg ks->k∈ks->zIV k
 | [],_,h=>by cases h
 | j::ks,h,hm=>by
  rw[zFg] at h
  rcases zW.mp hm with rfl | hm
  . exact h.1
  . exact zEd h.2 hm
theorem zKg:∀(m:Nat)(p:Pln),hgt p<=m->zIV p->plB m p=true
 | 0,.mk ps ks,h,_=>by rw[hgt] at h;omega
 | m+1,.mk ps ks,h,r=>by
  rw[hgt] at h
  rw[zIV] at r
  rw[plB,(zG3 ps).mpr r.1,Bool.true_and,List.all_eq_true]
  intro k hk
  have:=zDG hk
  exact zKg m k (by omega) (zEd r.2 hk)
end K41
namespace K41
open PySem L2 WM
noncomputable def Bad (n:Int)(fl:List Int)(i:Nat)(x:Int):Prop:=x∈fl.take i\/¬ (0<=x/\x<n)
theorem zLd:∀{fl:List Int},(∀(i:Nat)(x:Int),fl[i]? = some x->x∉fl.take i)->fl.Nodup:=fun {fl} h=>by
 rw[zA6,zr]
 intro i j hi hj hij e
 refine h j fl[j] (zD hj) ?_
 rw[<-e]
 have:i<(fl.take j).length:=by rw[zp];omega
 have e2:(fl.take j)[i]=fl[i]:=List.getElem_take
 exact e2 ▸ zAy this
theorem zK2 {fl:List Int}(nd:fl.Nodup){i:Nat}{x:Int}(h:fl[i]? = some x):x∉fl.take i:=fun z=>by
 obtain⟨j,hj,e⟩:=zAC z
 rw[zp] at hj
 rw[List.getElem_take] at e
 obtain⟨hi,ei⟩:=zJ.mp h
 exact zr.mp (zA6.mp nd) j i (by omega) hi (by omega) (by rw[e,ei])
noncomputable def NoBad (n:Int)(fl:List Int):Prop:=∀(i:Nat)(x:Int),fl[i]? = some x->¬ Bad n fl i x
theorem zFp {n:Int}{fl:List Int}:NoBad n fl↔fl.Nodup/\∀x∈fl,0<=x/\x<n:=by
 constructor
 . intro h
   refine⟨zLd fun i x hx z=>h i x hx (.inl z),fun x hx=>?_⟩
   obtain⟨i,hi,e⟩:=zAC hx
   exact zt fun z=>h i x (by rw[zD hi,e]) (.inr z)
 . rintro ⟨nd,rng⟩ i x hx (z | z)
   . exact zK2 nd hx z
   . exact z (rng x (zc hx))
noncomputable def spPlB:Sp:=fun vs H Q _=>∃n i:Int,vs=[.int n,.int i]/\Q (.bl (decide (0<=i/\i<n))) H
noncomputable def spPf (h:Nat):Sp:=fun vs H Q _=>∃(wa ta:Addr)(v:V)(n:Int)(p:Pln),vs=[.ref wa,v]/\H wa=some (.tup [.int n,.ref ta])/\zBa H v (plD p)/\hgt p<=h/\(zBH p).length<=1000 /\
 (NoBad n (zBH p)->∀H',zA3 H H'->Q .non H')/\∀(i:Nat)(x:Int)(H':Hp),(zBH p)[i]? = some x->Bad n (zBH p) i x->(∀(j:Nat)(y:Int),j<i->(zBH p)[j]? = some y->¬ Bad n (zBH p) j y)->zA3 H H'->Q (.int x) H'
noncomputable def spLk (h:Nat):Sp:=fun vs H Q _=>∃(wa ta:Addr)(v:V)(n:Int)(p:Pln),vs=[.ref wa,v]/\H wa=some (.tup [.int n,.ref ta])/\0<=n/\n<=24/\zBa H v (plD p)/\hgt p<=h/\(zBH p).length<=1000 /\
 ((∀x,0<=x->x<n->x∈zBH p)->∀H',zA3 H H'->Q .non H')/\∀(x:Int)(H':Hp),0<=x->x<n->x∉zBH p->(∀y,0<=y->y<n->y∉zBH p->x<=y)->zA3 H H'->Q (.int x) H'
noncomputable def zLz (p:Pln)(a b:Int):Prop:=(∃r,chO b p=some r/\a∈r)\/∃r,chO a p=some r/\b∈r
noncomputable def spTf (h:Nat):Sp:=fun vs H Q _=>∃(wa:Addr)(v:V)(n:Int)(ts:List T3)(p:Pln),vs=[.ref wa,v]/\zBU H wa n ts/\zBa H v (plD p)/\hgt p<=h/\(zBH p).length<64/\(∀x,0<=x->x<n->x∈zBH p) /\
 ((∀a b l,(a,b,l)∈ts->zLz p a b)->∀H',zA3 H H'->Q .non H')/\∀(i:Nat)(a b l:Int)(q:Addr)(H':Hp),ts[i]? = some (a,b,l)->¬ zLz p a b->(∀(j:Nat)(a' b' l':Int),j<i->ts[j]? = some (a',b',l')->zLz p a' b')->zA3 H H'->H' q=some (.tup [.int a,.int b])->Q (.ref q) H'
noncomputable def zID (C:Addr):Sp:=fun vs H Q E=>∃(x:Str)(v:V),vs=[.str x,v]/\(v = .non->Q .non H)/\(v ≠ .non->∀tt dx,H tt=none->H dx=none->tt≠dx->E (.ref C) (some dx) (upd (upd H tt (.tup [.str x,v])) dx (dO dx [("word",.str x),("at",v)])))
noncomputable def zIH (C:Addr)(h:Nat):Sp:=fun vs H Q E=>∃(wa:Addr)(v:V)(n:Int)(ts:List T3)(p:Pln),vs=[.ref wa,v]/\zBU H wa n ts/\zBa H v (plD p)/\PlG p/\hgt p<=h /\
 (plB 24 p=true->LetP n ts p->∀H',zA3 H H'->Q (.bl true) H')/\(¬ (plB 24 p=true/\LetP n ts p)->∀od H',zA3 H H'->E (.ref C) od H')
theorem zK1 {ts:List T3}{p:Pln}(h:∀a b l,(a,b,l)∈ts->zLz p a b):zLy ts p:=fun a b l A _ _=>by
 rcases A with A | A
 . exact h a b l A
 . exact (h b a l A).symm
section
variable {P:Program}{w:World}{K:PySem.W.Frag}{mg:Str->Option Value}{base:Heap}
theorem ok_plB {f fW fN:Addr}{fd' fdW fdN:FuncData}(F:Fun K "is_place" "is_place" sPl f fd') (FW:Fun K "is_within" "is_within" sWi fW fdW) (bW:zAH K fdW ["thing", "least", "most"] []) (mW:mg "is_within" = some (.ref fW)) (FN:Fun K "is_number" "is_number" sNum fN fdN) (bN:zAH K fdN ["thing"] []) (mN:mg "is_number" = some (.ref fN)) (mIsi:mg "isinstance" = none) (mInt:mg "int" = none) (mBool:mg "bool" = none) :
 zAa P w K mg base CX0 3 f fd' ["n", "thing"] spPlB:=by
 have GN:zAa P w K mg base CX0 1 fN fdN ["thing"] zLC:=zKi FN mIsi mInt mBool
 have GW':zAa P w K mg base CX0 2 fW fdW ["thing", "least", "most"] (fun vs H Q _=>∃i a b:Int,vs=[.int i,.int a,.int b]/\Q (.bl (decide (a<=i/\i<=b))) H):=by
  refine FW.ok scWi (fun vs H Q E h=>?_) (fun cdv A outer s H vs Q E hr h=>?_)
  . obtain⟨i,a,b,rfl,_⟩:=h
    rfl
  . obtain⟨i,a,b,rfl,k⟩:=h
    refine⟨_,zn (zAd (zCw (zx GN hr rfl mN FN.kp bN .nil zAk (zF (pv 0) zR)) (zCw (zCC zLU (pv 1) (pv 0) (zAv _)) (zCu (zCC zLU (pv 0) (pv 2) (zAv _)))))),?_⟩
    refine⟨_,rfl,i,rfl,true,rfl,zC3 ?_⟩
    refine⟨_,rfl,_,rfl,_,_,rfl,rfl,_,rfl,zGK (fun c=>?_) (fun c=>?_)⟩
    . have c:=of_decide_eq_true c
      refine⟨_,rfl,_,rfl,_,_,rfl,rfl,?_⟩
      have e:decide (i<=b)=decide (a<=i/\i<=b):=decide_eq_decide.mpr ⟨fun z=>⟨c,z⟩,fun z=>z.2⟩
      dsimp only
      rw[e]
      exact k
    . have e:decide (a<=i/\i<=b)=decide (a<=i):=decide_eq_decide.mpr ⟨fun z=>z.1,fun z=>absurd (zM z) c⟩
      rw[e,zV fun z=>c (zM z)] at k
      exact k
 refine F.ok scPl (fun vs H Q E h=>?_) (fun cdv A outer s H vs Q E hr h=>?_)
 . obtain⟨n,i,rfl,_⟩:=h
   rfl
 . obtain⟨n,i,rfl,k⟩:=h
   refine⟨_,zn (zAd (zx GW' hr rfl mW FW.kp bW .nil zAk (zF (pv 1) (zF zm (zF (zBP zD2 (pv 0) zm) zR))))),?_⟩
   refine⟨_,rfl,_,rfl,_,_,rfl,rfl,i,0,n-1,rfl,?_⟩
   have e:decide (0<=i/\i<=n-1)=decide (0<=i/\i<n):=decide_eq_decide.mpr (by omega)
   rw[e]
   exact k
theorem scPf:zAI ["web", "plan", "ahead", "place"] ["web", "plan"] (defScope sPf):=⟨rfl,rfl,rfl,by decide +kernel,rfl,by decide +kernel,by decide +kernel⟩
theorem ok_pf {f fO fP:Addr}{fd' fdO fdP:FuncData}{h:Nat}(F:Fun K "place_fault" "place_fault" sPf f fd') (FO:Fun K "plan_order" "plan_order" sPo fO fdO) (bO:zAH K fdO ["plan"] []) (mO:mg "plan_order" = some (.ref fO)) (GO:zAa P w K mg base CX0 (h+3) fO fdO ["plan"] (spPo h))
 (FP:Fun K "is_place" "is_place" sPl fP fdP) (bP:zAH K fdP ["n", "thing"] []) (mP:mg "is_place" = some (.ref fP)) (GP:zAa P w K mg base CX0 (h+3) fP fdP ["n", "thing"] spPlB):zAa P w K mg base CX0 (h+4) f fd' ["web", "plan"] (spPf h):=by
 refine F.ok scPf (fun vs H Q E h=>?_) (fun cdv A outer s H vs Q E hr h=>?_)
 . obtain⟨wa,ta,v,n,p,rfl,_⟩:=h
   rfl
 . obtain⟨wa,ta,v,n,p,rfl,hwa,S,hh,hl,kY,kN⟩:=h
   have hu:=zGe hr
   refine⟨_,zZ (zAR (i:=2) scPf.nd rfl (Or.inl rfl) zJ5)
    (zZ (zCJ PassesOwn.never rfl (zCf (zx GO hr rfl mO FO.kp bO .nil zAk (zF (pv 1) zR))) (zAP (i:=3) scPf.nd rfl (Or.inl rfl))
     (zZ (zCF (PW.pt (zE2 (pt_cmp (pc_din hu (pv 3) (pv 2)) (by with_unfolding_all rfl)) (zDw (zCt (zCb (zx GP hr rfl mP FP.kp bP .nil zAk (zF (zAj zAp (pv 0) zm (fun _ _=>rfl)) (zF (pv 3) zR)))))))) (zn (zAd (pv 3))) zBD)
     (zn (zGT hu (pv 2) (pv 3) zIg rfl))))
    (zn (zAd zCv))),?_⟩
   intro d hd
   have sd:=zL (o:=.dK []) hd
   refine⟨_,rfl,v,p,rfl,zBF sd S,hh,hl,fun l H1 s1 hl1=>?_⟩
   have hd1:=s1 _ _ (zI (H:=H) (a:=d) (o:=.dK []))
   refine⟨l,rfl,⟨_,SqT.of hl1⟩,zC5 (K:=K) (a:=l) (xs:=(zBH p).map V.int) (fun i σ H2=>∃(v3:Option V)(kvs:List (Key×V)),σ=[some (.ref wa),some v,some (.ref d),v3]/\zA3 H H2/\H2 l=some (.tup ((zBH p).map V.int))/\H2 d=some (.dK kvs)/\kvs.length<=i/\(∀x:Int,(zCs kvs (Sum.inl x)).isSome=decide (x∈(zBH p).take i))/\∀(j:Nat)(y:Int),j<i->(zBH p)[j]? = some y->¬ Bad n (zBH p) j y)
    ⟨_,[],rfl,sd.trans s1,hl1,hd1,zG _,fun x=>by rw[List.take_zero];simp[zJl],fun j y hj=>absurd hj (Nat.not_lt_zero _)⟩ (fun i σ H2 _ z=>?_) (fun i x σ H2 hx z=>?_) (fun σ H2 z=>?_)⟩
   . obtain⟨_,_,_,_,h2,_⟩:=z
     exact SqT.of h2
   . obtain⟨v3,kvs,rfl,s2,hl2,hd2,hkl,hkv,nb⟩:=z
     obtain⟨y,hy,rfl⟩:∃y,(zBH p)[i]? = some y/\V.int y=x:=by
      rw[zT] at hx
      cases e:(zBH p)[i]? with
      | none=>rw[e] at hx;cases hx
      | some y=>rw[e] at hx;exact⟨y,rfl,za hx⟩
     have hi:=(zJ.mp hy).1
     refine⟨_,rfl,_,rfl,d,_,rfl,zJd.k (k:=Sum.inl y) hd2,_,rfl,?_⟩
     rw[hkv y]
     by_cases c1:y∈(zBH p).take i
     . rw[zM c1]
       exact zC3 (zC3 ⟨_,rfl,kN i y H2 hy (.inl c1) nb s2⟩)
     . rw[zV c1]
       refine zDY ?_
       refine⟨_,rfl,wa,_,_,_,rfl,rfl,SqT.of (s2 _ _ hwa),rfl,_,rfl,n,y,rfl,_,rfl,?_⟩
       by_cases c2:0<=y/\y<n
       . rw[zM c2]
         refine zDY ?_
         refine⟨_,rfl,_,rfl,d,_,rfl,.inl ⟨kvs,Sum.inl y,hd2,rfl,zz (by omega),rfl⟩,?_⟩
         have e0:zCs kvs (Sum.inl y)=none:=by
          have:=hkv y
          rw[zV c1] at this
          cases z:zCs kvs (Sum.inl y) with
          | none=>rfl
          | some u=>rw[z] at this;cases this
         refine⟨_,_,rfl,zA9 s2 hd,by rw[zY (zB5 hl2 hd2 (by intro z;cases z))];exact hl2,zI,by rw[zE4 _ e0,zH];show kvs.length+1<=i+1;omega,fun x=>?_,fun j z hj hz=>?_⟩
         . rw[zJj,zAA,hy]
           by_cases c3:x=y
           . subst c3
             rw[if_pos rfl];exact (zM (zQ.mpr (.inr (zX.mpr rfl)))).symm
           . rw[if_neg (fun z=>c3 (Sum.inl.inj z)),hkv x]
             refine decide_eq_decide.mpr ⟨fun z=>zQ.mpr (.inl z),fun z=>?_⟩
             rcases zQ.mp z with z | z
             . exact z
             . exact absurd (zX.mp z) c3
         . by_cases c4:j=i
           . subst c4
             rw[hy] at hz
             cases hz
             rintro (q | q)
             . exact c1 q
             . exact q c2
           . exact nb j z (by omega) hz
       . rw[zV c2]
         exact zC3 ⟨_,rfl,kN i y H2 hy (.inr c2) nb s2⟩
   . obtain⟨v3,kvs,rfl,s2,hl2,hd2,hkl,hkv,nb⟩:=z
     rw[zC] at nb
     exact kY (fun i x hx=>nb i x (zJ.mp hx).1 hx) H2 s2
theorem scLk:zAI ["web", "plan", "order"] ["web", "plan"] (defScope sLk):=⟨rfl,rfl,rfl,by decide +kernel,rfl,by decide +kernel,by decide +kernel⟩
theorem ok_lk {f fO:Addr}{fd' fdO:FuncData}{h:Nat}(F:Fun K "lacks_fault" "lacks_fault" sLk f fd') (FO:Fun K "plan_order" "plan_order" sPo fO fdO) (bO:zAH K fdO ["plan"] []) (mO:mg "plan_order" = some (.ref fO)) (GO:zAa P w K mg base CX0 (h+3) fO fdO ["plan"] (spPo h)) (mRange:mg "range" = none) (mMin:mg "min" = none):zAa P w K mg base CX0 (h+4) f fd' ["web", "plan"] (spLk h):=by
 refine F.ok scLk (fun vs H Q E h=>?_) (fun cdv A outer s H vs Q E hr h=>?_)
 . obtain⟨wa,ta,v,n,p,rfl,_⟩:=h
   rfl
 . obtain⟨wa,ta,v,n,p,rfl,hwa,n0,n24,S,hh,hl,kY,kN⟩:=h
   have hu:=zGe hr
   refine⟨_,zZ (zAR (i:=2) scLk.nd rfl (Or.inr rfl) (zx GO hr rfl mO FO.kp bO .nil zAk (zF (pv 1) zR)))
    (zn (zAd (zLP rfl hu (by rfl) mMin (zF (zBq (own:=["place"]) (cn:=["order"]) (ci:=[2]) rfl (csc rfl rfl) ⟨rfl,rfl,rfl,trivial⟩ rfl (zCU rfl mRange (zF (zAj zAp (pv 0) zm (fun _ _=>rfl)) zR)) (fun _ _ _ _=>zAP (i:=0) (zCW rfl) rfl (Or.inl rfl))
     (fun _ _ _ _=>zDT (zAS zDB (pv 0) (pv 1) (by with_unfolding_all rfl))) (fun _ _ _ _=>pv 0)) zR) zCv))),?_⟩
   refine⟨_,rfl,v,p,rfl,S,hh,hl,fun l H1 s1 hl1=>?_⟩
   refine⟨_,rfl,wa,_,_,_,rfl,rfl,SqT.of (s1 _ _ hwa),rfl,n,rfl,by omega,by omega,[.ref l],rfl,fun D hD=>?_⟩
   refine zCr (lo:=0) (n:=n.toNat) (fun q ys H4=>q<=n.toNat/\ys=((lowTo q).filter fun x=>!decide (x∈zBH p)).map V.int/\H4=upd H1 D (.lst ys)) ⟨zk _,rfl,rfl⟩ (fun q ys H4 z=>?_) (fun q ys H4 hq z=>?_) (fun ys H4 z=>?_)
   . obtain⟨hq,rfl,_⟩:=z
     rw[zC]
     refine zAQ (zAF _ _) ?_
     rw[zAx]
     exact zz (by omega)
   . obtain⟨_,rfl,rfl⟩:=z
     rw[Int.zero_add]
     have st:(lowTo (q+1)).filter (fun x=>!decide (x∈zBH p))=(lowTo q).filter (fun x=>!decide (x∈zBH p))++[(q:Int)].filter (fun x=>!decide (x∈zBH p)):=by rw[zI5,List.filter_append]
     refine⟨⟨rfl,rfl⟩,?_⟩
     refine⟨_,rfl,_,rfl,l,_,rfl,.inr (SqT.of (by rw[zY (zg hl1 hD)];exact hl1)),rfl,zBk _,_,rfl,?_⟩
     show (if (!inV (.int q) ((zBH p).map V.int))=true then _ else _)
     rw[zBm]
     by_cases c:(q:Int)∈zBH p
     . rw[zM c]
       refine zDY ⟨by omega,?_,rfl⟩
       rw[st,zA4 (by rw[zM c];decide),zAn,zw]
     . rw[zV c]
       refine zC3 ⟨_,rfl,zI,by omega,?_,zCA⟩
       rw[st,zBN (by rw[zV c];rfl),zAn,ze];rfl
   . obtain⟨_,rfl,rfl⟩:=z
     have sD:=zL (o:=.lst (((lowTo n.toNat).filter fun x=>!decide (x∈zBH p)).map V.int)) hD
     have mm:∀x,x∈(lowTo n.toNat).filter (fun x=>!decide (x∈zBH p))↔(0<=x/\x<n)/\x∉zBH p:=fun x=>by
      rw[zAm,zCO,Bool.not_eq_true',decide_eq_false_iff_not]
      constructor <;> rintro ⟨a,b⟩ <;> exact⟨by omega,b⟩
     refine⟨_,rfl,D,_,rfl,.inl (SqL.of zI),fun e=>kY (fun x x0 x1=>?_) _ (s1.trans sD),.inr ⟨_,rfl,fun x hx hm=>?_⟩⟩
     . refine zt fun z=>?_
       have:=(mm x).mpr ⟨⟨x0,x1⟩,z⟩
       rw[zBW.mp e] at this
       cases this
     . obtain⟨⟨x0,x1⟩,nx⟩:=(mm x).mp hx
       exact kN x _ x0 x1 nx (fun y y0 y1 ny=>hm y ((mm y).mpr ⟨⟨y0,y1⟩,ny⟩)) (s1.trans sD)
theorem scTf:zAI ["web", "plan", "chains", "a", "b", "long"] ["web", "plan"] (defScope sTf):=⟨rfl,rfl,rfl,by decide +kernel,rfl,by decide +kernel,by decide +kernel⟩
theorem ok_tf {f fC:Addr}{fd' fdC:FuncData}{h:Nat}(F:Fun K "tie_fault" "tie_fault" sTf f fd') (FC:Fun K "chain" "chain" sCh fC fdC) (bC:zAH K fdC ["plan", "place"] []) (mC:mg "chain" = some (.ref fC)) (GC:zAa P w K mg base CX0 (h+3) fC fdC ["plan", "place"] (spCh h)) (mRange:mg "range" = none):zAa P w K mg base CX0 (h+4) f fd' ["web", "plan"] (spTf h):=by
 refine F.ok scTf (fun vs H Q E h=>?_) (fun cdv A outer s H vs Q E hr h=>?_)
 . obtain⟨wa,v,n,ts,p,rfl,_⟩:=h
   rfl
 . obtain⟨wa,v,n,ts,p,rfl,⟨ta,tys,hwa,hta,TA,G⟩,S,hh,hl,al,kY,kN⟩:=h
   have hn1:=G.n1
   have hn24:=G.n24
   refine⟨_,zZ (zE6 (i:=2) (own:=["place"]) (cn:=["plan"]) (ci:=[1]) scTf.nd rfl (Or.inl rfl) rfl (csc rfl rfl) ⟨rfl,rfl,rfl,trivial⟩ rfl (zCU rfl mRange (zF (zAj zAp (pv 0) zm (fun _ _=>rfl)) zR)) (fun _ _ _ _=>zAP (i:=0) (zCW rfl) rfl (Or.inl rfl))
    (fun _ _ _ _=>zB2) (fun _ _ _ _=>zx GC hr rfl mC FC.kp bC .nil zAk (zF (pv 1) (zF (pv 0) zR))))
    (zZ (zCJ PassesOwn.never rfl (zCf (zAj zAp (pv 0) zm (fun _ _=>rfl))) (zG6 rfl (zBx (zAP (i:=3) scTf.nd rfl (Or.inl rfl)) (zBx (zAP (i:=4) scTf.nd rfl (Or.inl rfl)) (zBx (zAP (i:=5) scTf.nd rfl (Or.inl rfl)) zE9))))
     (zn (zCF (PW.pt (zDx (zAS zCM (pv 3) (zAj zBE (pv 2) (pv 4) (fun _ _=>rfl)) (by with_unfolding_all rfl)) (zDS (zAS zCM (pv 4) (zAj zBE (pv 2) (pv 3) (fun _ _=>rfl)) (by with_unfolding_all rfl))))) (zn (zAd (zBY (zF (pv 3) (zF (pv 4) zR))))) zBD)))
    (zn (zAd zCv))),?_⟩
   refine⟨_,rfl,wa,_,_,_,rfl,rfl,SqT.of hwa,rfl,n,rfl,by omega,by omega,[v],rfl,fun D hD=>?_⟩
   refine zCr (lo:=0) (n:=n.toNat) (fun q ys H4=>q<=n.toNat/\zA3 H H4/\H4 D=some (.lst ys)/\∃as:List Addr,ys=as.map V.ref/\as.length=q/\∀(i:Nat)(a:Addr),as[i]? = some a->∃(r ms:List Int),chO i p=some r/\H4 a=some (.tup (ms.map V.int))/\∀z,z∈ms↔z∈r)
    ⟨zk _,zL hD,zI,[],rfl,rfl,fun i a e=>by simp at e⟩ (fun q ys H4 z=>?_) (fun q ys H4 hq z=>?_) (fun ys H4 z=>?_)
   . obtain⟨hq,_,_,as,rfl,hal,_⟩:=z
     rw[zC,hal]
     exact zz (by omega)
   . obtain⟨_,s4,hD4,as,rfl,hal,hch⟩:=z
     rw[Int.zero_add]
     obtain⟨r,hr'⟩:=zJR (al (q:Int) (by omega) (by omega))
     refine⟨⟨rfl,rfl⟩,?_⟩
     refine zHX ?_
     refine⟨_,rfl,_,rfl,v,p,(q:Int),r,rfl,zBF s4 S,hh,hl,hr',fun ms l H5 _ hm s5 h5=>?_⟩
     refine⟨s5 _ _ hD4,hq,zA9 (s4.trans s5) hD,zI,as++[l],by rw[ze];rfl,by rw[zH,hal];rfl,fun i a ha=>?_⟩
     have hkeep:∀b zs,H5 b=some (.tup zs)->upd H5 D (.lst (as.map V.ref++[.ref l])) b=some (.tup zs):=fun b zs e=>by rw[zY (zB5 e (s5 _ _ hD4) (by intro z;cases z))];exact e
     by_cases c:i<q
     . rw[zAK (by omega)] at ha
       obtain⟨r',ms',e1,e2,e3⟩:=hch i a ha
       exact⟨r',ms',e1,hkeep _ _ (s5 _ _ e2),e3⟩
     . have hi:i=q:=by
        have:=(zJ.mp ha).1
        rw[zH,hal] at this
        have:i<q+1:=this
        omega
       subst hi
       rw[zAs (by omega),hal,Nat.sub_self] at ha
       cases ha
       exact⟨r,ms,hr',hkeep _ _ h5,hm⟩
   . obtain⟨_,s4,hD4,as,rfl,hal,hch⟩:=z
     refine⟨_,rfl,wa,_,_,_,rfl,rfl,SqT.of (s4 _ _ hwa),rfl,ta,rfl,⟨_,SqT.of (s4 _ _ hta)⟩,zC5 (K:=K) (a:=ta) (xs:=tys) (fun i σ H5=>∃(va vb vl:Option V),σ=[some (.ref wa),some v,some (.ref D),va,vb,vl]/\zA3 H4 H5/\∀(j:Nat)(a' b' l':Int),j<i->ts[j]? = some (a',b',l')->zLz p a' b')
      ⟨_,_,_,rfl,zA3.refl _,fun j a' b' l' hj=>absurd hj (Nat.not_lt_zero _)⟩ (fun i σ H5 _ ⟨_,_,_,_,s5,_⟩=>SqT.of (s5 _ _ (s4 _ _ hta))) ?turn ?after⟩
     case after=>
      rintro σ H5 ⟨va,vb,vl,rfl,s5,nb⟩
      refine kY (fun a b l hm=>?_) H5 (s4.trans s5)
      obtain⟨j,hj,e⟩:=zAC hm
      exact nb j a b l (by rw[TA.length,zC];exact hj) (by rw[zD hj,e])
     case turn=>
      rintro i y σ H5 hi ⟨va,vb,vl,rfl,s5,nb⟩
      obtain⟨ya,ky,rfl,hky,hya,_⟩:=TA.get hi
      rw[zT] at hky
      obtain⟨⟨a,b,c⟩,hti,rfl⟩:∃t:T3,ts[i]? = some t/\tl t=ky:=by
       cases e:ts[i]? with
       | none=>rw[e] at hky;cases hky
       | some t=>rw[e] at hky;exact⟨t,rfl,za hky⟩
      have rg:=G.adj (.inl (zc hti):Adj ts a b c)
      have s45:=s4.trans s5
      have look:∀x:Int,0<=x->x<n->∃(q:Addr)(r ms:List Int),atI (as.map V.ref) x=some (.ref q)/\chO x p=some r/\H5 q=some (.tup (ms.map V.int))/\∀z,z∈ms↔z∈r:=fun x x0 x1=>by
       obtain⟨j,rfl⟩:=zBO x0
       have hj:j<as.length:=by omega
       obtain⟨r,ms,e1,e2,e3⟩:=hch j as[j] (zD hj)
       exact⟨as[j],r,ms,zB8 (by rw[zT,zD hj];rfl),e1,s5 _ _ e2,e3⟩
      obtain⟨qb,rb,mb,ab,eb,hqb,mmb⟩:=look b rg.2.2.1 rg.2.2.2.1
      obtain⟨qa,ra,ma,aa,ea,hqa,mma⟩:=look a rg.1 rg.2.1
      have next:zLz p a b->∀(j:Nat)(a' b' l':Int),j<i+1->ts[j]? = some (a',b',l')->zLz p a' b':=fun tc j a' b' l' hj ht=>by
       by_cases cj:j=i
       . subst cj
         rw[hti] at ht
         cases ht
         exact tc
       . exact nb j a' b' l' (by omega) ht
      refine⟨ya,_,rfl,SqT.of (s45 _ _ hya),rfl,_,_,rfl,_,_,rfl,_,_,rfl,rfl,?_⟩
      have hD5:=s5 _ _ hD4
      refine⟨_,rfl,_,rfl,_,rfl,D,_,_,.ref qb,rfl,rfl,SqL.of hD5,ab,qb,_,rfl,.inr (SqT.of hqb),rfl,zBk _,_,rfl,?_⟩
      show (if (!inV (.int a) (mb.map V.int))=true then _ else _)
      rw[zBm]
      by_cases c1:a∈mb
      . rw[zM c1]
        exact zDY (zDY ⟨_,_,_,rfl,s5,next (.inl ⟨rb,eb,(mmb a).mp c1⟩)⟩)
      . rw[zV c1]
        refine zC3 ?_
        refine⟨_,rfl,_,rfl,_,rfl,D,_,_,.ref qa,rfl,rfl,SqL.of hD5,aa,qa,_,rfl,.inr (SqT.of hqa),rfl,zBk _,_,rfl,?_⟩
        show (if (!inV (.int b) (ma.map V.int))=true then _ else _)
        rw[zBm]
        by_cases c2:b∈ma
        . rw[zM c2]
          exact zDY ⟨_,_,_,rfl,s5,next (.inr ⟨ra,ea,(mma b).mp c2⟩)⟩
        . rw[zV c2]
          refine zC3 ⟨_,rfl,_,rfl,by show 2<=sizeLine;decide,fun q hq=>?_⟩
          refine kN i a b c q _ hti ?_ nb (s45.trans (zL hq)) zI
          rintro (⟨r,e,z⟩ | ⟨r,e,z⟩)
          . rw[eb] at e;cases e;exact c1 ((mmb a).mpr z)
          . rw[ea] at e;cases e;exact c2 ((mma b).mpr z)
theorem scRefa:zAI ["word", "at"] ["word", "at"] (defScope zIT):=⟨rfl,rfl,rfl,by decide +kernel,rfl,by decide +kernel,by decide +kernel⟩
theorem zLa {C f fI:Addr}{fd' fdI:FuncData}(F:Fun K "refuse_at" "refuse_at" zIT f fd') (mC:mg "NoPlan" = some (.ref C)) (EI:zHT K C fI)(bI:zAH K fdI ["self", "word", "at"] []) (GI:zAa P w K mg base CX0 1 fI fdI ["self", "word", "at"] (spXI C "word" "at")):zAa P w K mg base (CXI P w) 3 f fd' ["word", "at"] (zID C):=by
 refine F.okI scRefa (fun vs H Q E h=>?_) (fun cdv A outer s H vs Q E hr h=>?_)
 . obtain⟨x,v,rfl,_⟩:=h
   rfl
 . obtain⟨x,v,rfl,kY,kN⟩:=h
   refine⟨_,zn (zCF (zAS zIi (pv 1) zCv (zAv _)) (zn (zFi (E:=E) rfl mC EI rfl GI hr bI (zF (pv 0) (zF (pv 1) zR)) (fun pins σ H s ea tt dx I he hn h0 hE=>zIZ I he rfl rfl rfl rfl hn h0 hE))) zBD),?_⟩
   refine⟨_,rfl,rfl,_,rfl,?_⟩
   by_cases c:v = .non
   . exact ifF (by rw[zM c];rfl) (kY c)
   . refine ifT (by rw[zV c];rfl) ?_
     exact⟨_,rfl,_,rfl,_,_,rfl,kN c⟩
theorem scLets:zAI ["web", "thing"] ["web", "thing"] (defScope zIU):=⟨rfl,rfl,rfl,by decide +kernel,rfl,by decide +kernel,by decide +kernel⟩
theorem zLb {C f fI fP fR fF fL fT:Addr}{fd' fdI fdP fdR fdF fdL fdT:FuncData}{h m:Nat}(F:Fun K "lets_plan" "lets_plan" zIU f fd') (mC:mg "NoPlan" = some (.ref C)) (EI:zHT K C fI)(bI:zAH K fdI ["self", "word", "at"] []) (GI:zAa P w K mg base CX0 m fI fdI ["self", "word", "at"] (spXI C "word" "at"))
 (FP:Fun K "is_plan" "is_plan" sIp fP fdP) (bP:zAH K fdP ["thing"] []) (mP:mg "is_plan" = some (.ref fP)) (GP:zAa P w K mg base CX0 (m+1) fP fdP ["thing"] spIp)
 (FR:Fun K "refuse_at" "refuse_at" zIT fR fdR) (bR:zAH K fdR ["word", "at"] []) (mR:mg "refuse_at" = some (.ref fR)) (GR:zAa P w K mg base (CXI P w) (m+1) fR fdR ["word", "at"] (zID C))
 (FF:Fun K "place_fault" "place_fault" sPf fF fdF) (bF:zAH K fdF ["web", "plan"] []) (mF:mg "place_fault" = some (.ref fF)) (GF:zAa P w K mg base CX0 (m+1) fF fdF ["web", "plan"] (spPf h))
 (FL:Fun K "lacks_fault" "lacks_fault" sLk fL fdL) (bL:zAH K fdL ["web", "plan"] []) (mL:mg "lacks_fault" = some (.ref fL)) (GL:zAa P w K mg base CX0 (m+1) fL fdL ["web", "plan"] (spLk h))
 (FT:Fun K "tie_fault" "tie_fault" sTf fT fdT) (bT:zAH K fdT ["web", "plan"] []) (mT:mg "tie_fault" = some (.ref fT)) (GT:zAa P w K mg base CX0 (m+1) fT fdT ["web", "plan"] (spTf h)):zAa P w K mg base (CXI P w) (m+2) f fd' ["web", "thing"] (zIH C h):=by
 refine F.okI scLets (fun vs H Q E h=>?_) (fun cdv A outer s H vs Q E hr h=>?_)
 . obtain⟨wa,v,n,ts,p,rfl,_⟩:=h
   rfl
 . obtain⟨wa,v,n,ts,p,rfl,W,S,g,hh,kY,kN⟩:=h
   obtain⟨ta,tys,hwa,_,_,G⟩:=id W
   have hn1:=G.n1
   have hn24:=G.n24
   have hlen:=g.ln
   refine⟨_,zZ (zCF (zCt (zCb (zx GP hr rfl mP FP.kp bP .nil zAk (zF (pv 1) zR)))) (zn (zFi (E:=E) rfl mC EI rfl GI hr bI (zF zDd (zF zCv zR)) (fun pins σ H s ea tt dx I he hn h0 hE=>zIZ I he rfl rfl rfl rfl hn h0 hE))) zBD)
    (zZ (zBp (zx GR hr rfl mR FR.kp bR .nil zLS (zF zDd (zF (zx GF hr rfl mF FF.kp bF .nil zAk (zF (pv 0) (zF (pv 1) zR))) zR))))
    (zZ (zBp (zx GR hr rfl mR FR.kp bR .nil zLS (zF zDd (zF (zx GL hr rfl mL FL.kp bL .nil zAk (zF (pv 0) (zF (pv 1) zR))) zR))))
    (zZ (zBp (zx GR hr rfl mR FR.kp bR .nil zLS (zF zDd (zF (zx GT hr rfl mT FT.kp bT .nil zAk (zF (pv 0) (zF (pv 1) zR))) zR))))
    (zn (zAd zIg))))),?_⟩
   have fail:∀{x:Str}{u:V}{H1:Hp},¬ (plB 24 p=true/\LetP n ts p)->zA3 H H1->∀tt dx,H1 tt=none->H1 dx=none->tt≠dx->E (.ref C) (some dx) (upd (upd H1 tt (.tup [.str x,u])) dx (dO dx [("word",.str x),("at",u)])):=fun no s1 tt dx ht hd ne=>
    kN no _ _ (s1.trans ((zL ht).trans (zL (by rw[zY (Ne.symm ne)];exact hd))))
   refine⟨_,rfl,v,p,rfl,S,g,fun H1 s1=>?_⟩
   refine⟨_,rfl,?_⟩
   cases cp:plB 24 p with
   | false=>
    refine zC3 ?_
    exact⟨_,_,rfl,fail (fun z=>by rw[cp] at z;cases z.1) s1⟩
   | true=>
    refine zDY ?_
    refine⟨_,rfl,_,rfl,wa,ta,v,n,p,rfl,s1 _ _ hwa,zBF s1 S,hh,by omega,fun nb H2 s2=>?_,fun i x H2 hx hb _ s2=>?_⟩
    . obtain⟨nd,rng⟩:=zFp.mp nb
      refine⟨_,_,rfl,fun _=>?_,fun z=>absurd rfl z⟩
      have s02:=s1.trans s2
      refine⟨_,rfl,_,rfl,wa,ta,v,n,p,rfl,s02 _ _ hwa,by omega,by omega,zBF s02 S,hh,by omega,fun all H3 s3=>?_,fun x H3 x0 x1 nx _ s3=>?_⟩
      . refine⟨_,_,rfl,fun _=>?_,fun z=>absurd rfl z⟩
        have s03:=s02.trans s3
        refine⟨_,rfl,_,rfl,wa,v,n,ts,p,rfl,W.keep s03,zBF s03 S,hh,hlen,all,fun tie H4 s4=>?_,fun i a b l q H4 ht nt _ s4 _=>?_⟩
        . refine⟨_,_,rfl,fun _=>?_,fun z=>absurd rfl z⟩
          exact kY cp ⟨nd,rng,all,zK1 tie⟩ H4 (s03.trans s4)
        . refine⟨_,_,rfl,(fun z=>by cases z),fun _=>fail (fun z=>nt ?_) (s03.trans s4)⟩
          have hm:=zc ht
          have rg:=G.adj (.inl hm:Adj ts a b l)
          exact z.2.tie a b l (.inl hm) (all a rg.1 rg.2.1) (all b rg.2.2.1 rg.2.2.2.1)
      . exact⟨_,_,rfl,(fun z=>by cases z),fun _=>fail (fun z=>nx (z.2.all x x0 x1)) (s02.trans s3)⟩
    . exact⟨_,_,rfl,(fun z=>by cases z),fun _=>fail (fun z=>zFp.mpr ⟨z.2.nd,z.2.rng⟩ i x hx hb) (s1.trans s2)⟩
end
end K41
namespace K41
open PySem L2 WM
noncomputable def zDk (ts:List T3)(x:Int):List Int:=(fd x ts).map hd
theorem zIs {ts:List T3}{x y:Int}:y∈zDk ts x↔∃l,Adj ts x y l:=by
 unfold zDk
 rw[zAT]
 constructor
 . rintro ⟨k,hk,e⟩
   obtain⟨z,l,rfl,a⟩:=zDe.mp hk
   exact⟨l,(show z=y from e) ▸ a⟩
 . rintro ⟨l,a⟩
   exact⟨[y,l],zDe.mpr ⟨y,l,rfl,a⟩,rfl⟩
theorem zGS {n:Int}{ts:List T3}(G:GW n ts)(i:Nat)(x:Int):(zDk (ts.take i) x).length<=ts.length:=by
 unfold zDk
 rw[zC]
 refine zAl (zF1 (n:=n) x fun t ht=>(G.rng t (List.mem_of_mem_take ht)).2.1) ?_
 rw[zp]
 omega
theorem zJy {ts:List T3}{i:Nat}{a b c:Int}(h:ts[i]? = some (a,b,c))(x:Int):zDk (ts.take (i+1)) x=zDk (ts.take i) x++((if a=x then [b] else [])++(if b=x then [a] else [])):=by
 unfold zDk
 rw[zAA,h,zEH,ze]
 show _++((if a=x then [[b,c]] else [])++(if b=x then [[a,c]] else [])++[]).map hd=_
 rw[zw,ze]
 congr 2
 . split <;> rfl
 . split <;> rfl
noncomputable def zCG (H:Hp)(rs:List Addr)(R:List (List Int)):Prop:=rs.length=R.length/\∀(i:Nat)(r:Addr)(row:List Int),rs[i]? = some r->R[i]? = some row->H r=some (.lst (row.map V.int))
theorem zCG.same {H H':Hp}{rs:List Addr}{R:List (List Int)}(h:zCG H rs R)(k:zA3 H H'):zCG H' rs R:=⟨h.1,fun i r row a b=>k _ _ (h.2 i r row a b)⟩
theorem zCG.snoc {H:Hp}{rs:List Addr}{R:List (List Int)}{r:Addr}{row:List Int}(h:zCG H rs R)(hr:H r=some (.lst (row.map V.int))):zCG H (rs++[r]) (R++[row]):=by
 refine⟨by rw[zH,zH,h.1];rfl,fun i b w e1 e2=>?_⟩
 by_cases c:i<rs.length
 . rw[zAK c] at e1
   rw[zAK (by rw[<-h.1];exact c)] at e2
   exact h.2 i b w e1 e2
 . rw[zAs (by omega)] at e1
   rw[zAs (by rw[<-h.1];omega),<-h.1] at e2
   have hi:i-rs.length=0:=by
    have:=(zJ.mp e1).1
    rw[zAc] at this
    omega
   rw[hi] at e1 e2
   cases e1
   cases e2
   exact hr
theorem zCG.off {H:Hp}{rs:List Addr}{R:List (List Int)}{l:Addr}{o:HO}(h:zCG H rs R)(nl:l∉rs):zCG (upd H l o) rs R:=⟨h.1,fun i r row a b=>by rw[zY (show r≠l from fun z=>nl (z ▸ zc a))];exact h.2 i r row a b⟩
noncomputable def zCx (H:Hp)(sl:Addr)(R:List (List Int)):Prop:=∃rs:List Addr,H sl=some (.lst (rs.map V.ref))/\zCG H rs R
theorem zCx.same {H H':Hp}{sl:Addr}{R:List (List Int)}(h:zCx H sl R)(k:zA3 H H'):zCx H' sl R:=by
 obtain⟨rs,a,b⟩:=h
 exact⟨rs,k _ _ a,b.same k⟩
noncomputable abbrev zGR (ts:List T3)(n:Int):List (List Int):=(lowTo n.toNat).map (zDk ts)
theorem zCn {ts:List T3}{n:Int}{i:Nat}(h:i<n.toNat):(zGR ts n)[i]? = some (zDk ts i):=by
 unfold zGR lowTo
 rw[zT,zT,List.getElem?_range h];rfl
noncomputable def zLG:Sp:=fun vs H Q _=>∃(wa:Addr)(n:Int)(ts:List T3),vs=[.ref wa]/\zBU H wa n ts/\∀(bl:Addr)(H':Hp),zA3 H H'->zCx H' bl (zGR ts n)->Q (.ref bl) H'
noncomputable def zIF:Sp:=fun vs H Q _=>∃(bl la:Addr)(n:Int)(ts:List T3)(xs:List Int),vs=[.ref bl,.ref la]/\zCx H bl (zGR ts n)/\GW n ts/\H la=some (.lst (xs.map V.int))/\xs.Pairwise (· < ·)/\(∀x∈xs,0<=x/\x<n)/\xs.length<64 /\
 ∀(fl:Addr)(fs:List (List Int))(H':Hp),H fl=none->zA3 H H'->zCx H' fl fs->zAb ts xs fs->Q (.ref fl) H'
theorem cut1 (xs:List V):zFO xs none (some 1)=xs.take 1:=zJK xs 1
section
variable {P:Program}{w:World}{K:PySem.W.Frag}{mg:Str->Option Value}{base:Heap}
theorem zIR:zAI ["_law_web_here", "_law_found", "_law_a", "_law_b", "_law_long"] ["_law_web_here"] (defScope sBes):=⟨rfl,rfl,rfl,by decide +kernel,rfl,by decide +kernel,by decide +kernel⟩
theorem ok_bes {f:Addr}{fd':FuncData}(F:Fun K "_law_beside" "_law_beside" sBes f fd') (mRange:mg "range" = none):zAa P w K mg base CX0 1 f fd' ["_law_web_here"] zLG:=by
 refine F.ok zIR (fun vs H Q E h=>?_) (fun cdv A outer s H vs Q E hr h=>?_)
 . obtain⟨wa,n,ts,rfl,_⟩:=h
   rfl
 . obtain⟨wa,n,ts,rfl,⟨ta,tys,hwa,hta,TA,G⟩,k⟩:=h
   have hn1:=G.n1
   have hn24:=G.n24
   refine⟨_,zZ (zE6 (i:=1) (own:=["_law_place"]) (cn:=[]) (ci:=[]) zIR.nd rfl (Or.inl rfl) rfl (csc rfl rfl) trivial rfl (zCU rfl mRange (zF (zAj zAp (pv 0) zm (fun _ _=>rfl)) zR)) (fun _ _ _ _=>zAP (i:=0) (zCW rfl) rfl (Or.inl rfl))
    (fun _ _ _ _=>zB2) (fun _ _ _ _=>zCL zR))
    (zZ (zCJ PassesOwn.never rfl (zCf (zAj zAp (pv 0) zm (fun _ _=>rfl))) (zG6 rfl (zBx (zAP (i:=2) zIR.nd rfl (Or.inl rfl)) (zBx (zAP (i:=3) zIR.nd rfl (Or.inl rfl)) (zBx (zAP (i:=4) zIR.nd rfl (Or.inl rfl)) zE9))))
     (zZ (zBp (zDW PySem.F.plainAttrs_list PySem.F.slot_list_append PySem.F.type_list_append zBZ (zAj zBE (pv 1) (pv 2) (fun _ _=>rfl)) (zF (pv 3) zR)))
     (zn (zBp (zDW PySem.F.plainAttrs_list PySem.F.slot_list_append PySem.F.type_list_append zBZ (zAj zBE (pv 1) (pv 3) (fun _ _=>rfl)) (zF (pv 2) zR))))))
    (zn (zAd (pv 1)))),?_⟩
   refine⟨_,rfl,wa,_,_,_,rfl,rfl,SqT.of hwa,rfl,n,rfl,by omega,by omega,[],rfl,fun D hD=>?_⟩
   refine zCr (lo:=0) (n:=n.toNat) (fun q ys H4=>q<=n.toNat/\zA3 H H4/\H4 D=some (.lst ys)/\∃rs:List Addr,ys=rs.map V.ref/\rs.length=q/\rs.Nodup/\(∀r∈rs,H r=none/\r≠D)/\∀r∈rs,H4 r=some (.lst []))
    ⟨zk _,zL hD,zI,[],rfl,rfl,List.nodup_nil,(fun r hr=>by cases hr),fun r hr=>by cases hr⟩ (fun q ys H4 z=>?_) (fun q ys H4 hq z=>?_) (fun ys H4 z=>?_)
   . obtain⟨hq,_,_,rs,rfl,hl,_⟩:=z
     rw[zC,hl]
     exact zz (by omega)
   . obtain⟨_,s4,hD4,rs,rfl,hl,nd,fr,em⟩:=z
     refine⟨⟨rfl,rfl⟩,?_⟩
     refine zHX ?_
     refine⟨zk _,fun r hr'=>?_⟩
     have sr:=zL (o:=.lst []) hr'
     have nrD:r≠D:=fun z=>by
      have:H4 r=none:=hr'
      rw[z,hD4] at this;cases this
     have nr:r∉rs:=fun z=>by
      have:H4 r=none:=hr'
      rw[em r z] at this;cases this
     have hr0:H r=none:=zA3.none s4 hr'
     refine⟨sr _ _ hD4,hq,zA9 (s4.trans sr) hD,zI,rs++[r],by rw[ze];rfl,by rw[zH,hl];rfl,?_,fun x hx=>?_,fun x hx=>?_⟩
     . rw[zA2]
       exact⟨nd,by simp,fun x hx y hy=>by rw[zX.mp hy];exact fun z=>nr (z ▸ hx)⟩
     . rcases zQ.mp hx with hx | hx
       . exact fr x hx
       . rw[zX.mp hx];exact⟨hr0,nrD⟩
     . rcases zQ.mp hx with hx | hx
       . rw[zY (fr x hx).2];exact sr _ _ (em x hx)
       . rw[zX.mp hx,zY nrD];exact zI
   . obtain⟨_,s4,hD4,rs,rfl,hl,nd,fr,em⟩:=z
     have R0:zCG H4 rs (zGR (ts.take 0) n):=⟨by rw[hl,zC,zAx],fun i r row e1 e2=>by
      have hi:i<n.toNat:=by rw[<-hl];exact (zJ.mp e1).1
      rw[zCn hi] at e2
      cases e2
      exact em r (zc e1)⟩
     refine⟨_,rfl,wa,_,_,_,rfl,rfl,SqT.of (s4 _ _ hwa),rfl,ta,rfl,⟨_,SqT.of (s4 _ _ hta)⟩,zC5 (K:=K) (a:=ta) (xs:=tys) (fun i σ H5=>∃(va vb vl:Option V),σ=[some (.ref wa),some (.ref D),va,vb,vl]/\zA3 H H5/\H5 D=some (.lst (rs.map V.ref))/\zCG H5 rs (zGR (ts.take i) n))
      ⟨_,_,_,rfl,s4,hD4,R0⟩ (fun i σ H5 _ ⟨_,_,_,_,s5,_⟩=>SqT.of (s5 _ _ hta)) ?turn ?after⟩
     case after=>
      rintro σ H5 ⟨va,vb,vl,rfl,s5,h5,R5⟩
      rw[TA.length,zC,zd (zG _)] at R5
      exact⟨_,rfl,k D H5 s5 ⟨rs,h5,R5⟩⟩
     case turn=>
      rintro i y σ H5 hi ⟨va,vb,vl,rfl,s5,h5,R5⟩
      obtain⟨ya,ky,rfl,hky,hya,_⟩:=TA.get hi
      rw[zT] at hky
      obtain⟨⟨a,b,c⟩,hti,rfl⟩:∃t:T3,ts[i]? = some t/\tl t=ky:=by
       cases e:ts[i]? with
       | none=>rw[e] at hky;cases hky
       | some t=>rw[e] at hky;exact⟨t,rfl,za hky⟩
      obtain⟨a0,a1,b0,b1,nab,_⟩:=G.adj (.inl (zc hti):Adj ts a b c)
      obtain⟨a,rfl⟩:=zBO a0
      obtain⟨b,rfl⟩:=zBO b0
      have ha:a<rs.length:=by omega
      have hb:b<rs.length:=by omega
      have ea:rs[a]? = some rs[a]:=zD ha
      have eb:rs[b]? = some rs[b]:=zD hb
      have nrr:rs[a]≠rs[b]:=fun z=>by
       have hp:=zr.mp (zA6.mp nd)
       by_cases cc:a<b
       . exact hp a b ha hb cc z
       . exact hp b a hb ha (by omega) z.symm
      have hra:=R5.2 a _ _ ea (zCn (by omega))
      have hrb:=R5.2 b _ _ eb (zCn (by omega))
      have la:=zGS G i (a:Int)
      have lb:=zGS G i (b:Int)
      have lt:=G.len
      have fa:=fr _ (zc ea)
      have fb:=fr _ (zc eb)
      refine⟨ya,_,rfl,SqT.of (s5 _ _ hya),rfl,_,_,rfl,_,_,rfl,_,_,rfl,rfl,?_⟩
      refine⟨_,rfl,_,rfl,D,_,_,.ref rs[a],rfl,rfl,SqL.of h5,zB8 (by rw[zT,ea];rfl),.inl ⟨rfl,_,SqL.of hra⟩,_,rfl,rs[a],_,.int b,rfl,rfl,hra,by rw[zC];exact zz (by omega),?_⟩
      have h6:(upd H5 rs[a] (.lst ((zDk (ts.take i) a).map V.int++[.int b]))) D=some (.lst (rs.map V.ref)):=by rw[zY fa.2.symm];exact h5
      have hrb6:(upd H5 rs[a] (.lst ((zDk (ts.take i) a).map V.int++[.int b]))) rs[b]=some (.lst ((zDk (ts.take i) b).map V.int)):=by rw[zY nrr.symm];exact hrb
      refine⟨_,rfl,_,rfl,D,_,_,.ref rs[b],rfl,rfl,SqL.of h6,zB8 (by rw[zT,eb];rfl),.inl ⟨rfl,_,SqL.of hrb6⟩,_,rfl,rs[b],_,.int a,rfl,rfl,hrb6,by rw[zC];exact zz (by omega),?_⟩
      refine⟨_,_,_,rfl,zA9 (zA9 s5 fa.1) fb.1,by rw[zY fb.2.symm];exact h6,?_⟩
      refine⟨by rw[zC,zAx,hl],fun j r row e1 e2=>?_⟩
      have hj:j<n.toNat:=by rw[<-hl];exact (zJ.mp e1).1
      rw[zCn hj] at e2
      cases e2
      have e0:=R5.2 j r _ e1 (zCn hj)
      rw[zJy hti]
      by_cases c1:j=b
      . subst c1
        rw[eb] at e1
        cases e1
        rw[zI,if_neg (fun z=>nab z),if_pos rfl,ze];rfl
      . have n1:r≠rs[b]:=fun z=>by
         have hp:=zr.mp (zA6.mp nd)
         obtain⟨hj',e⟩:=zJ.mp e1
         by_cases cc:j<b
         . exact hp j b hj' hb cc (by rw[e,z])
         . exact hp b j hb hj' (by omega) (by rw[e,z])
        rw[zY n1]
        by_cases c2:j=a
        . subst c2
          rw[ea] at e1
          cases e1
          rw[zI,if_pos rfl,if_neg (fun z=>nab z.symm),ze];rfl
        . have n2:r≠rs[a]:=fun z=>by
           have hp:=zr.mp (zA6.mp nd)
           obtain⟨hj',e⟩:=zJ.mp e1
           by_cases cc:j<a
           . exact hp j a hj' ha cc (by rw[e,z])
           . exact hp a j ha hj' (by omega) (by rw[e,z])
          rw[zY n2,if_neg (fun z=>c2 (by omega)),if_neg (fun z=>c1 (by omega))]
          simpa using e0
end
structure PtI (ts:List T3)(le:List Int)(x0:Int)(pt:List Int)(at':Nat):Prop where
 mw:Mtw ts le x0 pt
 at_le:at'<=pt.length
 done:∀(i:Nat)(a:Int),i<at'->pt[i]? = some a->∀b l,Adj ts a b l->b∈le->b∈pt
theorem PtI.ne {ts:List T3}{le pt:List Int}{x0:Int}{at':Nat}(h:PtI ts le x0 pt at'):pt≠[]:=fun z=>by have:=h.mw.z;rw[z] at this;cases this
theorem PtI.step {n:Int}{ts:List T3}{le pt:List Int}{x0:Int}{at':Nat}{x:Int}(G:GW n ts)(h:PtI ts le x0 pt at')(hx:pt[at']? = some x):PtI ts le x0 (pt++(zDk ts x).filter fun y=>decide (y∈le) && !decide (y∈pt)) (at'+1):=by
 have ha:=(zJ.mp hx).1
 have xm:=zc hx
 have fm:∀y,y∈(zDk ts x).filter (fun y=>decide (y∈le) && !decide (y∈pt))↔y∈zDk ts x/\y∈le/\y∉pt:=fun y=>by
  rw[zAm,zAz,zAZ,Bool.not_eq_true',decide_eq_false_iff_not]
 refine⟨⟨?_,zu _ h.mw.z,fun y hy=>?_,fun S hS hc=>?_⟩,by rw[zH];omega,fun i a hi e b l A hb=>?_⟩
 . rw[zA2]
   exact⟨h.mw.nd,(zHH G x).filter _,fun y hy z hz e=>((fm z).mp hz).2.2 (e ▸ hy)⟩
 . rcases zQ.mp hy with hy | hy
   . exact h.mw.sub y hy
   . exact ((fm y).mp hy).2.1
 . have h1:=h.mw.gr S hS fun a b l ha hb=>hc a b l (zu _ ha) (zu _ hb)
   intro z hz
   rcases zQ.mp hz with q | q
   . exact h1 z q
   . obtain⟨l,A⟩:=zIs.mp ((fm z).mp q).1
     exact hc x z l (zu _ xm) hz A (h1 x xm)
 . by_cases c:i<at'
   . rw[zAK (by omega)] at e
     exact zQ.mpr (.inl (h.done i a c e b l A hb))
   . have hi':i=at':=by omega
     subst hi'
     rw[zAK ha,hx] at e
     cases e
     by_cases cb:b∈pt
     . exact zQ.mpr (.inl cb)
     . exact zQ.mpr (.inr ((fm b).mpr ⟨zIs.mpr ⟨l,A⟩,hb,cb⟩))
structure PsI (ts:List T3)(xs le:List Int)(fs:List (List Int)):Prop where
 pw:le.Pairwise (· < ·)
 sub:∀x∈le,x∈xs
 ac:∀qs,zAb ts le qs->zAb ts xs (fs++qs)
theorem PsI.step' {ts:List T3}{xs le le' p:List Int}{x0:Int}{fs:List (List Int)}(h:PsI ts xs le fs)(ele:le=x0::le')(hp:zCX ts le x0 p):PsI ts xs (le.filter fun x=>!decide (x∈p)) (fs++[p]):=by
 refine⟨h.pw.filter _,fun x hx=>h.sub x (zAm.mp hx).1,fun qs hq=>?_⟩
 rw[zBC]
 refine h.ac _ ?_
 subst ele
 exact .cons hp hq
theorem PsI.step {ts:List T3}{xs le le' pt pt':List Int}{x0:Int}{fs:List (List Int)}(h:PsI ts xs le fs)(ele:le=x0::le')(p:PtI ts le x0 pt pt.length)(pm:pt'.Perm pt)(so:pt'.Pairwise (· <= ·)):PsI ts xs (le.filter fun x=>!decide (x∈pt)) (fs++[pt']):=by
 have e:(fun x=>!decide (x∈pt))=fun x=>!decide (x∈pt'):=by
  funext x
  rw[decide_eq_decide.mpr pm.mem_iff]
 rw[e]
 refine h.step' ele (p.mw.part pm so fun a ha b l A hb=>?_)
 obtain⟨i,hi,e⟩:=zAC ha
 exact p.done i a hi (by rw[zD hi,e]) b l A hb
section
variable {P:Program}{w:World}{K:PySem.W.Frag}{mg:Str->Option Value}{base:Heap}
section
variable {X:Cx}{pl:Option ComprehensionPlan}{N':List Str}{sc:Scope}{fp:Option Addr}{s3:Shared}{H3:Hp}
end
theorem zFc:zAI ["_law_beside_each", "_law_places", "_law_found", "_law_left", "_law_part", "_law_at"] ["_law_beside_each", "_law_places"] (defScope sPar):=⟨rfl,rfl,rfl,by decide +kernel,rfl,by decide +kernel,by decide +kernel⟩
theorem ok_par {f:Addr}{fd':FuncData}(F:Fun K "_law_parts" "_law_parts" sPar f fd') (mSorted:mg "sorted" = none) (mLen:mg "len" = none):zAa P w K mg base CX0 1 f fd' ["_law_beside_each", "_law_places"] zIF:=by
 refine F.ok zFc (fun vs H Q E h=>?_) (fun cdv A outer s H vs Q E hr h=>?_)
 . obtain⟨bl,la,n,ts,xs,rfl,_⟩:=h
   rfl
 . obtain⟨bl,la,n,ts,xs,rfl,⟨rs,hbl,RB⟩,G,hla,pw,rng,h64,k⟩:=h
   have hu0:=hr.units0
   have hrs:rs.length=n.toNat:=by rw[RB.1,zC,zAx]
   refine⟨_,zZ (zAR (i:=2) zFc.nd rfl (Or.inl rfl) (zCL zR))
    (zZ (zAR (i:=3) zFc.nd rfl (Or.inr rfl) (zAD zCP (by rfl) mSorted (by decide +kernel) (zF (pv 1) zR)))
    (zZ (zC9 PassesOwn.never (zAS (op_neE hu0) (pv 3) (zCL zR) (zAv _))
     (zZ (zAR (i:=4) zFc.nd rfl (Or.inr rfl) (zCo zIK (pv 3) zDV (zDU zm)))
     (zZ (zAR (i:=5) zFc.nd rfl (Or.inl rfl) zm)
     (zZ (zC9 PassesOwn.never (zAS zGX (pv 5) (zAD zAe (by rfl) mLen PySem.boot_len (zF (pv 4) zR)) (zAv _))
      (zZ (zAR (i:=4) zFc.nd rfl (Or.inr rfl) (zBP op_cat (pv 4) (zBq (own:=["_law_one"]) (cn:=["_law_left", "_law_part"]) (ci:=[3,4]) rfl (csc rfl rfl) ⟨rfl,rfl,rfl,rfl,rfl,rfl,trivial⟩ rfl (zB3 (zAj zBE (pv 0) (zAj zBE (pv 4) (pv 5) (fun _ _=>rfl)) (fun _ _=>rfl))) (fun _ _ _ _=>zAP (i:=0) (zCW rfl) rfl (Or.inl rfl))
       (fun _ _ _ _=>zDT (PW.pt (zDx (zAS op_inC (pv 0) (pv 1) (by with_unfolding_all rfl)) (zDS (zAS zDB (pv 0) (pv 2) (by with_unfolding_all rfl)))))) (fun _ _ _ _=>pv 0))))
      (zn (zAR (i:=5) zFc.nd rfl (Or.inl rfl) (zBP zCh (pv 5) zm)))))
     (zZ (zBp (zDW PySem.F.plainAttrs_list PySem.F.slot_list_append PySem.F.type_list_append zBZ (pv 2) (zF (zAD zCP (by rfl) mSorted (by decide +kernel) (zF (pv 4) zR)) zR)))
     (zn (zAR (i:=3) zFc.nd rfl (Or.inr rfl) (zBq (own:=["_law_one"]) (cn:=["_law_part"]) (ci:=[4]) rfl (csc rfl rfl) ⟨rfl,rfl,rfl,trivial⟩ rfl (zB3 (pv 3)) (fun _ _ _ _=>zAP (i:=0) (zCW rfl) rfl (Or.inl rfl))
      (fun _ _ _ _=>zDT (zAS zDB (pv 0) (pv 1) (by with_unfolding_all rfl))) (fun _ _ _ _=>pv 0)))))))))
    (zn (zAd (pv 2))))),?_⟩
   refine⟨zk _,fun fo hfo=>?_⟩
   have s0:=zL (o:=.lst []) hfo
   refine⟨_,rfl,la,xs,rfl,SqL.of (s0 _ _ hla),h64,fun l0 ms hl0 pm0 so0=>?_⟩
   have nd:xs.Nodup:=pw.imp fun h=>by omega
   have e0:ms=xs:=List.Perm.eq_of_pairwise (le:=(· < ·)) (fun a b _ _ h1 h2=>absurd h1 (by omega)) (zCe so0 (pm0.nodup_iff.mpr nd)) pw pm0
   have s1:=s0.trans (zL (o:=.lst (ms.map V.int)) hl0)
   have nl0:l0≠fo:=fun z=>by rw[z,zI] at hl0;cases hl0
   have hfo1:(upd (upd H fo (.lst [])) l0 (.lst (ms.map V.int))) fo=some (.lst (([]:List Addr).map V.ref)):=by rw[zY nl0.symm,zI];rfl
   have hl1:(upd (upd H fo (.lst [])) l0 (.lst (ms.map V.int))) l0=some (.lst (ms.map V.int)):=zI
   generalize upd (upd H fo (.lst [])) l0 (.lst (ms.map V.int))=H1 at s1 hfo1 hl1 ⊢
   refine⟨fun m σ H2=>∃(v4 v5:Option V)(ll:Addr)(le:List Int)(as:List Addr)(fs:List (List Int)),σ=[some (.ref bl),some (.ref la),some (.ref fo),some (.ref ll),v4,v5]/\m=le.length/\zA3 H H2/\H2 ll=some (.lst (le.map V.int))/\H2 fo=some (.lst (as.map V.ref))/\fo∉as/\zCG H2 as fs/\as.length<=64/\fs.length+le.length<=xs.length/\PsI ts xs le fs,
    ⟨ms.length,none,none,l0,ms,[],[],rfl,rfl,s1,hl1,hfo1,by simp,⟨rfl,fun i r row e=>by simp at e⟩,by simp,by rw[List.length_nil,Nat.zero_add,pm0.length_eq];exact zG _,⟨e0 ▸ pw,fun x hx=>e0 ▸ hx,fun qs hq=>e0 ▸ hq⟩⟩,fun m σ H2 z=>?_⟩
   obtain⟨v4,v5,ll,le,as,fs,rfl,rfl,s2,hll,hfo2,nfo,RF,has,hcnt,PS⟩:=z
   have ndl:le.Nodup:=PS.pw.imp fun h=>by omega
   have lex:=PS.sub
   have lel:le.length<=xs.length:=by omega
   refine⟨_,rfl,zk _,fun b hb=>?_⟩
   have sb:=zL (o:=.lst []) hb
   refine⟨ll,b,le.map V.int,rfl,rfl,SqL.of (sb _ _ hll),SqL.of zI,_,rfl,?_⟩
   have s3:=s2.trans sb
   have hll3:=sb _ _ hll
   have hfo3:=sb _ _ hfo2
   have RF3:=RF.same sb
   generalize upd H2 b (.lst [])=H3 at s3 hll3 hfo3 RF3 ⊢
   clear hb sb hll hfo2 RF s2 b H2
   cases le with
   | nil=>
    refine zDY ?_
    refine⟨_,rfl,k fo fs H3 hfo s3 ⟨as,hfo3,RF3⟩ ?_⟩
    have:=PS.ac [] .nil
    rwa [zw] at this
   | cons x0 le'=>
   refine zC3 ⟨fun σ' H'=>∃(v4 v5:Option V)(ll:Addr)(le1:List Int)(as:List Addr)(fs:List (List Int)),σ'=[some (.ref bl),some (.ref la),some (.ref fo),some (.ref ll),v4,v5]/\le1.length<(x0::le').length/\zA3 H H'/\H' ll=some (.lst (le1.map V.int))/\H' fo=some (.lst (as.map V.ref))/\fo∉as/\zCG H' as fs/\as.length<=64/\fs.length+le1.length<=xs.length/\PsI ts xs le1 fs,?_,?_⟩
   . rintro σ' H' ⟨v4,v5,ll,le1,as,fs,rfl,hlt,r⟩
     exact⟨le1.length,hlt,v4,v5,ll,le1,as,fs,rfl,rfl,r⟩
   . refine⟨_,rfl,_,rfl,ll,_,rfl,SqL.of hll3,fun p0 hp0=>?_⟩
     rw[cut1]
     have sp:=zL (o:=.lst (((x0::le').map V.int).take 1)) hp0
     have s4:=s3.trans sp
     have hp4:(upd H3 p0 (.lst (((x0::le').map V.int).take 1))) p0=some (.lst ([x0].map V.int)):=zI
     have hll4:=sp _ _ hll3
     have hfo4:=sp _ _ hfo3
     have RF4:=RF3.same sp
     generalize upd H3 p0 (.lst (((x0::le').map V.int).take 1))=H4 at s4 hp4 hll4 hfo4 RF4 ⊢
     clear sp hll3 hfo3 RF3 s3 hp0
     obtain⟨le,ele⟩:∃le,le=x0::le':=⟨_,rfl⟩
     rw[<-ele] at hll4 ndl lex lel PS hcnt ⊢
     have P0:PtI ts le x0 [x0] 0:=⟨Mtw.start (by rw[ele];exact zN),zk _,fun i a hi=>absurd hi (Nat.not_lt_zero _)⟩
     refine⟨fun m σ H5=>∃(pp:Addr)(pt:List Int)(a':Nat),σ=[some (.ref bl),some (.ref la),some (.ref fo),some (.ref ll),some (.ref pp),some (.int a')]/\m=le.length-a'/\zA3 H4 H5/\H5 pp=some (.lst (pt.map V.int))/\PtI ts le x0 pt a',⟨_,p0,[x0],0,rfl,rfl,zA3.refl _,hp4,P0⟩,fun m σ H5 z=>?_⟩
     obtain⟨pp,pt,a',rfl,rfl,s5,hpp,PI⟩:=z
     have ptl:pt.length<=le.length:=zCN PI.mw.nd PI.mw.sub
     refine⟨_,rfl,_,rfl,pp,_,rfl,.inl (SqL.of hpp),_,_,rfl,rfl,_,rfl,?_⟩
     rw[zC]
     by_cases c:a'<pt.length
     . refine ifT (zM (by omega)) ⟨fun σ' H'=>∃(pp:Addr)(pt:List Int),σ'=[some (.ref bl),some (.ref la),some (.ref fo),some (.ref ll),some (.ref pp),some (.int ((a'+1:Nat):Int))]/\zA3 H4 H'/\H' pp=some (.lst (pt.map V.int))/\PtI ts le x0 pt (a'+1),?_,?_⟩
       . rintro σ' H' ⟨pp,pt',rfl,s',hp',P'⟩
         exact⟨_,by omega,pp,pt',a'+1,rfl,rfl,s',hp',P'⟩
       . have ex:pt[a']? = some pt[a']:=zD c
         have hxm:=PI.mw.sub _ (zAy c)
         generalize pt[a']=x at ex hxm
         have rx:=rng x (lex x hxm)
         obtain⟨xn,rfl⟩:=zBO rx.1
         have hxr:xn<rs.length:=by omega
         have hrow:=RB.2 xn rs[xn] _ (zD hxr) (zCn (by omega))
         have s05:=s4.trans s5
         have hrow5:=s05 _ _ hrow
         have hrl:(zDk ts xn).length<=100:=by
          have:=zGS G ts.length (xn:Int)
          rw[zd (zG _)] at this
          have:=G.len
          omega
         refine⟨_,rfl,_,rfl,_,rfl,_,rfl,pp,_,_,.int xn,rfl,rfl,SqL.of hpp,zB8 (by rw[zT,ex];rfl),bl,_,_,.ref rs[xn],rfl,rfl,SqL.of (s05 _ _ hbl),zB8 (by rw[zT,zD hxr];rfl),rs[xn],rfl,⟨_,SqL.of hrow5⟩,[.ref ll,.ref pp],rfl,fun D hD=>?_⟩
         have hll5:=s5 _ _ hll4
         refine zBl (a:=rs[xn]) (xs:=(zDk ts xn).map V.int) (fun i ys H6=>ys=(((zDk ts xn).take i).filter fun y=>decide (y∈le) && !decide (y∈pt)).map V.int/\H6=upd H5 D (.lst ys)) ⟨rfl,rfl⟩ (fun i ys H6 z=>?_) (fun i ys H6 z=>?_) (fun i v ys H6 hv z=>?_) (fun ys H6 z=>?_)
         . obtain⟨_,rfl⟩:=z
           exact SqL.of (by rw[zY (zg hrow5 hD)];exact hrow5)
         . obtain⟨rfl,_⟩:=z
           rw[zC]
           refine zAQ (zAF _ _) ?_
           rw[zp]
           exact zz (by omega)
         . obtain⟨rfl,rfl⟩:=z
           obtain⟨y,hy,rfl⟩:∃y,(zDk ts xn)[i]? = some y/\V.int y=v:=by
            rw[zT] at hv
            cases e:(zDk ts xn)[i]? with
            | none=>rw[e] at hv;cases hv
            | some y=>rw[e] at hv;exact⟨y,rfl,za hv⟩
           have st:((zDk ts xn).take (i+1)).filter (fun y=>decide (y∈le) && !decide (y∈pt))=((zDk ts xn).take i).filter (fun y=>decide (y∈le) && !decide (y∈pt))++[y].filter (fun y=>decide (y∈le) && !decide (y∈pt)):=by rw[zAA,hy,List.filter_append];rfl
           refine⟨⟨rfl,rfl⟩,?_⟩
           refine⟨_,rfl,_,rfl,ll,_,rfl,.inl (SqL.of (by rw[zY (zg hll5 hD)];exact hll5)),rfl,zBk _,_,rfl,?_⟩
           show (if inV (.int y) (le.map V.int)=true then _ else _)
           rw[zBm]
           by_cases c1:y∈le
           . rw[zM c1]
             refine zC3 ?_
             refine⟨_,rfl,_,rfl,pp,_,rfl,.inl (SqL.of (by rw[zY (zg hpp hD)];exact hpp)),rfl,zBk _,_,rfl,?_⟩
             show (if (!inV (.int y) (pt.map V.int))=true then _ else _)
             rw[zBm]
             by_cases c2:y∈pt
             . rw[zM c2]
               refine zDY ⟨?_,rfl⟩
               rw[st,zA4 (by rw[zM c2,Bool.not_true,Bool.and_false];decide),zAn,zw]
             . rw[zV c2]
               refine zC3 ⟨_,rfl,zI,?_,zCA⟩
               rw[st,zBN (by rw[zM c1,zV c2];rfl),zAn,ze];rfl
           . rw[zV c1]
             refine zDY (zDY ⟨?_,rfl⟩)
             rw[st,zA4 (by rw[zV c1,Bool.false_and];decide),zAn,zw]
         . obtain⟨rfl,rfl⟩:=z
           rw[zC,zd (zG _)]
           have sD:=zL (o:=.lst (((zDk ts xn).filter fun y=>decide (y∈le) && !decide (y∈pt)).map V.int)) hD
           have PI':=PI.step G ex
           have l1:(pt++(zDk ts xn).filter fun y=>decide (y∈le) && !decide (y∈pt)).length<=le.length:=zCN PI'.mw.nd PI'.mw.sub
           rw[zH] at l1
           refine⟨pp,D,_,_,rfl,rfl,sD _ _ hpp,zI,by rw[zC,zC];exact zBQ (zz (by omega)),fun pq hpq=>?_⟩
           refine⟨_,rfl,_,_,rfl,rfl,?_⟩
           refine⟨pq,_,?_,(s5.trans sD).trans (zL hpq),by rw[zI,<-ze],PI'⟩
           rfl
     . refine ifF (zV (by omega)) ?_
       have ea:a'=pt.length:=by have:=PI.at_le;omega
       subst ea
       have s05:=s4.trans s5
       have hfo5:=s5 _ _ hfo4
       have RF5:=RF4.same s5
       have hll5:=s5 _ _ hll4
       refine⟨_,rfl,.inl ⟨rfl,_,SqL.of hfo5⟩,_,rfl,pp,pt,rfl,SqL.of hpp,by omega,fun sp ms' hsp pm' so'=>?_⟩
       have s6:=zL (o:=.lst (ms'.map V.int)) hsp
       have nsp:sp≠fo:=fun z=>by
        have:H5 sp=none:=hsp
        rw[z,hfo5] at this;cases this
       refine⟨fo,_,.ref sp,rfl,rfl,s6 _ _ hfo5,by rw[zC];exact zz (by omega),?_⟩
       have RF7:zCG (upd (upd H5 sp (.lst (ms'.map V.int))) fo (.lst (as.map V.ref++[.ref sp]))) (as++[sp]) (fs++[ms']):=by
        refine zCG.off (zCG.snoc (RF5.same s6) zI) fun z=>?_
        rcases zQ.mp z with z | z
        . exact nfo z
        . exact nsp (zX.mp z).symm
       have s7:zA3 H (upd (upd H5 sp (.lst (ms'.map V.int))) fo (.lst (as.map V.ref++[.ref sp]))):=zA9 (s05.trans s6) hfo
       have hfo7:(upd (upd H5 sp (.lst (ms'.map V.int))) fo (.lst (as.map V.ref++[.ref sp]))) fo=some (.lst ((as++[sp]).map V.ref)):=by rw[zI,ze];rfl
       have hk:∀q zs,q≠fo->H5 q=some (.lst zs)->(upd (upd H5 sp (.lst (ms'.map V.int))) fo (.lst (as.map V.ref++[.ref sp]))) q=some (.lst zs):=fun q zs nq e=>by rw[zY nq];exact s6 _ _ e
       have nllf:ll≠fo:=fun z=>by
        rw[z,hfo5] at hll5
        rw[ele] at hll5
        cases as with
        | nil=>cases hll5
        | cons u v=>cases hll5
       have nppf:pp≠fo:=fun z=>by
        rw[z,hfo5] at hpp
        cases pt with
        | nil=>exact PI.ne rfl
        | cons x l=>cases as with
         | nil=>cases hpp
         | cons u v=>cases hpp
       have hll7:=hk ll _ nllf hll5
       have hpp7:=hk pp _ nppf hpp
       generalize upd (upd H5 sp (.lst (ms'.map V.int))) fo (.lst (as.map V.ref++[.ref sp]))=H7 at RF7 s7 hfo7 hll7 hpp7 ⊢
       refine⟨_,rfl,ll,rfl,⟨_,SqL.of hll7⟩,[.ref pp],rfl,fun D hD=>?_⟩
       refine zBl (a:=ll) (xs:=le.map V.int) (fun i ys H8=>ys=((le.take i).filter fun y=>!decide (y∈pt)).map V.int/\H8=upd H7 D (.lst ys)) ⟨rfl,rfl⟩ (fun i ys H8 z=>?_) (fun i ys H8 z=>?_) (fun i v ys H8 hv z=>?_) (fun ys H8 z=>?_)
       . obtain⟨_,rfl⟩:=z
         exact SqL.of (by rw[zY (zg hll7 hD)];exact hll7)
       . obtain⟨rfl,_⟩:=z
         rw[zC]
         refine zAQ (zAF _ _) ?_
         rw[zp]
         exact zz (by omega)
       . obtain⟨rfl,rfl⟩:=z
         obtain⟨y,hy,rfl⟩:∃y,le[i]? = some y/\V.int y=v:=by
          rw[zT] at hv
          cases e:le[i]? with
          | none=>rw[e] at hv;cases hv
          | some y=>rw[e] at hv;exact⟨y,rfl,za hv⟩
         have st:(le.take (i+1)).filter (fun y=>!decide (y∈pt))=(le.take i).filter (fun y=>!decide (y∈pt))++[y].filter (fun y=>!decide (y∈pt)):=by rw[zAA,hy,List.filter_append];rfl
         refine⟨⟨rfl,rfl⟩,?_⟩
         refine⟨_,rfl,_,rfl,pp,_,rfl,.inl (SqL.of (by rw[zY (zg hpp7 hD)];exact hpp7)),rfl,zBk _,_,rfl,?_⟩
         show (if (!inV (.int y) (pt.map V.int))=true then _ else _)
         rw[zBm]
         by_cases c2:y∈pt
         . rw[zM c2]
           refine zDY ⟨?_,rfl⟩
           rw[st,zA4 (by rw[zM c2];decide),zAn,zw]
         . rw[zV c2]
           refine zC3 ⟨_,rfl,zI,?_,zCA⟩
           rw[st,zBN (by rw[zV c2];rfl),zAn,ze];rfl
       . obtain⟨rfl,rfl⟩:=z
         rw[zC,zd (zG _)]
         have sD:=zL (o:=.lst ((le.filter fun y=>!decide (y∈pt)).map V.int)) hD
         have PS':=PS.step ele PI pm' so'
         have flen:(le.filter fun y=>!decide (y∈pt)).length<le.length:=by
          refine Nat.lt_of_le_of_ne (zAF _ _) fun z=>?_
          have:=List.length_filter_eq_length_iff.mp z
          obtain⟨x,hx⟩:=List.exists_mem_of_ne_nil pt PI.ne
          have:=this x (PI.mw.sub x hx)
          rw[zM hx] at this
          cases this
         refine⟨_,_,D,_,as++[sp],fs++[ms'],rfl,flen,s7.trans sD,zI,sD _ _ hfo7,fun z=>?_,RF7.same sD,?_,?_,PS'⟩
         . rcases zQ.mp z with z | z
           . exact nfo z
           . exact nsp (zX.mp z).symm
         . have:=RF7.1
           rw[zH,zH] at this
           rw[zH,zAc]
           have:=RF5.1
           omega
         . rw[zH,zAc]
           omega
end
end K41
namespace K41
open PySem L2 WM
noncomputable def zGM:Sp:=fun vs H Q _=>∃(wa:Addr)(n:Int)(ts:List T3),vs=[.ref wa]/\zBU H wa n ts/\∀(b:Bool)(H':Hp),(b=true↔zH4 ts (lowTo n.toNat))->zA3 H H'->Q (.bl b) H'
noncomputable def zGI (n:Int)(ts:List T3):Prop:=zH4 ts (lowTo n.toNat)/\(ts.length:Int)=n-1
noncomputable def spIt:Sp:=fun vs H Q _=>∃(wa:Addr)(n:Int)(ts:List T3),vs=[.ref wa]/\zBU H wa n ts/\∀(b:Bool)(H':Hp),(b=true↔zGI n ts)->zA3 H H'->Q (.bl b) H'
noncomputable def zIE:Sp:=fun vs H Q _=>∃(wa pl:Addr)(n:Int)(ts:List T3)(xs:List Int)(g:Int),vs=[.ref wa,.ref pl,.int g]/\zBU H wa n ts/\H pl=some (.lst (xs.map V.int))/\xs.Pairwise (· < ·)/\xs.length<64 /\
 ∀(fl:Addr)(ps:List (List Int))(H':Hp),H fl=none->zA3 H H'->zCx H' fl ps->zAb ts (xs.filter fun y=>decide (y≠g)) ps->Q (.ref fl) H'
noncomputable def spGp:Sp:=fun vs H Q _=>∃(wa pl:Addr)(n:Int)(ts:List T3)(xs:List Int)(g:Int),vs=[.ref wa,.ref pl,.int g]/\zBU H wa n ts/\H pl=some (.lst (xs.map V.int))/\xs.Pairwise (· < ·)/\xs.length<64 /\
 ∀(ps:List (List Int))(H':Hp),zA3 H H'->zAb ts (xs.filter fun y=>decide (y≠g)) ps->Q (.int (big ps)) H'
theorem zG9 (q:Nat):(lowTo q).Nodup:=(zDF q).imp fun h=>by omega
theorem zCq (q:Nat):(lowTo q).Pairwise (· < ·):=(zDF q).imp fun h=>by omega
section
variable {P:Program}{w:World}{K:PySem.W.Frag}{mg:Str->Option Value}{base:Heap}
theorem zLJ:zAI ["web"] ["web"] (defScope zFe):=⟨rfl,rfl,rfl,by decide +kernel,rfl,by decide +kernel,by decide +kernel⟩
theorem zJ8 {f fJ:Addr}{fd' fdJ:FuncData}{m:Nat}(F:Fun K "is_whole" "is_whole" zFe f fd') (FJ:Fun K "joined_within" "joined_within" sJw fJ fdJ) (bJ:zAH K fdJ ["web", "places", "start"] []) (mJ:mg "joined_within" = some (.ref fJ))
 (GJ:zAa P w K mg base CX0 m fJ fdJ ["web", "places", "start"] spJw) (mLen:mg "len" = none) (mRange:mg "range" = none) (mList:mg "list" = none) :
 zAa P w K mg base CX0 (m+1) f fd' ["web"] zGM:=by
 refine F.ok zLJ (fun vs H Q E h=>?_) (fun cdv A outer s H vs Q E hr h=>?_)
 . obtain⟨wa,n,ts,rfl,_⟩:=h
   rfl
 . obtain⟨wa,n,ts,rfl,W,k⟩:=h
   obtain⟨ta,tys,hwa,_,_,G⟩:=id W
   have hn1:=G.n1
   have hn24:=G.n24
   refine⟨_,zn (zAd (zCC zD6 (zAD zAe (by rfl) mLen PySem.boot_len (zF (zx GJ hr rfl mJ FJ.kp bJ .nil zAk (zF (pv 0) (zF (zCg rfl rfl mList rfl mRange (zF (zAj zAp (pv 0) zm (fun _ _=>rfl)) zR)) (zBy zR)))) zR)) (zAj zAp (pv 0) zm (fun _ _=>rfl)) (zAv _))),?_⟩
   refine⟨_,rfl,_,rfl,wa,_,_,_,rfl,rfl,SqT.of hwa,rfl,n,rfl,by omega,by omega,fun pl hpl=>?_⟩
   refine⟨wa,pl,n,ts,lowTo n.toNat,0,rfl,W.keep (zL hpl),zI,zCO.mpr (by omega),by rw[zAx];omega,fun la p H' _ s' hla hp=>?_⟩
   have s2:=(zL hpl).trans s'
   refine⟨la,_,rfl,.inl (SqL.of hla),_,rfl,wa,_,_,_,rfl,rfl,SqT.of (s2 _ _ hwa),rfl,rfl,?_⟩
   rw[zHK,zC]
   refine k _ H' ?_ s2
   rw[zAZ,<-zG7 hp (zG9 _),zAx]
   omega
theorem scIt:zAI ["web"] ["web"] (defScope sIt):=⟨rfl,rfl,rfl,by decide +kernel,rfl,by decide +kernel,by decide +kernel⟩
theorem ok_it {f fJ:Addr}{fd' fdJ:FuncData}{m:Nat}(F:Fun K "is_tree" "is_tree" sIt f fd') (FJ:Fun K "is_whole" "is_whole" zFe fJ fdJ) (bJ:zAH K fdJ ["web"] []) (mJ:mg "is_whole" = some (.ref fJ))
 (GJ:zAa P w K mg base CX0 m fJ fdJ ["web"] zGM) (mLen:mg "len" = none):zAa P w K mg base CX0 (m+1) f fd' ["web"] spIt:=by
 refine F.ok scIt (fun vs H Q E h=>?_) (fun cdv A outer s H vs Q E hr h=>?_)
 . obtain⟨wa,n,ts,rfl,_⟩:=h
   rfl
 . obtain⟨wa,n,ts,rfl,W,k⟩:=h
   obtain⟨ta,tys,hwa,hta,TA,G⟩:=id W
   have htl:=TA.length
   rw[zC] at htl
   refine⟨_,zn (zAd (zCw (zx GJ hr rfl mJ FJ.kp bJ .nil zAk (zF (pv 0) zR)) (zCu (zCC zD6 (zAD zAe (by rfl) mLen PySem.boot_len (zF (zAj zAp (pv 0) zm (fun _ _=>rfl)) zR)) (zBP zD2 (zAj zAp (pv 0) zm (fun _ _=>rfl)) zm) (zAv _))))),?_⟩
   refine⟨_,rfl,wa,n,ts,rfl,W,fun b H1 hb s1=>⟨_,rfl,?_⟩⟩
   cases b with
   | false=>exact zDY (k false H1 ⟨(fun z=>by cases z),(fun z=>hb.mpr z.1)⟩ s1)
   | true=>
    refine zC3 ⟨_,rfl,wa,_,_,.ref ta,rfl,rfl,SqT.of (s1 _ _ hwa),rfl,ta,_,rfl,.inr (SqT.of (s1 _ _ hta)),_,rfl,wa,_,_,.int n,rfl,rfl,SqT.of (s1 _ _ hwa),rfl,_,_,rfl,rfl,rfl,?_⟩
    rw[zHK,htl]
    refine k _ H1 ?_ s1
    rw[zAZ]
    exact⟨fun z=>⟨hb.mp rfl,z⟩,fun z=>z.2⟩
theorem zIQ:zAI ["web", "places", "gone", "left", "parts", "part"] ["web", "places", "gone"] (defScope sPwo):=⟨rfl,rfl,rfl,by decide +kernel,rfl,by decide +kernel,by decide +kernel⟩
theorem ok_pwo {f fJ:Addr}{fd' fdJ:FuncData}{m:Nat}(F:Fun K "parts_without" "parts_without" sPwo f fd') (FJ:Fun K "joined_within" "joined_within" sJw fJ fdJ) (bJ:zAH K fdJ ["web", "places", "start"] []) (mJ:mg "joined_within" = some (.ref fJ))
 (GJ:zAa P w K mg base CX0 m fJ fdJ ["web", "places", "start"] spJw):zAa P w K mg base CX0 (m+1) f fd' ["web", "places", "gone"] zIE:=by
 refine F.ok zIQ (fun vs H Q E h=>?_) (fun cdv A outer s H vs Q E hr h=>?_)
 . obtain⟨wa,pl,n,ts,xs,g,rfl,_⟩:=h
   rfl
 . obtain⟨wa,pl,n,ts,xs,g,rfl,W,hpl,pw,h64,k⟩:=h
   refine⟨_,zZ (zE6 (i:=3) (own:=["place"]) (cn:=["gone"]) (ci:=[2]) zIQ.nd rfl (Or.inl rfl) rfl (csc rfl rfl) ⟨rfl,rfl,rfl,trivial⟩ rfl (zB3 (pv 1)) (fun _ _ _ _=>zAP (i:=0) (zCW rfl) rfl (Or.inl rfl)) (fun _ _ _ _=>zDT (zAS zHi (pv 0) (pv 1) (zAv _))) (fun _ _ _ _=>pv 0))
    (zZ (zAR (i:=4) zIQ.nd rfl (Or.inl rfl) (zCL zR))
    (zZ (zC9 PassesOwn.never (zJ1 (pv 3) (fun _=>rfl))
     (zZ (zAR (i:=5) zIQ.nd rfl (Or.inr rfl) (zx GJ hr rfl mJ FJ.kp bJ .nil zAk (zF (pv 0) (zF (pv 3) (zF (zAj zBE (pv 3) zm (fun _ _=>rfl)) zR)))))
     (zZ (zBp (zDW PySem.F.plainAttrs_list PySem.F.slot_list_append PySem.F.type_list_append zBZ (pv 4) (zF (pv 5) zR)))
     (zn (zE6 (i:=3) (own:=["place"]) (cn:=["part"]) (ci:=[5]) zIQ.nd rfl (Or.inl rfl) rfl (csc rfl rfl) ⟨rfl,rfl,rfl,trivial⟩ rfl (zB3 (pv 3)) (fun _ _ _ _=>zAP (i:=0) (zCW rfl) rfl (Or.inl rfl)) (fun _ _ _ _=>zDT (zAS zDB (pv 0) (pv 1) (by with_unfolding_all rfl))) (fun _ _ _ _=>pv 0))))))
    (zn (zAd (pv 4))))),?_⟩
   refine⟨_,rfl,pl,rfl,⟨_,SqL.of hpl⟩,[.int g],rfl,fun D hD=>?_⟩
   refine zBl (a:=pl) (xs:=xs.map V.int) (fun i ys H8=>ys=((xs.take i).filter fun y=>decide (y≠g)).map V.int/\H8=upd H D (.lst ys)) ⟨rfl,rfl⟩ (fun i ys H8 z=>?_) (fun i ys H8 z=>?_) (fun i v ys H8 hv z=>?_) (fun ys H8 z=>?_)
   . obtain⟨_,rfl⟩:=z
     exact SqL.of (by rw[zY (zg hpl hD)];exact hpl)
   . obtain⟨rfl,_⟩:=z
     rw[zC]
     refine zAQ (zAF _ _) ?_
     rw[zp]
     exact zz (by omega)
   . obtain⟨rfl,rfl⟩:=z
     obtain⟨y,hy,rfl⟩:∃y,xs[i]? = some y/\V.int y=v:=by
      rw[zT] at hv
      cases e:xs[i]? with
      | none=>rw[e] at hv;cases hv
      | some y=>rw[e] at hv;exact⟨y,rfl,za hv⟩
     have st:(xs.take (i+1)).filter (fun y=>decide (y≠g))=(xs.take i).filter (fun y=>decide (y≠g))++[y].filter (fun y=>decide (y≠g)):=by rw[zAA,hy,List.filter_append];rfl
     refine⟨⟨rfl,rfl⟩,?_⟩
     refine⟨_,rfl,_,rfl,rfl,_,rfl,?_⟩
     by_cases c2:y=g
     . refine ifF (by rw[c2];simp) ⟨?_,rfl⟩
       rw[st,zA4 (by simp[c2]),zAn,zw]
     . refine ifT (by simp[c2]) ⟨_,rfl,zI,?_,zCA⟩
       rw[st,zBN (by simp[c2]),zAn,ze];rfl
   . obtain⟨rfl,rfl⟩:=z
     rw[zC,zd (zG _)]
     have s1:=zL (o:=.lst ((xs.filter fun y=>decide (y≠g)).map V.int)) hD
     have hl0:(xs.filter fun y=>decide (y≠g)).length<64:=zAQ (zAF _ _) h64
     have pw0:(xs.filter fun y=>decide (y≠g)).Pairwise (· < ·):=pw.filter _
     have hD1:(upd H D (.lst ((xs.filter fun y=>decide (y≠g)).map V.int))) D=some (.lst ((xs.filter fun y=>decide (y≠g)).map V.int)):=zI
     generalize upd H D (.lst ((xs.filter fun y=>decide (y≠g)).map V.int))=H1 at s1 hD1 ⊢
     generalize xs.filter (fun y=>decide (y≠g))=ls at k hl0 pw0 hD1 ⊢
     refine⟨zk _,fun fo hfo=>?_⟩
     have hfo0:H fo=none:=zA3.none s1 hfo
     have s2:=s1.trans (zL (o:=.lst []) hfo)
     refine⟨fun m σ H2=>∃(v5:Option V)(ll:Addr)(le:List Int)(as:List Addr)(fs:List (List Int)),σ=[some (.ref wa),some (.ref pl),some (.int g),some (.ref ll),some (.ref fo),v5]/\m=le.length/\zA3 H H2/\H2 ll=some (.lst (le.map V.int))/\H2 fo=some (.lst (as.map V.ref))/\fo∉as/\ll≠fo/\zCG H2 as fs/\fs.length+le.length<=ls.length/\PsI ts ls le fs,
      ⟨ls.length,none,D,ls,[],[],rfl,rfl,s2,zL hfo _ _ hD1,zI,by simp,(zg hD1 hfo),⟨rfl,fun i r row e=>by simp at e⟩,by simp,⟨pw0,fun _ h=>h,fun _ h=>h⟩⟩,fun m σ H2 z=>?_⟩
     obtain⟨v5,ll,le,as,fs,rfl,rfl,s2,hll,hfo2,nfo,nlf,RF,hcnt,PS⟩:=z
     refine⟨_,rfl,_,.inl ⟨_,SqL.of hll,rfl⟩,?_⟩
     cases le with
     | nil=>
      refine zDY ⟨_,rfl,k fo fs H2 hfo0 s2 ⟨as,hfo2,RF⟩ ?_⟩
      have:=PS.ac [] .nil
      rwa [zw] at this
     | cons x0 le'=>
     refine zC3 ⟨fun σ' H'=>∃(v5:Option V)(ll:Addr)(le1:List Int)(as:List Addr)(fs:List (List Int)),σ'=[some (.ref wa),some (.ref pl),some (.int g),some (.ref ll),some (.ref fo),v5]/\le1.length<(x0::le').length/\zA3 H H'/\H' ll=some (.lst (le1.map V.int))/\H' fo=some (.lst (as.map V.ref))/\fo∉as/\ll≠fo/\zCG H' as fs/\fs.length+le1.length<=ls.length/\PsI ts ls le1 fs,?_,?_⟩
     . rintro σ' H' ⟨v5,ll,le1,as,fs,rfl,hlt,r⟩
       exact⟨le1.length,hlt,v5,ll,le1,as,fs,rfl,rfl,r⟩
     . obtain⟨le,ele⟩:∃le,le=x0::le':=⟨_,rfl⟩
       have hx0:atI (le.map V.int) 0=some (.int x0):=zB8 (j:=0) (by rw[ele];rfl)
       rw[<-ele] at hll PS hcnt ⊢
       refine⟨_,rfl,_,rfl,_,rfl,ll,_,_,.int x0,rfl,rfl,SqL.of hll,hx0,wa,ll,n,ts,le,x0,rfl,W.keep s2,hll,by rw[ele];exact zN,by omega,fun la p H3 hla0 s3 hla hp=>?_⟩
       have s03:=s2.trans s3
       have hfo3:=s3 _ _ hfo2
       have hll3:=s3 _ _ hll
       have nlaf:la≠fo:=fun z=>by rw[z,hfo2] at hla0;cases hla0
       have has:as.length<=64:=by have:=RF.1;omega
       refine⟨_,rfl,.inl ⟨rfl,_,SqL.of hfo3⟩,_,rfl,fo,_,_,rfl,rfl,hfo3,by rw[zC];exact zz (by omega),?_⟩
       have RF4:zCG (upd H3 fo (.lst (as.map V.ref++[.ref la]))) (as++[la]) (fs++[p]):=by
        refine zCG.off (zCG.snoc (RF.same s3) hla) fun z=>?_
        rcases zQ.mp z with z | z
        . exact nfo z
        . exact nlaf (zX.mp z).symm
       have s4:zA3 H (upd H3 fo (.lst (as.map V.ref++[.ref la]))):=zA9 s03 hfo0
       have hfo4:(upd H3 fo (.lst (as.map V.ref++[.ref la]))) fo=some (.lst ((as++[la]).map V.ref)):=by rw[zI,ze];rfl
       have hll4:(upd H3 fo (.lst (as.map V.ref++[.ref la]))) ll=some (.lst (le.map V.int)):=by rw[zY nlf];exact hll3
       have hla4:(upd H3 fo (.lst (as.map V.ref++[.ref la]))) la=some (.lst (p.map V.int)):=by rw[zY nlaf];exact hla
       generalize upd H3 fo (.lst (as.map V.ref++[.ref la]))=H4 at RF4 s4 hfo4 hll4 hla4 ⊢
       refine⟨_,rfl,ll,rfl,⟨_,SqL.of hll4⟩,[.ref la],rfl,fun D2 hD2=>?_⟩
       refine zBl (a:=ll) (xs:=le.map V.int) (fun i ys H8=>ys=((le.take i).filter fun y=>!decide (y∈p)).map V.int/\H8=upd H4 D2 (.lst ys)) ⟨rfl,rfl⟩ (fun i ys H8 z=>?_) (fun i ys H8 z=>?_) (fun i v ys H8 hv z=>?_) (fun ys H8 z=>?_)
       . obtain⟨_,rfl⟩:=z
         exact SqL.of (by rw[zY (zg hll4 hD2)];exact hll4)
       . obtain⟨rfl,_⟩:=z
         rw[zC]
         refine zAQ (zAF _ _) ?_
         rw[zp]
         exact zz (by omega)
       . obtain⟨rfl,rfl⟩:=z
         obtain⟨y,hy,rfl⟩:∃y,le[i]? = some y/\V.int y=v:=by
          rw[zT] at hv
          cases e:le[i]? with
          | none=>rw[e] at hv;cases hv
          | some y=>rw[e] at hv;exact⟨y,rfl,za hv⟩
         have st:(le.take (i+1)).filter (fun y=>!decide (y∈p))=(le.take i).filter (fun y=>!decide (y∈p))++[y].filter (fun y=>!decide (y∈p)):=by rw[zAA,hy,List.filter_append];rfl
         refine⟨⟨rfl,rfl⟩,?_⟩
         refine⟨_,rfl,_,rfl,la,_,rfl,.inl (SqL.of (by rw[zY (zg hla4 hD2)];exact hla4)),rfl,zBk _,_,rfl,?_⟩
         show (if (!inV (.int y) (p.map V.int))=true then _ else _)
         rw[zBm]
         by_cases c2:y∈p
         . rw[zM c2]
           refine zDY ⟨?_,rfl⟩
           rw[st,zA4 (by rw[zM c2];decide),zAn,zw]
         . rw[zV c2]
           refine zC3 ⟨_,rfl,zI,?_,zCA⟩
           rw[st,zBN (by rw[zV c2];rfl),zAn,ze];rfl
       . obtain⟨rfl,rfl⟩:=z
         rw[zC,zd (zG _)]
         have sD:=zL (o:=.lst ((le.filter fun y=>!decide (y∈p)).map V.int)) hD2
         have flen:(le.filter fun y=>!decide (y∈p)).length<le.length:=by
          refine Nat.lt_of_le_of_ne (zAF _ _) fun z=>?_
          have:=List.length_filter_eq_length_iff.mp z x0 (by rw[ele];exact zN)
          rw[zM hp.mem] at this
          cases this
         refine⟨_,D2,_,as++[la],fs++[p],rfl,flen,s4.trans sD,zI,sD _ _ hfo4,fun z=>?_,fun z=>?_,RF4.same sD,?_,PS.step' ele hp⟩
         . rcases zQ.mp z with z | z
           . exact nfo z
           . exact nlaf (zX.mp z).symm
         . rw[z,hfo4] at hD2;cases hD2
         . rw[zH,zAc]
           omega
theorem scGp:zAI ["web", "places", "gone"] ["web", "places", "gone"] (defScope sGp):=⟨rfl,rfl,rfl,by decide +kernel,rfl,by decide +kernel,by decide +kernel⟩
theorem zJX:∀{ps:List (List Int)}{n:Int},n∈ps.map (fun p=>(p.length:Int))->(∀a∈ps.map (fun p=>(p.length:Int)),a<=n)->n=big ps:=fun {ps n} hn hm=>by
 obtain⟨p,hp,rfl⟩:=zAT.mp hn
 obtain⟨q,hq,e⟩:=zKw (ps:=ps) (List.ne_nil_of_mem hp)
 have h1:=zJY.mp (zG (big ps)) p hp
 have h2:=hm _ (zAT.mpr ⟨q,hq,rfl⟩)
 omega
theorem ok_gp {f fJ:Addr}{fd' fdJ:FuncData}{m:Nat}(F:Fun K "greatest_part" "greatest_part" sGp f fd') (FJ:Fun K "parts_without" "parts_without" sPwo fJ fdJ) (bJ:zAH K fdJ ["web", "places", "gone"] []) (mJ:mg "parts_without" = some (.ref fJ))
 (GJ:zAa P w K mg base CX0 m fJ fdJ ["web", "places", "gone"] zIE) (mLen:mg "len" = none) (mMax:mg "max" = none):zAa P w K mg base CX0 (m+1) f fd' ["web", "places", "gone"] spGp:=by
 refine F.ok scGp (fun vs H Q E h=>?_) (fun cdv A outer s H vs Q E hr h=>?_)
 . obtain⟨wa,pl,n,ts,xs,g,rfl,_⟩:=h
   rfl
 . obtain⟨wa,pl,n,ts,xs,g,rfl,W,hpl,pw,h64,k⟩:=h
   have hu:=zGe hr
   refine⟨_,zn (zAd (zGW rfl hu rfl mMax (zF (zBq (own:=["part"]) (cn:=[]) (ci:=[]) rfl (csc rfl rfl) trivial rfl (zB3 (zx GJ hr rfl mJ FJ.kp bJ .nil zAk (zF (pv 0) (zF (pv 1) (zF (pv 2) zR))))) (fun _ _ _ _=>zAP (i:=0) (zCW rfl) rfl (Or.inl rfl)) (fun _ _ _ _=>zB2)
    (fun _ _ _ _=>zAD zDN (by rfl) mLen PySem.boot_len (zF (pv 0) zR))) zR) zm)),?_⟩
   refine⟨_,rfl,_,rfl,_,rfl,wa,pl,n,ts,xs,g,rfl,W,hpl,pw,h64,fun fl ps H1 hfl s1 ST PA=>?_⟩
   obtain⟨rs,hrs,RI⟩:=ST
   have pl64:ps.length<64:=by
    have h1:=(PA.all (List.Pairwise.imp (fun h=>by omega) (pw.filter _))).1
    have h2:=(PA.all (List.Pairwise.imp (fun h=>by omega) (pw.filter _))).2.length_eq
    have h3:∀(qs:List (List Int)),(∀p∈qs,p≠[])->qs.length<=qs.flatten.length:=fun qs=>by
     induction qs with
     | nil=>exact fun _=>zG _
     | cons q qs ih=>
      intro h
      have a:=ih fun p hp=>h p (zO _ hp)
      have b:0<q.length:=zBB.mpr (h q zN)
      rw[List.flatten_cons,zH,zj]
      omega
    have h4:=h3 ps fun p hp=>(h1 p hp).2.2.1
    have h5:(xs.filter fun y=>decide (y≠g)).length<=xs.length:=zAF _ _
    omega
   refine⟨fl,rfl,⟨_,SqL.of hrs⟩,[],rfl,fun D hD=>?_⟩
   refine zBl (a:=fl) (xs:=rs.map V.ref) (fun i ys H4=>ys=((ps.take i).map fun p=>(p.length:Int)).map V.int/\H4=upd H1 D (.lst ys)) ⟨rfl,rfl⟩ (fun i ys H4 z=>?_) (fun i ys H4 z=>?_) (fun i y ys H4 hy z=>?_) (fun ys H4 z=>?_)
   . obtain⟨_,rfl⟩:=z
     exact SqL.of (by rw[zY (zg hrs hD)];exact hrs)
   . obtain⟨rfl,_⟩:=z
     rw[zC,zC,zp]
     exact zz (by omega)
   . obtain⟨rfl,rfl⟩:=z
     obtain⟨r,hr',rfl⟩:∃r,rs[i]? = some r/\V.ref r=y:=by
      rw[zT] at hy
      cases e:rs[i]? with
      | none=>rw[e] at hy;cases hy
      | some y=>rw[e] at hy;exact⟨y,rfl,za hy⟩
     have hi:=(zJ.mp hr').1
     have hpi:ps[i]? = some (ps[i]'(by rw[<-RI.1];exact hi)):=zD _
     have hrow:=RI.2 i r _ hr' hpi
     generalize (ps[i]'(by rw[<-RI.1];exact hi))=p at hpi hrow
     refine⟨⟨rfl,rfl⟩,?_⟩
     refine zHX ?_
     refine⟨_,rfl,r,_,rfl,.inl (SqL.of (by rw[zY (zg hrow hD)];exact hrow)),zI,?_,zCA⟩
     rw[zAA,hpi,ze,ze,zC];rfl
   . obtain⟨rfl,rfl⟩:=z
     rw[zC,RI.1,zd (zG _)]
     have sD:=zL (o:=.lst ((ps.map fun p=>(p.length:Int)).map V.int)) hD
     refine⟨_,rfl,D,_,rfl,.inl (SqL.of zI),fun e0=>?_,fun m hm hmx=>?_⟩
     . have:ps=[]:=zBW.mp e0
       have:=k ps _ (s1.trans sD) PA
       subst ps
       exact this
     . rw[zJX hm hmx]
       exact k ps _ (s1.trans sD) PA
end
end K41
namespace K41
open PySem L2 WM
structure zJc (ts:List T3)(xs:List Int)(fs:List (List Int)):Prop where
 ne:∀f∈fs,f≠[]
 cl:∀f∈fs,∀a∈f,∀b l,Adj ts a b l->b∈xs->b∈f
structure PlR (ts:List T3)(xs:List Int)(p:Pln):Prop where
 pm:(zBH p).Perm xs
 gd:zKn p
 rs:zIV p
 ht:hgt p<=xs.length
 tie:zLy ts p
 k1:zDf p
inductive zL1 (ts:List T3):List (List Int)->List Pln->Prop
 | nil:zL1 ts [] []
 | cons {f:List Int}{k:Pln}{fs:List (List Int)}{ks:List Pln}(h:PlR ts f k)(t:zL1 ts fs ks):zL1 ts (f::fs) (k::ks)
theorem zL1.all {ts:List T3}{fs:List (List Int)}{ks:List Pln}(h:zL1 ts fs ks):(zA7 ks).Perm fs.flatten/\zGf ks/\zFg ks/\zJg ks<=fs.flatten.length/\ks1 ks/\ks.length=fs.length/\∀k∈ks,∃f∈fs,PlR ts f k:=by
 induction h with
 | nil=>exact⟨.nil,trivial,trivial,zG _,trivial,rfl,fun k hk=>by cases hk⟩
 | cons x _ ih=>
  obtain⟨a,b,c,d,e,g,i⟩:=ih
  refine⟨?_,⟨x.gd,b⟩,⟨x.rs,c⟩,?_,⟨x.k1,e⟩,by rw[zj,zj,g],fun k hk=>?_⟩
  . rw[zA7,List.flatten_cons];exact x.pm.append a
  . rw[zJg,List.flatten_cons,zH]
    have:=x.ht
    omega
  . rcases zW.mp hk with rfl | hk
    . exact⟨_,zN,x⟩
    . obtain⟨f,h1,h2⟩:=i k hk
      exact⟨f,zO _ h1,h2⟩
theorem zDA {fs:List (List Int)}(h:∀f∈fs,f≠[]):fs.length<=fs.flatten.length:=by
 induction fs with
 | nil=>exact zG _
 | cons f fs ih=>
  have:=ih fun g hg=>h g (zO _ hg)
  have:0<f.length:=zBB.mpr (h f zN)
  rw[zj,List.flatten_cons,zH]
  omega
theorem PlR.build {ts:List T3}{xs ow so le:List Int}{fs:List (List Int)}{ks:List Pln}(pm:(ow++le).Perm xs)(nd:xs.Nodup)(ps:so.Perm ow)(st:so.Pairwise (· <= ·))(ne:ow≠[])(pf:fs.flatten.Perm le)(ok:zJc ts le fs)(R:zL1 ts fs ks)(h64:xs.length<64):PlR ts xs (.mk so ks):=by
 obtain⟨a,b,c,d,e,g,i⟩:=R.all
 have pl:(zA7 ks).Perm le:=a.trans pf
 have pmA:(so++zA7 ks).Perm xs:=(ps.append pl).trans pm
 have ndA:(zBH (.mk so ks)).Nodup:=by rw[zBH];exact pmA.nodup_iff.mpr nd
 have ndA':=ndA
 rw[zBH] at ndA'
 have ll:ow.length+le.length=xs.length:=by rw[<-zH];exact pm.length_eq
 have ol:0<ow.length:=zBB.mpr ne
 have fl:=zDA ok.ne
 have fl':=pf.length_eq
 refine⟨by rw[zBH];exact pmA,⟨fun z=>ne (List.perm_nil.mp (z ▸ ps.symm)),b⟩,⟨?_,c⟩,by rw[hgt];omega,?_,⟨by omega,e⟩⟩
 . exact (st.and (zA2.mp ndA').1).imp fun h=>by
    have:=h.1
    have:=h.2
    omega
 . intro x y l A hx hy
   rw[zBH] at hx hy
   have kid:∀z,z∈so++zA7 ks->z∉so->∃k∈ks,z∈zBH k:=fun z hz nz=>zHG ((zQ.mp hz).resolve_left nz)
   have up:∀u v,u∈so->v∈so++zA7 ks->∃r,chO v (.mk so ks)=some r/\u∈r:=fun u v hu hv=>by
    by_cases cv:v∈so
    . exact⟨so,zLv cv,hu⟩
    . obtain⟨k,hk,hvk⟩:=kid v hv cv
      obtain⟨r,hr⟩:=zJR hvk
      exact⟨so++r,by rw[zJQ ndA hk hvk,hr];rfl,zQ.mpr (.inl hu)⟩
   by_cases cx:x∈so
   . exact .inl (up x y cx hy)
   . by_cases cy:y∈so
     . exact .inr (up y x cy hx)
     . obtain⟨k,hk,hxk⟩:=kid x hx cx
       obtain⟨f,hf,Rf⟩:=i k hk
       have hyl:y∈le:=pl.mem_iff.mp ((zQ.mp hy).resolve_left cy)
       have hyk:y∈zBH k:=Rf.pm.mem_iff.mpr (ok.cl f hf x (Rf.pm.mem_iff.mp hxk) y l A hyl)
       have dn:∀u v,v∈zBH k->(∃r,chO v k=some r/\u∈r)->∃r,chO v (.mk so ks)=some r/\u∈r:=fun u v hv ⟨r,hr,hu⟩=>⟨so++r,by rw[zJQ ndA hk hv,hr];rfl,zQ.mpr (.inr hu)⟩
       exact (Rf.tie x y l A hxk hyk).imp (dn x y hyk) (dn y x hxk)
theorem zG0 {H:Hp}:∀{zs:List V}{ds:List PyData}{z:V}{d:PyData},zAt H zs ds->zBa H z d->zAt H (zs++[z]) (ds++[d]):=by
 intro zs
 induction zs with
 | nil=>intro ds z d h s;cases h;exact .cons s .nil
 | cons y ys ih=>
  intro ds z d h s
  cases h with
  | cons a b=>exact .cons a (ih b s)
mutual
inductive TPl (ts:List T3):List Int->Pln->Prop
 | mk {xs:List Int}{m:Int}{ps:List (List Int)}{ks:List Pln}(hm:Mid ts xs m ps)(hk:zHR ts ps ks):TPl ts xs (.mk [m] ks)
inductive zHR (ts:List T3):List (List Int)->List Pln->Prop
 | nil:zHR ts [] []
 | cons {x:List Int}{k:Pln}{xs:List (List Int)}{ks:List Pln}(h:TPl ts x k)(t:zHR ts xs ks):zHR ts (x::xs) (k::ks)
end
mutual
theorem zGt {ts:List T3}:∀(p q:Pln){xs:List Int},TPl ts xs p->TPl ts xs q->p=q
 | .mk _ ks,.mk _ js,_,.mk hm hk,.mk gm gk=>by
  obtain⟨e1,e2⟩:=hm.uniq gm
  subst e1
  subst e2
  rw[zFR ks js hk gk]
theorem zFR {ts:List T3}:∀(ks js:List Pln){fs:List (List Int)},zHR ts fs ks->zHR ts fs js->ks=js
 | [],[],_,_,_=>rfl
 | [],_::_,_,h,g=>by cases h;cases g
 | _::_,[],_,h,g=>by cases g;cases h
 | k::ks,j::js,_,.cons h t,.cons h' t'=>by rw[zGt k j h h',zFR ks js t t']
end
theorem zHR.snoc {ts:List T3}:∀{fs:List (List Int)}{ks:List Pln}{f:List Int}{k:Pln},zHR ts fs ks->TPl ts f k->zHR ts (fs++[f]) (ks++[k])
 | [],[],_,_,.nil,h=>.cons h .nil
 | _::_,_::_,_,_,.cons a b,h=>.cons a (zHR.snoc b h)
theorem zCz {xs:List Int}(h:xs.Pairwise (· < ·)):xs.Nodup:=h.imp fun h=>by omega
theorem zG8 {xs:List Int}{m:Int}(h:m∈xs)(pw:xs.Pairwise (· < ·)):([m]++xs.filter fun y=>decide (y≠m)).Perm xs:=by
 refine (List.perm_ext_iff_of_nodup ?_ (zCz pw)).mpr fun y=>?_
 . refine zA2.mpr ⟨by simp,(zCz pw).filter _,fun a ha b hb e=>?_⟩
   rw[zAm,zAZ] at hb
   exact hb.2 (by rw[<-e];exact zX.mp ha)
 . rw[zQ,zX,zAm,zAZ]
   constructor
   . rintro (z | z)
     . rw[z];exact h
     . exact z.1
   . intro z
     by_cases c:y=m
     . exact .inl c
     . exact .inr ⟨z,c⟩
theorem zCV {ts:List T3}{xs:List Int}{m:Int}{ps:List (List Int)}(h:Mid ts xs m ps)(pw:xs.Pairwise (· < ·)):(∀p∈ps,p.Pairwise (· < ·)/\p≠[]/\zH4 ts p/\(∀y∈p,y∈xs)/\p.length<=big ps/\p.length+1<=xs.length)/\zJc ts (xs.filter fun y=>decide (y≠m)) ps/\ps.flatten.Perm (xs.filter fun y=>decide (y≠m)):=by
 have nf:=(zCz pw).filter fun y=>decide (y≠m)
 obtain⟨a,b⟩:=h.pa.all nf
 have e:=(zG8 h.mem pw).length_eq
 rw[zH,zAc] at e
 refine⟨fun p hp=>?_,⟨fun p hp=>(a p hp).2.2.1,fun p hp=>(a p hp).2.2.2.2⟩,b⟩
 obtain⟨a1,a2,a3,a4,a5⟩:=a p hp
 refine⟨a1,a3,a2,fun y hy=>(zAm.mp (a4 y hy)).1,zJY.mp (zG _) p hp,?_⟩
 have:=zCN (zCz a1) a4
 omega
mutual
theorem zFT {ts:List T3}:∀(p:Pln){xs:List Int},TPl ts xs p->xs.Pairwise (· < ·)->xs.length<64->PlR ts xs p
 | .mk _ ks,xs,.mk hm hk,pw,h64=>by
  obtain⟨a,b,c⟩:=zCV hm pw
  exact PlR.build (zG8 hm.mem pw) (zCz pw) (zB0 _) (by simp) (by simp) c b (zEZ ks hk fun f hf=>⟨(a f hf).1,by have:=(a f hf).2.2.2.2.2;omega⟩) h64
theorem zEZ {ts:List T3}:∀(ks:List Pln){fs:List (List Int)},zHR ts fs ks->(∀f∈fs,f.Pairwise (· < ·)/\f.length<64)->zL1 ts fs ks
 | [],_,.nil,_=>.nil
 | k::ks,_,.cons h t,hf=>.cons (zFT k h (hf _ zN).1 (hf _ zN).2) (zEZ ks t fun f h=>hf f (zO _ h))
end
mutual
theorem zGu {ts:List T3}:∀(p:Pln){xs:List Int}(M:Nat),TPl ts xs p->zDh ts xs->xs.Pairwise (· < ·)->xs.length<=M->zGj p<=zEV M xs.length
 | .mk _ ks,xs,M,.mk (m:=v) (ps:=ps) hm hk,T,pw,hM=>by
  obtain⟨a,b,c⟩:=zCV hm pw
  have h1:1<=xs.length:=zBB.mpr (List.ne_nil_of_mem hm.mem)
  have hb:=middle T (zCz pw) hm.mem hm.pa (fun u hu qs hq=>(hm.le u hu qs hq).1) fun u _=>zFB ts _ (zG _) (pw.filter _)
  cases M with
  | zero=>omega
  | succ M=>
   rw[zGj,zEV,if_neg (show ¬ xs.length=0 by omega)]
   have:=zFS ks M (xs.length/2) hk fun f hf=>⟨T.sub (a f hf).2.2.2.1 (a f hf).2.2.1,(a f hf).1,by have:=(a f hf).2.2.2.2.1;omega,by have:=(a f hf).2.2.2.2.1;omega⟩
   show 1+zCk ks<=_
   omega
theorem zFS {ts:List T3}:∀(ks:List Pln){fs:List (List Int)}(M d:Nat),zHR ts fs ks->(∀f∈fs,zDh ts f/\f.Pairwise (· < ·)/\f.length<=M/\f.length<=d)->zCk ks<=zEV M d
 | [],_,_,_,.nil,_=>zk _
 | k::ks,_,M,d,.cons (x:=x) h t,hf=>by
  obtain⟨a,b,c,e⟩:=hf _ zN
  have h1:=zGu k M h a b c
  have h2:=zFS ks M d t fun f h=>hf f (zO _ h)
  have h3:=zF0 M x.length d e
  rw[zCk]
  omega
end
noncomputable def lamM:Pos:=⟨85,27,85,74⟩
noncomputable abbrev lamMQ:Str:=(("middle_place" : Str) ++ ".<locals>.") ++ "<lambda>"
noncomputable abbrev Tb (H:Hp)(PT:Addr):Prop:=TabAt H PT lamM lamMQ
noncomputable def spMi (PT:Addr):Sp:=fun vs H Q _=>∃(wa pl:Addr)(n:Int)(ts:List T3)(xs:List Int),vs=[.ref wa,.ref pl]/\zBU H wa n ts/\H pl=some (.lst (xs.map V.int))/\xs.Pairwise (· < ·)/\xs.length<64/\xs≠[]/\Tb H PT /\
 ∀(m:Int)(ps:List (List Int))(H':Hp),Mid ts xs m ps->SmT H H'->Tb H' PT->Q (.int m) H'
noncomputable def zLB (PT:Addr)(h:Nat):Sp:=fun vs H Q _=>∃(wa pl:Addr)(n:Int)(ts:List T3)(xs:List Int),vs=[.ref wa,.ref pl]/\zBU H wa n ts/\H pl=some (.lst (xs.map V.int))/\xs.Pairwise (· < ·)/\xs.length<64/\xs≠[]/\xs.length<=h/\Tb H PT /\
 ∀(v:V)(p:Pln)(H':Hp),zBa H' v (plD p)->TPl ts xs p->SmT H H'->Tb H' PT->Q v H'
section
variable {P:Program}{w:World}{K:PySem.W.Frag}{mg:Str->Option Value}{base:Heap}{PT:Addr}
theorem scMi:zAI ["web", "places"] ["web", "places"] (defScope sMi):=⟨rfl,rfl,rfl,by decide +kernel,rfl,by decide +kernel,by decide +kernel⟩
theorem ok_mi {f fG c:Addr}{fd' fdG:FuncData}{k0:Nat}(F:zKy K "middle_place" "middle_place" sMi f fd' c) (C:PySem.W.CodeHd base c PT)(hbm:zJh mg base)(mMin:mg "min" = none)
 (FG:Fun K "greatest_part" "greatest_part" sGp fG fdG) (bG:zAH K fdG ["web", "places", "gone"] []) (mG:mg "greatest_part" = some (.ref fG)) (GG:zAa P w K mg base CX0 k0 fG fdG ["web", "places", "gone"] spGp):zAa P w K mg base CX0 (k0+3) f fd' ["web", "places"] (spMi PT):=by
 refine F.ok scMi (fun vs H Q E h=>?_) (fun A outer s H vs Q E hr h=>?_)
 . obtain⟨wa,pl,n,ts,xs,rfl,_⟩:=h
   rfl
 . obtain⟨wa,pl,n,ts,xs,rfl,W,hpl,pw,h64,hne,T,k⟩:=h
   refine⟨_,zn (zAd (zIf (k:=k0) (P:=PT) (c:=c) (pn := "place") (cn:=["places", "web"]) (ci:=[1,0]) rfl hr rfl mMin (zF (pv 1) zR) rfl C hbm (csc rfl rfl) rfl rfl rfl ⟨rfl,rfl,rfl,rfl,rfl,rfl,trivial⟩ rfl rfl (fun _ _ _ _ _ _ _=>rfl)
    (fun f' cd' s3 H3 hr3=>zx GG hr3 rfl mG FG.kp bG .nil zAk (zF (pv 2) (zF (pv 1) (zF (pv 0) zR)))))),?_⟩
   obtain⟨val,hval⟩:=Classical.axiomOfChoice (r:=fun (u:Int)(z:Int)=>∃qs,zAb ts (xs.filter fun y=>decide (y≠u)) qs/\z=big qs) fun u=>by
    obtain⟨qs,hq⟩:=zFB ts _ (zG _) (pw.filter fun y=>decide (y≠u))
    exact⟨_,qs,hq,rfl⟩
   refine⟨_,rfl,pl,xs,val,[.ref pl,.ref wa],rfl,hpl,hne,rfl,T,fun H2 sm T2=>⟨fun x hx H3 s3=>?_,fun M b H4 B s4=>?_⟩⟩
   . have W3:zBU H3 wa n ts:=(W.keepT fun b ys e=>sm.get e (by intro ps z;cases z)).keep s3
     refine⟨_,rfl,_,rfl,_,rfl,wa,pl,n,ts,xs,x,rfl,W3,s3 _ _ (sm.get hpl (by intro ps z;cases z)),pw,h64,fun ps H5 s5 PA=>⟨?_,s5⟩⟩
     obtain⟨qs,hq,e⟩:=hval x
     rw[e,hq.uniq PA]
   . obtain⟨b1,_,b3⟩:=B
     obtain⟨ps,hps,eM⟩:=hval M
     refine k M ps H4 ⟨zc b1,hps,fun u hu qs hq=>?_⟩ (SmT.trans sm.smT (SmT.of s4)) (T2.same s4)
     obtain⟨i,hi,ei⟩:=zAC hu
     have hb:=b3 i u hi (by rw[zD hi,ei])
     obtain⟨qs',hq',eu⟩:=hval u
     have e:=hq.uniq hq'
     subst e
     rw[eM,eu] at hb
     refine⟨by have:=hb.1;omega,fun lt=>?_⟩
     have:i<b:=by
      obtain⟨hb',eb⟩:=zJ.mp b1
      refine zt fun z=>?_
      by_cases c:i=b
      . subst c
        rw[ei] at eb
        omega
      . have:=zr.mp pw b i hb' hi (by omega)
        rw[ei,eb] at this
        omega
     have:=hb.2 this
     omega
end
end K41
namespace K41
open PySem L2 WM
theorem zBU.smT {H H':Hp}{wa:Addr}{n:Int}{ts:List T3}(h:zBU H wa n ts)(k:SmT H H'):zBU H' wa n ts:=h.keepT fun b ys e=>k.get e (by intro ps z;cases z)
theorem _root_.L2.TabAt.lst {H:Hp}{P D:Addr}{pos:Pos}{q:Str}{ys zs:List V}(T:TabAt H P pos q)(h:H D=some (.lst ys)):TabAt (upd H D (.lst zs)) P pos q:=by
 obtain⟨ps,hp,_⟩:=id T
 exact T.keep (fun o e=>by rw[zY (zB5 hp h (by intro z;cases z))];exact e) fun c φ e=>by rw[zY (zB5 e h (by intro z;cases z))];exact e
section
variable {P:Program}{w:World}{K:PySem.W.Frag}{mg:Str->Option Value}{base:Heap}{PT:Addr}
theorem zJt:zAI ["web", "places", "middle", "parts"] ["web", "places"] (defScope sPop):=⟨rfl,rfl,rfl,by decide +kernel,rfl,by decide +kernel,by decide +kernel⟩
theorem zKh {f fM fP:Addr}{fd' fdM fdP:FuncData}{m:Nat}(F:Fun K "plan_of_part" "plan_of_part" sPop f fd') (bF:zAH K fd' ["web", "places"] []) (mF:mg "plan_of_part" = some (.ref f)) (kM:PySem.W.keepIn K (.ref fM)=true)(bM:zAH K fdM ["web", "places"] []) (mM:mg "middle_place" = some (.ref fM)) (GM:zAa P w K mg base CX0 m fM fdM ["web", "places"] (spMi PT))
 (FP:Fun K "parts_without" "parts_without" sPwo fP fdP) (bP:zAH K fdP ["web", "places", "gone"] []) (mP:mg "parts_without" = some (.ref fP)) (GP:zAa P w K mg base CX0 m fP fdP ["web", "places", "gone"] zIE) (mTuple:mg "tuple" = none):∀h:Nat,zAa P w K mg base CX0 (m+h+1) f fd' ["web", "places"] (zLB PT h)
 | 0=>F.ok zJt (fun vs H Q E h=>by obtain⟨wa,pl,n,ts,xs,rfl,_⟩:=h;rfl) (fun cdv A outer s H vs Q E hr h=>by
  obtain⟨wa,pl,n,ts,xs,rfl,_,_,_,_,hne,h0,_⟩:=h
  exact absurd (zAJ.mp (by omega)) hne)
 | h+1=>by
  have GS:=zKh F bF mF kM bM mM GM FP bP mP GP mTuple h
  have GM':zAa P w K mg base CX0 (m+h+1) fM fdM ["web", "places"] (spMi PT):=GM.mono (by omega)
  have GP':zAa P w K mg base CX0 (m+h+1) fP fdP ["web", "places", "gone"] zIE:=GP.mono (by omega)
  refine F.ok zJt (fun vs H Q E h=>?_) (fun cdv A outer s H vs Q E hr h=>?_)
  . obtain⟨wa,pl,n,ts,xs,rfl,_⟩:=h
    rfl
  . obtain⟨wa,pl,n,ts,xs,rfl,W,hpl,pw,h64,hne,hxl,T,k⟩:=h
    refine⟨_,zZ (zAR (i:=2) zJt.nd rfl (Or.inl rfl) (zx GM' hr rfl mM kM bM .nil zAk (zF (pv 0) (zF (pv 1) zR))))
     (zZ (zAR (i:=3) zJt.nd rfl (Or.inl rfl) (zx GP' hr rfl mP FP.kp bP .nil zAk (zF (pv 0) (zF (pv 1) (zF (pv 2) zR)))))
     (zn (zAd (zBY (zF (zBY (zF (pv 2) zR)) (zF (zBi zA0 (by rfl) mTuple (by decide +kernel) (zF (zBq (own:=["part"]) (cn:=["web"]) (ci:=[0]) rfl (csc rfl rfl) ⟨rfl,rfl,rfl,trivial⟩ rfl (zB3 (pv 3)) (fun _ _ _ _=>zAP (i:=0) (zCW rfl) rfl (Or.inl rfl)) (fun _ _ _ _=>zB2)
      (fun _ _ _ _=>zx GS hr rfl mF F.kp bF .nil zAk (zF (pv 1) (zF (pv 0) zR)))) zR)) zR)))))),?_⟩
    refine⟨_,rfl,_,rfl,wa,pl,n,ts,xs,rfl,W,hpl,pw,h64,hne,T,fun mi ps0 H1 Mi s1 T1=>?_⟩
    have hpl1:=s1.get hpl (by intro ps z;cases z)
    refine⟨_,rfl,_,rfl,_,rfl,wa,pl,n,ts,xs,mi,rfl,W.smT s1,hpl1,pw,h64,fun fl ps H2 hfl s2 ST PA=>?_⟩
    obtain rfl:=Mi.pa.uniq PA
    obtain⟨pm,_,_⟩:=zCV Mi pw
    obtain⟨rs,hrs,RI⟩:=ST
    refine⟨_,rfl,by show 1<=sizeLine;decide,fun a ha=>?_⟩
    have s3:=zL (o:=.tup [V.int mi]) ha
    have s03:SmT H (upd H2 a (.tup [V.int mi])):=s1.trans (SmT.of (s2.trans s3))
    have T3:=(T1.same s2).same s3
    have W3:=W.smT s03
    have hrs3:=s3 _ _ hrs
    have RI3:=RI.same s3
    have ha3:(upd H2 a (.tup [V.int mi])) a=some (.tup [V.int mi]):=zI
    generalize upd H2 a (.tup [V.int mi])=H3 at s03 T3 W3 hrs3 RI3 ha3 ⊢
    have pl64:ps0.length<=xs.length:=by
     have h1:=zDA (fs:=ps0) fun f hf=>(pm f hf).2.1
     have h2:=(zCV Mi pw).2.2.length_eq
     have h3:(xs.filter fun y=>decide (y≠mi)).length<=xs.length:=zAF _ _
     omega
    refine⟨_,rfl,fl,rfl,⟨_,SqL.of hrs3⟩,[.ref wa],rfl,fun D hD=>?_⟩
    refine zBl (a:=fl) (xs:=rs.map V.ref) (fun i ys H4=>∃ks,zHR ts (ps0.take i) ks/\ks.length=i/\i<=ps0.length/\zAt H4 ys (zC0 ks)/\SmT H3 H4/\H4 D=some (.lst ys)/\Tb H4 PT)
     ⟨[],.nil,rfl,zk _,.nil,SmT.of (zL hD),zI,T3.same (zL hD)⟩ (fun i ys H4 z=>?_) (fun i ys H4 z=>?_) (fun i v ys H4 hv z=>?_) (fun ys H4 z=>?_)
    . obtain⟨ks,_,_,_,_,s4,_,_⟩:=z
      exact SqL.of (s4.get hrs3 (by intro ps z;cases z))
    . obtain⟨ks,_,hk,hi,S4,_⟩:=z
      rw[zCT S4,zCZ,hk]
      exact zz (by omega)
    . obtain⟨ks,tp,hk,hi,S4,s4,h4,T4⟩:=z
      obtain⟨r,hr',rfl⟩:∃r,rs[i]? = some r/\V.ref r=v:=by
       rw[zT] at hv
       cases e:rs[i]? with
       | none=>rw[e] at hv;cases hv
       | some y=>rw[e] at hv;exact⟨y,rfl,za hv⟩
      have hi':i<ps0.length:=by rw[<-RI3.1];exact (zJ.mp hr').1
      have hpi:ps0[i]? = some ps0[i]:=zD hi'
      have hrow:=RI3.2 i r _ hr' hpi
      have hpm:=pm _ (zAy hi')
      generalize ps0[i]=q at hpi hrow hpm
      refine⟨⟨rfl,rfl⟩,?_⟩
      refine zHX ?_
      refine⟨_,rfl,_,rfl,wa,r,n,ts,q,rfl,W3.smT s4,s4.get hrow (by intro ps z;cases z),hpm.1,by omega,hpm.2.1,by omega,T4,fun v' p' H5 S5 tp5 s5 T5=>?_⟩
      have h5:=s5.get h4 (by intro ps z;cases z)
      have kT:∀b zs,H5 b=some (.tup zs)->upd H5 D (.lst (ys++[v'])) b=some (.tup zs):=fun b zs e=>by rw[zY (zB5 e h5 (by intro z;cases z))];exact e
      refine⟨h5,ks++[p'],?_,by rw[zH,hk];rfl,hi',?_,?_,zI,?_⟩
      . rw[zAA,hpi]
        exact tp.snoc tp5
      . rw[zE8]
        exact zG0 (zCK kT ks (zCK (fun b zs e=>s5.get e (by intro ps z;cases z)) ks S4)) (zGV kT p' S5)
      . exact (s4.trans s5).chg hD
      . exact T5.lst h5
    . obtain⟨ks,tp,hk,hi,S4,s4,h4,T4⟩:=z
      rw[zC,RI3.1,zd (zG _)] at tp
      refine⟨D,_,rfl,.inl ⟨SqL.of h4,fun c2 hc2=>⟨by show 2<=sizeLine;decide,fun e he=>?_⟩⟩⟩
      have s5:=(zL (o:=.tup ys) hc2).trans (zL (o:=.tup [.ref a,.ref c2]) he)
      refine k (.ref e) (.mk [mi] ks) _ ?_ (.mk Mi tp) ((s03.trans s4).trans (SmT.of s5)) (T4.same s5)
      rw[plD]
      exact .tup zI (.cons (.tup (s5 _ _ (s4.get ha3 (by intro ps z;cases z))) (.cons (.int _) .nil)) (.cons (.tup (zL he _ _ zI) (zCK (fun b zs e=>s5 _ _ e) ks S4)) .nil))
end
end K41
namespace K41
open PySem L2 WM
structure E41 (K:PySem.W.Frag)(mg:Str->Option Value)(cW cR:Addr)(cs1 cs2:List Addr):Prop where
 mW:mg "WayError" = some (.ref cW)
 qW:PySem.W.excIn K cW bmV "ValueError.__new__" = true
 mR:mg "NoTree" = some (.ref cR)
 qR:PySem.W.excIn K cR bmV "ValueError.__new__" = true
 sb:L2.subIn K cR cW=true
 ex:zEX K cR
 m1:[mg "NoLabels",mg "NoLeast",mg "NoOrder",mg "NoPart",mg "NoPlan",mg "NoPosts",mg "NoRing"]=cs1.map fun c=>some (.ref c)
 m2:[mg "NoRow",mg "NoText",mg "NoTie",mg "TooMany"]=cs2.map fun c=>some (.ref c)
 k1:PySem.W.kitAny K (.ref cR) (cs1.map Value.ref)=some false
 k2:PySem.W.kitAny K (.ref cR) (cs2.map Value.ref)=some false
 kR:PySem.W.kitOne K (.ref cR) (.ref cR)=some true
 kV:PySem.W.kitOne K (.ref cR) (.type "ValueError")=some true
noncomputable def spTp (PT cR:Addr):Sp:=fun vs H Q E=>∃(wa:Addr)(n:Int)(ts:List T3),vs=[.ref wa]/\zBU H wa n ts/\Tb H PT /\
 (zGI n ts->∀(v:V)(p:Pln)(H':Hp),zBa H' v (plD p)->TPl ts (lowTo n.toNat) p->SmT H H'->Tb H' PT->Q v H')/\(¬ zGI n ts->∀H',zA3 H H'->E (.ref cR) none H')
noncomputable def zIC (PT:Addr):Sp:=fun vs H Q _=>∃(wa:Addr)(n:Int)(ts:List T3),vs=[.ref wa]/\zBU H wa n ts/\Tb H PT /\
 (zGI n ts->∀(v:V)(p:Pln)(H':Hp),zBa H' v (plD p)->TPl ts (lowTo n.toNat) p->SmT H H'->Tb H' PT->Q v H')/\(¬ zGI n ts->∀H',zA3 H H'->Q (.str "tree") H')
section
variable {P:Program}{w:World}{K:PySem.W.Frag}{mg:Str->Option Value}{base:Heap}{PT:Addr}
theorem scTp:zAI ["web"] ["web"] (defScope sTp):=⟨rfl,rfl,rfl,by decide +kernel,rfl,by decide +kernel,by decide +kernel⟩
theorem ok_tp {f fI fP cR:Addr}{fd' fdI fdP:FuncData}{m:Nat}(F:Fun K "tree_plan" "tree_plan" sTp f fd') (mC:mg "NoTree" = some (.ref cR)) (qC:PySem.W.excIn K cR bmV "ValueError.__new__" = true) (FI:Fun K "is_tree" "is_tree" sIt fI fdI) (bI:zAH K fdI ["web"] []) (mI:mg "is_tree" = some (.ref fI)) (GI:zAa P w K mg base CX0 m fI fdI ["web"] spIt)
 (FP:Fun K "plan_of_part" "plan_of_part" sPop fP fdP) (bP:zAH K fdP ["web", "places"] []) (mP:mg "plan_of_part" = some (.ref fP)) (GP:zAa P w K mg base CX0 m fP fdP ["web", "places"] (zLB PT 24)) (mRange:mg "range" = none) (mList:mg "list" = none):zAa P w K mg base (CXO P w) (m+1) f fd' ["web"] (spTp PT cR):=by
 refine F.okX scTp (fun vs H Q E h=>?_) (fun cdv A outer s H vs Q E hr h=>?_)
 . obtain⟨wa,n,ts,rfl,_⟩:=h
   rfl
 . obtain⟨wa,n,ts,rfl,W,T,kY,kN⟩:=h
   obtain⟨ta,tys,hwa,hta,TA,G⟩:=id W
   have hn1:=G.n1
   have hn24:=G.n24
   refine⟨_,zZ (zCF (zCt (zCb (zx GI hr rfl mI FI.kp bI .nil zAk (zF (pv 0) zR)))) (zn (zJ2 (E:=E) rfl mC qC rfl (zF zDd zR) (fun pins σ H s h' ea vs I mx hE=>zIY I mx hE) (hl:=fun σ H Q h=>⟨zG 1,h⟩))) zBD)
    (zn (zAd (zx GP hr rfl mP FP.kp bP .nil zAk (zF (pv 0) (zF (zCg rfl rfl mList rfl mRange (zF (zAj zAp (pv 0) zm (fun _ _=>rfl)) zR)) zR))))),?_⟩
   refine⟨_,rfl,wa,n,ts,rfl,W,fun b H1 hb s1=>⟨_,rfl,?_⟩⟩
   cases b with
   | false=>exact zC3 (kN (fun z=>by have:=hb.mpr z;cases this) H1 s1)
   | true=>
    refine zDY ⟨_,rfl,_,rfl,wa,_,_,.int n,rfl,rfl,SqT.of (s1 _ _ hwa),rfl,n,rfl,by omega,by omega,fun la hla=>?_⟩
    have s2:=s1.trans (zL (o:=.lst ((lowTo n.toNat).map V.int)) hla)
    refine⟨wa,la,n,ts,lowTo n.toNat,rfl,W.keep s2,zI,zCq _,by rw[zAx];omega,fun z=>?_,by rw[zAx];omega,T.same s2,fun v p H' S tp sm T'=>kY (hb.mp rfl) v p H' S tp ((SmT.of s2).trans sm) T'⟩
    have:=congrArg List.length z
    rw[zAx,List.length_nil] at this
    omega
theorem zDt:zAI ["_law_web_here", "_law_found", "e", "_law_others"] ["_law_web_here"] (defScope zIS):=⟨rfl,rfl,rfl,by decide +kernel,rfl,by decide +kernel,by decide +kernel⟩
theorem zLX {f fL cW cR c1 c2 c3 c4 c5 c6 c7 c8 c9 c10 c11:Addr}{fd' fdL:FuncData}{m:Nat}(F:Fun K "_law_told" "_law_told" zIS f fd') (FL:Fun K "tree_plan" "tree_plan" sTp fL fdL) (bL:zAH K fdL ["web"] []) (mL:mg "tree_plan" = some (.ref fL)) (GL:zAa P w K mg base (CXO P w) m fL fdL ["web"] (spTp PT cR))
 (Er:E41 K mg cW cR [c1,c2,c3,c4,c5,c6,c7] [c8,c9,c10,c11])(mIsi:mg "isinstance" = none) (mVal:mg "ValueError" = none):zAa P w K mg base CX0 (m+1) f fd' ["_law_web_here"] (zIC PT):=by
 obtain⟨h1,h2,h3,h4,h5,h6,h7⟩:mg "NoLabels" = some (.ref c1)/\mg "NoLeast" = some (.ref c2)/\mg "NoOrder" = some (.ref c3)/\mg "NoPart" = some (.ref c4)/\mg "NoPlan" = some (.ref c5)/\mg "NoPosts" = some (.ref c6)/\mg "NoRing" = some (.ref c7):=by
  have:=Er.m1
  simpa using this
 obtain⟨h8,h9,h10,h11⟩:mg "NoRow" = some (.ref c8)/\mg "NoText" = some (.ref c9)/\mg "NoTie" = some (.ref c10)/\mg "TooMany" = some (.ref c11):=by
  have:=Er.m2
  simpa using this
 refine F.ok zDt (fun vs H Q E h=>?_) (fun cdv A outer s H vs Q E hr h=>?_)
 . obtain⟨wa,n,ts,rfl,_⟩:=h
   rfl
 . obtain⟨wa,n,ts,rfl,W,T,kY,kN⟩:=h
   refine⟨_,zZ (zAR (i:=1) zDt.nd rfl (Or.inl rfl) zCv)
    (zZ (ps_try (i:=2) zDt.nd rfl rfl rfl rfl rfl rfl Er.mW Er.qW (px_set (i:=1) zDt.nd rfl (Or.inl rfl) GL hr rfl mL FL.kp bL (zF (pv 0) zR))
     (fun ea oe c hc=>zZ (zAR (i:=3) zDt.nd rfl (Or.inl rfl) (zAD (zDO (zFG hc)) (by rfl) mIsi (by decide +kernel) (zF (pv 2) (zF (zBY (zF (zB4 (v:=.ref c1) rfl h1 rfl) (zF (zB4 (v:=.ref c2) rfl h2 rfl) (zF (zB4 (v:=.ref c3) rfl h3 rfl) (zF (zB4 (v:=.ref c4) rfl h4 rfl) (zF (zB4 (v:=.ref c5) rfl h5 rfl) (zF (zB4 (v:=.ref c6) rfl h6 rfl) (zF (zB4 (v:=.ref c7) rfl h7 rfl) zR)))))))) zR))))
      (zZ (zAR (i:=3) zDt.nd rfl (Or.inl rfl) (pe_or (pv 3) (zCu (zAD (zDO (zFG hc)) (by rfl) mIsi (by decide +kernel) (zF (pv 2) (zF (zBY (zF (zB4 (v:=.ref c8) rfl h8 rfl) (zF (zB4 (v:=.ref c9) rfl h9 rfl) (zF (zB4 (v:=.ref c10) rfl h10 rfl) (zF (zB4 (v:=.ref c11) rfl h11 rfl) zR))))) zR))))))
      (zn (zAR (i:=1) zDt.nd rfl (Or.inl rfl) (zFA (PW.pt (zDx (zCb (zAD (zGB (zFG hc)) (by rfl) mIsi (by decide +kernel) (zF (pv 2) (zF (zB4 (v:=.ref cR) rfl Er.mR rfl) zR)))) (zDx (zCb (zAD (zFK (zFG hc)) (by rfl) mIsi (by decide +kernel) (zF (pv 2) (zF (zD0 (T := "ValueError") (by rfl) mVal (by decide +kernel)) zR)))) (zDS (zCt (zCb (pv 3))))))) zDd zDd))))))
    (zn (zAd (pv 1)))),?_⟩
   refine⟨_,rfl,wa,n,ts,rfl,W,T,fun it v p H' S tp sm T'=>⟨_,rfl,kY it v p H' S tp sm T'⟩,fun nt H1 s1=>?_⟩
   refine⟨cR,rfl,Er.qR,Er.sb,fun ea oe hc hea=>?_⟩
   refine⟨_,rfl,(by show 7<=sizeLine;decide),fun p hp=>?_⟩
   refine⟨p,[c1,c2,c3,c4,c5,c6,c7],false,Er.ex,rfl,zI,Er.k1,?_⟩
   have s2:=s1.trans (zL (o:=.tup ([c1,c2,c3,c4,c5,c6,c7].map V.ref)) hp)
   refine⟨_,rfl,false,rfl,zDY ?_⟩
   refine⟨_,rfl,(by show 4<=sizeLine;decide),fun p2 hp2=>?_⟩
   have s3:=s2.trans (zL (o:=.tup ([c8,c9,c10,c11].map V.ref)) hp2)
   refine⟨p2,[c8,c9,c10,c11],false,Er.ex,rfl,zI,Er.k2,?_⟩
   refine⟨_,rfl,cR,true,Er.ex,rfl,Er.kR,true,rfl,zC3 ?_⟩
   refine⟨_,rfl, "ValueError",true,Er.ex,rfl,Er.kV,true,rfl,zC3 ?_⟩
   refine⟨_,rfl,false,rfl,zC3 ?_⟩
   exact⟨_,rfl,kN nt _ s3⟩
end
end K41
namespace K41
open PySem L2 WM
structure zFN (ts:List T3)(xs:List Int)(i:Nat)(m:Int)(ps:List (List Int)):Prop where
 mem:m∈xs.take i
 pa:zAb ts (xs.filter fun y=>decide (y≠m)) ps
 le:∀u∈xs.take i,∀qs,zAb ts (xs.filter fun y=>decide (y≠u)) qs->big ps<=big qs/\(u<m->big ps<big qs)
theorem zFN.new {ts:List T3}{xs:List Int}{i:Nat}{u:Int}{qs:List (List Int)}(hu:xs[i]? = some u)(hq:zAb ts (xs.filter fun y=>decide (y≠u)) qs)(h:∀w∈xs.take i,∀rs,zAb ts (xs.filter fun y=>decide (y≠w)) rs->big qs<big rs):zFN ts xs (i+1) u qs:=by
 have e:xs.take (i+1)=xs.take i++[u]:=by rw[zAA,hu];rfl
 refine⟨by rw[e];simp,hq,fun w hw rs hr=>?_⟩
 rw[e,zQ,zX] at hw
 rcases hw with hw | rfl
 . have:=h w hw rs hr
   exact⟨by omega,fun _=>this⟩
 . rw[hq.uniq hr]
   exact⟨zG _,fun z=>absurd z (by omega)⟩
theorem zFN.keep {ts:List T3}{xs:List Int}{i:Nat}{u m:Int}{ps qs:List (List Int)}(b:zFN ts xs i m ps)(pw:xs.Pairwise (· < ·))(hu:xs[i]? = some u)(hq:zAb ts (xs.filter fun y=>decide (y≠u)) qs)(h:big ps<=big qs):zFN ts xs (i+1) m ps:=by
 have e:xs.take (i+1)=xs.take i++[u]:=by rw[zAA,hu];rfl
 refine⟨by rw[e];exact zu _ b.mem,b.pa,fun w hw rs hr=>?_⟩
 rw[e,zQ,zX] at hw
 rcases hw with hw | rfl
 . exact b.le w hw rs hr
 . rw[<-hq.uniq hr]
   refine⟨h,fun z=>?_⟩
   obtain⟨j,hj,ej⟩:=zAC b.mem
   rw[zp] at hj
   rw[List.getElem_take] at ej
   obtain⟨hi,ei⟩:=zJ.mp hu
   have:=zr.mp pw j i (by omega) hi (by omega)
   rw[ej,ei] at this
   omega
theorem zFN.mid {ts:List T3}{xs:List Int}{m:Int}{ps:List (List Int)}(b:zFN ts xs xs.length m ps):Mid ts xs m ps:=by
 obtain⟨h1,h2,h3⟩:=b
 rw[zd (zG _)] at h1 h3
 exact⟨h1,h2,h3⟩
noncomputable def zEP (H:Hp)(ts:List T3)(xs:List Int)(i:Nat)(vb:V):Prop:=(i=0/\vb = .non)\/∃(b fl:Addr)(m:Int)(ps:List (List Int)),vb = .ref b/\H b=some (.tup [.int (big ps),.int m,.ref fl])/\zCx H fl ps/\zFN ts xs i m ps
theorem zEP.same {H H':Hp}{ts:List T3}{xs:List Int}{i:Nat}{vb:V}(h:zEP H ts xs i vb)(s:zA3 H H'):zEP H' ts xs i vb:=h.imp id fun ⟨b,fl,m,ps,a,c,d,e⟩=>⟨b,fl,m,ps,a,s _ _ c,d.same s,e⟩
noncomputable def tBe (ts:List T3)(xs:List Int):TS:=fun D σ H=>∃(bl la:Addr)(vb:V)(u:Int)(fl:Addr)(qs:List (List Int))(i:Nat),σ=[some (.ref bl),some (.ref la),some vb,some (.int u),some (.ref fl),some (.int (big qs))]/\xs[i]? = some u/\zCx H fl qs/\zAb ts (xs.filter fun y=>decide (y≠u)) qs/\zEP H ts xs i vb/\xs.Pairwise (· < ·) /\
 ∀(vb':V)(H':Hp),zA3 H H'->zEP H' ts xs (i+1) vb'->D.nx [some (.ref bl),some (.ref la),some vb',some (.int u),some (.ref fl),some (.int (big qs))] H'
noncomputable def zLD (h:Nat):Sp:=fun vs H Q _=>∃(bl la:Addr)(n:Int)(ts:List T3)(xs:List Int),vs=[.ref bl,.ref la]/\zCx H bl (zGR ts n)/\GW n ts/\H la=some (.lst (xs.map V.int))/\xs.Pairwise (· < ·)/\(∀x∈xs,0<=x/\x<n)/\xs.length<64/\xs≠[]/\xs.length<=h /\
 ∀(v:V)(p:Pln)(H':Hp),zBa H' v (plD p)->TPl ts xs p->zA3 H H'->Q v H'
section
variable {P:Program}{w:World}{K:PySem.W.Frag}{mg:Str->Option Value}{base:Heap}
theorem zGQ:zAI ["_law_beside_each", "_law_places", "_law_best", "_law_one", "_law_parts_here", "_law_size"] ["_law_beside_each", "_law_places"] (defScope sLtp):=⟨rfl,rfl,rfl,by decide +kernel,rfl,by decide +kernel,by decide +kernel⟩
theorem zKj {f fP:Addr}{fd' fdP:FuncData}{m:Nat}(F:Fun K "_law_tree_plan" "_law_tree_plan" sLtp f fd') (bF:zAH K fd' ["_law_beside_each", "_law_places"] []) (mF:mg "_law_tree_plan" = some (.ref f))
 (FP:Fun K "_law_parts" "_law_parts" sPar fP fdP) (bP:zAH K fdP ["_law_beside_each", "_law_places"] []) (mP:mg "_law_parts" = some (.ref fP)) (GP:zAa P w K mg base CX0 m fP fdP ["_law_beside_each", "_law_places"] zIF) (mTuple:mg "tuple" = none) (mSorted:mg "sorted" = none) (mMax:mg "max" = none) (mLen:mg "len" = none):∀h:Nat,zAa P w K mg base CX0 (m+h+1) f fd' ["_law_beside_each", "_law_places"] (zLD h)
 | 0=>F.ok zGQ (fun vs H Q E h=>by obtain⟨bl,la,n,ts,xs,rfl,_⟩:=h;rfl) (fun cdv A outer s H vs Q E hr h=>by
  obtain⟨bl,la,n,ts,xs,rfl,_,_,_,_,_,_,hne,h0,_⟩:=h
  exact absurd (zAJ.mp (by omega)) hne)
 | h+1=>by
  have GS:=zKj F bF mF FP bP mP GP mTuple mSorted mMax mLen h
  have GP':zAa P w K mg base CX0 (m+h+1) fP fdP ["_law_beside_each", "_law_places"] zIF:=GP.mono (by omega)
  refine F.ok zGQ (fun vs H Q E h=>?_) (fun cdv A outer s H vs Q E hr h=>?_)
  . obtain⟨bl,la,n,ts,xs,rfl,_⟩:=h
    rfl
  . obtain⟨bl,la,n,ts,xs,rfl,SB,G,hla,pw,rng,h64,hne,hxl,k⟩:=h
    have hu:=zGe hr
    refine⟨_,zZ (zAR (i:=2) zGQ.nd rfl (Or.inl rfl) zCv)
     (zZ (zCJ PassesOwn.never rfl (zB3 (zAD zCP (by rfl) mSorted (by decide +kernel) (zF (pv 1) zR))) (zAP (i:=3) zGQ.nd rfl (Or.inr rfl))
      (zZ (zAR (i:=4) zGQ.nd rfl (Or.inl rfl) (zx GP' hr rfl mP FP.kp bP .nil zAk (zF (pv 0) (zF (zBq (own:=["_law_place"]) (cn:=["_law_one"]) (ci:=[3]) rfl (csc rfl rfl) ⟨rfl,rfl,rfl,trivial⟩ rfl (zB3 (pv 1)) (fun _ _ _ _=>zAP (i:=0) (zCW rfl) rfl (Or.inl rfl)) (fun _ _ _ _=>zDT (zAS zHi (pv 0) (pv 1) (zAv _))) (fun _ _ _ _=>pv 0)) zR))))
      (zZ (zAR (i:=5) zGQ.nd rfl (Or.inl rfl) (zGW rfl hu rfl mMax (zF (zBq (own:=["_law_part"]) (cn:=[]) (ci:=[]) rfl (csc rfl rfl) trivial rfl (zB3 (pv 4)) (fun _ _ _ _=>zAP (i:=0) (zCW rfl) rfl (Or.inl rfl)) (fun _ _ _ _=>zB2) (fun _ _ _ _=>zAD zDN (by rfl) mLen PySem.boot_len (zF (pv 0) zR))) zR) zm))
      (zn (zLN (u':=tBe ts xs) (zCF (PW.pt (zE2 (zAS op_isN (pv 2) zCv (zAv _)) (zDw (zAS zGX (pv 5) (zAj zAp (pv 2) zm (fun _ _=>rfl)) (zAv _))))) (zn (zAR (i:=2) zGQ.nd rfl (Or.inl rfl) (zBY (zF (pv 5) (zF (pv 3) (zF (pv 4) zR)))))) zBD) ?be)))))
     (zn (zAd (zBY (zF (zBY (zF (zAj zAp (pv 2) zm (fun _ _=>rfl)) zR)) (zF (zBi zA0 (by rfl) mTuple (by decide +kernel) (zF (zBq (own:=["_law_part"]) (cn:=["_law_beside_each"]) (ci:=[0]) rfl (csc rfl rfl) ⟨rfl,rfl,rfl,trivial⟩ rfl (zB3 (zAj zAp (pv 2) zm (fun _ _=>rfl))) (fun _ _ _ _=>zAP (i:=0) (zCW rfl) rfl (Or.inl rfl)) (fun _ _ _ _=>zB2)
      (fun _ _ _ _=>zx GS hr rfl mF F.kp bF .nil zAk (zF (pv 1) (zF (pv 0) zR)))) zR)) zR)))))),?_⟩
    case be=>
     rintro D σ H1 ⟨bl,la,vb,u,fl,qs,i,rfl,hu',ST,PA,B,pw,k⟩
     have fin:(∀w∈xs.take i,∀rs,zAb ts (xs.filter fun y=>decide (y≠w)) rs->big qs<big rs)->∀q,H1 q=none->zEP (upd H1 q (.tup [.int (big qs),.int u,.ref fl])) ts xs (i+1) (.ref q):=fun hw q hq=>.inr ⟨q,fl,u,qs,rfl,zI,ST.same (zL hq),zFN.new hu' PA hw⟩
     rcases B with ⟨rfl,rfl⟩ | ⟨b,fl',m',ps,rfl,hb,ST',BI⟩
     . refine⟨_,rfl,rfl,_,rfl,zC3 ?_⟩
       refine zC3 ⟨_,rfl,_,rfl,_,rfl,by show 3<=sizeLine;decide,fun q hq=>k _ _ (zL hq) (fin (fun w hw=>by rw[List.take_zero] at hw;cases hw) q hq)⟩
     . refine⟨_,rfl,rfl,_,rfl,zDY ?_⟩
       refine⟨_,rfl,_,rfl,b,_,_,.int (big ps),rfl,rfl,SqT.of hb,rfl,_,_,rfl,rfl,_,rfl,zGK (fun c=>?_) (fun c=>?_)⟩
       . have c:=of_decide_eq_true c
         refine⟨_,rfl,_,rfl,_,rfl,by show 3<=sizeLine;decide,fun q hq=>k _ _ (zL hq) (fin (fun w hw rs hr=>?_) q hq)⟩
         have:=(BI.le w hw rs hr).1
         omega
       . have c:¬ ((big qs:Int)<(big ps:Int)):=fun z=>c (zM z)
         exact k _ _ (zA3.refl _) (.inr ⟨b,fl',m',ps,rfl,hb,ST',BI.keep pw hu' PA (by omega)⟩)
    refine⟨_,rfl,la,xs,rfl,SqL.of hla,h64,fun l0 ms hl0 pm0 so0=>?_⟩
    have nd:=zCz pw
    have e0:ms=xs:=List.Perm.eq_of_pairwise (le:=(· < ·)) (fun a b _ _ h1 h2=>absurd h1 (by omega)) (zCe so0 (pm0.nodup_iff.mpr nd)) pw pm0
    rw[e0]
    have s0:=zL (o:=.lst (xs.map V.int)) hl0
    have hl1:(upd H l0 (.lst (xs.map V.int))) l0=some (.lst (xs.map V.int)):=zI
    refine⟨l0,rfl,⟨_,SqL.of hl1⟩,zHE (a:=l0) (xs:=xs.map V.int) (fun i σ H2=>∃(vb:V)(v3 v4 v5:Option V),σ=[some (.ref bl),some (.ref la),some vb,v3,v4,v5]/\zA3 (upd H l0 (.lst (xs.map V.int))) H2/\zEP H2 ts xs i vb)
     ⟨_,_,_,_,rfl,zA3.refl _,.inl ⟨rfl,rfl⟩⟩ (fun i σ H2 hi z=>?_) (fun i x σ H2 hx z=>?_) (fun σ H2 z=>?_)⟩
    . obtain⟨_,_,_,_,_,s2,_⟩:=z
      exact SqL.of (s2 _ _ hl1)
    . obtain⟨vb,v3,v4,v5,rfl,s2,B2⟩:=z
      obtain⟨u,hu',rfl⟩:∃u,xs[i]? = some u/\V.int u=x:=by
       rw[zT] at hx
       cases e:xs[i]? with
       | none=>rw[e] at hx;cases hx
       | some y=>rw[e] at hx;exact⟨y,rfl,za hx⟩
      have s02:=s0.trans s2
      have hla2:=s02 _ _ hla
      refine⟨_,rfl,_,rfl,la,rfl,⟨_,SqL.of hla2⟩,[.int u],rfl,fun D hD=>?_⟩
      refine zBl (a:=la) (xs:=xs.map V.int) (fun i ys H8=>ys=((xs.take i).filter fun y=>decide (y≠u)).map V.int/\H8=upd H2 D (.lst ys)) ⟨rfl,rfl⟩ (fun i ys H8 z=>?_) (fun i ys H8 z=>?_) (fun i v ys H8 hv z=>?_) (fun ys H8 z=>?_)
      . obtain⟨_,rfl⟩:=z
        exact SqL.of (by rw[zY (zg hla2 hD)];exact hla2)
      . obtain⟨rfl,_⟩:=z
        rw[zC]
        refine zAQ (zAF _ _) ?_
        rw[zp]
        exact zz (by omega)
      . obtain⟨rfl,rfl⟩:=z
        obtain⟨y,hy,rfl⟩:∃y,xs[i]? = some y/\V.int y=v:=by
         rw[zT] at hv
         cases e:xs[i]? with
         | none=>rw[e] at hv;cases hv
         | some y=>rw[e] at hv;exact⟨y,rfl,za hv⟩
        have st:(xs.take (i+1)).filter (fun y=>decide (y≠u))=(xs.take i).filter (fun y=>decide (y≠u))++[y].filter (fun y=>decide (y≠u)):=by rw[zAA,hy,List.filter_append];rfl
        refine⟨⟨rfl,rfl⟩,?_⟩
        refine⟨_,rfl,_,rfl,rfl,_,rfl,?_⟩
        by_cases c2:y=u
        . refine ifF (by rw[c2];simp) ⟨?_,rfl⟩
          rw[st,zA4 (by simp[c2]),zAn,zw]
        . refine ifT (by simp[c2]) ⟨_,rfl,zI,?_,zCA⟩
          rw[st,zBN (by simp[c2]),zAn,ze];rfl
      obtain⟨rfl,rfl⟩:=z
      rw[zC,zd (zG _)]
      have s3:=zL (o:=.lst ((xs.filter fun y=>decide (y≠u)).map V.int)) hD
      have hfl:(xs.filter fun y=>decide (y≠u)).length<=xs.length:=zAF _ _
      refine⟨bl,D,n,ts,_,rfl,SB.same (s02.trans s3),G,zI,pw.filter _,fun y hy=>rng y (zAm.mp hy).1,by omega,fun fl qs H4 hfl0 s4 ST PA=>?_⟩
      have s34:=s3.trans s4
      have s24:=s2.trans s34
      have B4:=B2.same s34
      clear B2 s3 hD
      obtain⟨rs,hrs,RI⟩:=id ST
      have ql64:qs.length<=xs.length:=by
       have h1:=PA.all (nd.filter _)
       have h2:=zDA (fs:=qs) fun f hf=>(h1.1 f hf).2.2.1
       have h3:=h1.2.length_eq
       omega
      refine⟨_,rfl,fl,rfl,⟨_,SqL.of hrs⟩,[],rfl,fun D2 hD2=>?_⟩
      refine zBl (a:=fl) (xs:=rs.map V.ref) (fun i ys H5=>ys=((qs.take i).map fun p=>(p.length:Int)).map V.int/\H5=upd H4 D2 (.lst ys)) ⟨rfl,rfl⟩ (fun i ys H5 z=>?_) (fun i ys H5 z=>?_) (fun i y ys H5 hy z=>?_) (fun ys H5 z=>?_)
      . obtain⟨_,rfl⟩:=z
        exact SqL.of (by rw[zY (zg hrs hD2)];exact hrs)
      . obtain⟨rfl,_⟩:=z
        rw[zC,zC,zp]
        exact zz (by omega)
      . obtain⟨rfl,rfl⟩:=z
        obtain⟨r,hr',rfl⟩:∃r,rs[i]? = some r/\V.ref r=y:=by
         rw[zT] at hy
         cases e:rs[i]? with
         | none=>rw[e] at hy;cases hy
         | some y=>rw[e] at hy;exact⟨y,rfl,za hy⟩
        have hi:=(zJ.mp hr').1
        have hpi:qs[i]? = some (qs[i]'(by rw[<-RI.1];exact hi)):=zD _
        have hrow:=RI.2 i r _ hr' hpi
        generalize (qs[i]'(by rw[<-RI.1];exact hi))=p at hpi hrow
        refine⟨⟨rfl,rfl⟩,?_⟩
        refine zHX ?_
        refine⟨_,rfl,r,_,rfl,.inl (SqL.of (by rw[zY (zg hrow hD2)];exact hrow)),zI,?_,zCA⟩
        rw[zAA,hpi,ze,ze,zC];rfl
      obtain⟨rfl,rfl⟩:=z
      rw[zC,RI.1,zd (zG _)]
      have s5:=zL (o:=.lst ((qs.map fun p=>(p.length:Int)).map V.int)) hD2
      have hD5:(upd H4 D2 (.lst ((qs.map fun p=>(p.length:Int)).map V.int))) D2=some (.lst ((qs.map fun p=>(p.length:Int)).map V.int)):=zI
      have s25:=s24.trans s5
      have B5:=B4.same s5
      have ST5:=ST.same s5
      generalize upd H4 D2 (.lst ((qs.map fun p=>(p.length:Int)).map V.int))=H5 at s25 B5 ST5 hD5 ⊢
      refine⟨_,rfl,D2,_,rfl,.inl (SqL.of hD5),fun e0=>?_,fun z hz hmx=>?_⟩
      . have:qs=[]:=zBW.mp e0
        subst qs
        exact⟨bl,la,vb,u,fl,[],i,rfl,hu',ST5,PA,B5,pw,fun vb' H6 s6 B6=>⟨vb',_,_,_,rfl,s25.trans s6,B6⟩⟩
      . rw[zJX hz hmx]
        exact⟨bl,la,vb,u,fl,qs,i,rfl,hu',ST5,PA,B5,pw,fun vb' H6 s6 B6=>⟨vb',_,_,_,rfl,s25.trans s6,B6⟩⟩
    . obtain⟨vb,v3,v4,v5,rfl,s2,B2⟩:=z
      rw[zC] at B2
      have s02:=s0.trans s2
      rcases B2 with ⟨z,_⟩ | ⟨b,fl,mi,ps0,rfl,hb,ST,BI⟩
      . exact absurd (zAJ.mp z) hne
      have Mi:=BI.mid
      obtain⟨pm,_,_⟩:=zCV Mi pw
      obtain⟨rs,hrs,RI⟩:=ST
      refine⟨_,rfl,b,_,_,.int mi,rfl,rfl,SqT.of hb,rfl,by show 1<=sizeLine;decide,fun a ha=>?_⟩
      have s3:=zL (o:=.tup [V.int mi]) ha
      have s03:=s02.trans s3
      have hb3:=s3 _ _ hb
      have SB3:=SB.same s03
      have hrs3:=s3 _ _ hrs
      have RI3:=RI.same s3
      have ha3:(upd H2 a (.tup [V.int mi])) a=some (.tup [V.int mi]):=zI
      generalize upd H2 a (.tup [V.int mi])=H3 at s03 hb3 SB3 hrs3 RI3 ha3 ⊢
      have pl64:ps0.length<=xs.length:=by
       have h1:=zDA (fs:=ps0) fun f hf=>(pm f hf).2.1
       have h2:=(zCV Mi pw).2.2.length_eq
       have h3:(xs.filter fun y=>decide (y≠mi)).length<=xs.length:=zAF _ _
       omega
      refine⟨_,rfl,b,_,_,.ref fl,rfl,rfl,SqT.of hb3,rfl,fl,rfl,⟨_,SqL.of hrs3⟩,[.ref bl],rfl,fun D hD=>?_⟩
      refine zBl (a:=fl) (xs:=rs.map V.ref) (fun i ys H4=>∃ks,zHR ts (ps0.take i) ks/\ks.length=i/\i<=ps0.length/\zAt H4 ys (zC0 ks)/\zA3 H3 H4/\H4 D=some (.lst ys))
       ⟨[],.nil,rfl,zk _,.nil,zL hD,zI⟩ (fun i ys H4 z=>?_) (fun i ys H4 z=>?_) (fun i v ys H4 hv z=>?_) (fun ys H4 z=>?_)
      . obtain⟨ks,_,_,_,_,s4,_⟩:=z
        exact SqL.of (s4 _ _ hrs3)
      . obtain⟨ks,_,hk,hi,S4,_⟩:=z
        rw[zCT S4,zCZ,hk]
        exact zz (by omega)
      . obtain⟨ks,tp,hk,hi,S4,s4,h4⟩:=z
        obtain⟨r,hr',rfl⟩:∃r,rs[i]? = some r/\V.ref r=v:=by
         rw[zT] at hv
         cases e:rs[i]? with
         | none=>rw[e] at hv;cases hv
         | some y=>rw[e] at hv;exact⟨y,rfl,za hv⟩
        have hi':i<ps0.length:=by rw[<-RI3.1];exact (zJ.mp hr').1
        have hpi:ps0[i]? = some ps0[i]:=zD hi'
        have hrow:=RI3.2 i r _ hr' hpi
        have hpm:=pm _ (zAy hi')
        generalize ps0[i]=q at hpi hrow hpm
        refine⟨⟨rfl,rfl⟩,?_⟩
        refine zHX ?_
        refine⟨_,rfl,_,rfl,bl,r,n,ts,q,rfl,SB3.same s4,G,s4 _ _ hrow,hpm.1,fun y hy=>rng y (hpm.2.2.2.1 y hy),by omega,hpm.2.1,by omega,fun v' p' H5 S5 tp5 s5=>?_⟩
        have h5:=s5 _ _ h4
        have kT:∀b zs,H5 b=some (.tup zs)->upd H5 D (.lst (ys++[v'])) b=some (.tup zs):=fun b zs e=>by rw[zY (zB5 e h5 (by intro z;cases z))];exact e
        refine⟨h5,ks++[p'],?_,by rw[zH,hk];rfl,hi',?_,zA9 (s4.trans s5) hD,zI⟩
        . rw[zAA,hpi]
          exact tp.snoc tp5
        . rw[zE8]
          exact zG0 (zCK kT ks (zCK (fun b zs e=>s5 _ _ e) ks S4)) (zGV kT p' S5)
      . obtain⟨ks,tp,hk,hi,S4,s4,h4⟩:=z
        rw[zC,RI3.1,zd (zG _)] at tp
        refine⟨D,_,rfl,.inl ⟨SqL.of h4,fun c2 hc2=>⟨by show 2<=sizeLine;decide,fun e he=>?_⟩⟩⟩
        have s5:=(zL (o:=.tup ys) hc2).trans (zL (o:=.tup [.ref a,.ref c2]) he)
        refine k (.ref e) (.mk [mi] ks) _ ?_ (.mk Mi tp) ((s03.trans s4).trans s5)
        rw[plD]
        exact .tup zI (.cons (.tup (s5 _ _ (s4 _ _ ha3)) (.cons (.int _) .nil)) (.cons (.tup (zL he _ _ zI) (zCK (fun b zs e=>s5 _ _ e) ks S4)) .nil))
end
end K41
namespace K41
open PySem L2 WM
theorem zDs:∀(xs ys:List PyData),PyData.weightAll (xs++ys)=PyData.weightAll xs+PyData.weightAll ys
 | [],ys=>by simp[PyData.weightAll]
 | x::xs,ys=>by
  rw[List.cons_append]
  simp only[PyData.weightAll]
  rw[zDs xs ys]
  omega
theorem zH8 (d:PyData):PyData.weightAll [d]=d.weight+1:=by simp[PyData.weightAll]
theorem zGH:∀{ds:List PyData}{p:Nat},(∀d∈ds,∃n,Fn n p d)->PyData.depthAll ds<=p/\PyData.canLayAll0 ds=true/\PyData.intsShortAll 13 ds=true/\PyData.showableAll ds=true
 | [],p,_=>⟨by simp[PyData.depthAll],by simp[PyData.canLayAll0],by simp[PyData.intsShortAll],by simp[PyData.showableAll]⟩
 | d::ds,p,h=>by
  obtain⟨b,c,e,f⟩:=zGH (ds:=ds) (p:=p) fun x hx=>h x (zO _ hx)
  obtain⟨n,g⟩:=h d zN
  refine⟨?_,?_,?_,?_⟩
  . simp only[PyData.depthAll];have:=g.dp;omega
  . simp only[PyData.canLayAll0,g.cl,c,Bool.and_self]
  . simp only[PyData.intsShortAll,g.sh,e,Bool.and_self]
  . simp only[PyData.showableAll,g.sw,f,Bool.and_self]
theorem zKr {w p:Nat}{ds:List PyData}(h:∀d∈ds,∃n,Fn n p d)(hw:PyData.weightAll ds<=w):Fn w (p+1) (.tuple ds):=by
 obtain⟨b,c,e,f⟩:=zGH h
 exact⟨by simp only[PyData.weight];exact hw,by simp only[PyData.depth];omega,by simp only[PyData.canLay0];exact c,by simp only[PyData.intsShort];exact e,by simp only[PyData.showable];exact f⟩
noncomputable def tieT (t:T3):PyData:=.tuple ((tl t).map PyData.int)
noncomputable def zKz (n:Int)(ts:List T3):PyData:=.tuple [.int n,.tuple (ts.map tieT)]
theorem zIM {H:Hp}:∀{xs:List V}{ts:List T3},zAG H xs (ts.map tl)->zAt H xs (ts.map tieT)
 | [],[],_=>.nil
 | [],_::_,h=>h.elim
 | _::_,[],h=>h.elim
 | x::xs,t::ts,h=>by
  obtain⟨⟨a,rfl,ha,_⟩,hr⟩:=h
  exact .cons (.tup ha (zEw _)) (zIM hr)
theorem zGz {H:Hp}{wa:Addr}{n:Int}{ts:List T3}(W:zBU H wa n ts):zBa H (.ref wa) (zKz n ts):=by
 obtain⟨ta,tys,h1,h2,h3,_⟩:=W
 exact .tup h1 (.cons (.int _) (.cons (.tup h2 (zIM h3)) .nil))
theorem web_fn {n:Int}{ts:List T3}(g:GW n ts):Fn 12034 3 (zKz n ts):=by
 have h1:=g.n1
 have h2:=g.n24
 have hl:=g.len
 have ht:Fn 6016 2 (.tuple (ts.map tieT)):=by
  refine (zHF (n:=93) (p:=1) (L:=64) (fun d hd=>?_) (by rw[zC];omega)).mono (by decide) (by decide)
  obtain⟨t,ht,rfl⟩:=zAT.mp hd
  obtain⟨r1,r2,r3,r4,r5⟩:=g.rng t ht
  refine (zHF (n:=30) (p:=0) (L:=3) (fun d hd=>?_) (by rw[zC];exact zG 3)).mono (by decide) (by decide)
  obtain⟨i,hi,rfl⟩:=zAT.mp hd
  have hi':i=t.1\/i=t.2.1\/i=t.2.2:=by simpa [tl] using hi
  exact zI9 (by omega)
 refine (zHF (n:=6016) (p:=2) (L:=2) (ds:=[.int n,.tuple (ts.map tieT)]) (fun d hd=>?_) (zG 2)).mono (by decide) (by decide)
 rcases zW.mp hd with rfl | hd
 . exact (zI9 (by omega)).mono (by decide) (by decide)
 . rcases zW.mp hd with rfl | hd
   . exact ht
   . cases hd
theorem PlR.letP {n:Int}{ts:List T3}{p:Pln}(R:PlR ts (lowTo n.toNat) p)(n0:0<=n):LetP n ts p:=by
 refine⟨R.pm.nodup_iff.mpr ((zDF _).imp fun h=>by omega),fun x hx=>?_,fun x x0 x1=>?_,R.tie⟩
 . have:=zCO.mp (R.pm.mem_iff.mp hx)
   omega
 . exact R.pm.mem_iff.mpr (zCO.mpr (by omega))
mutual
theorem pl_fn:∀(q:Pln),zKn q->(∀x∈zBH q,x.natAbs<=100)->1<=(zBH q).length/\Fn (34*(zBH q).length-1) (2*hgt q) (plD q)
 | .mk ps ks,g,hb=>by
  rw[zKn] at g
  rw[zBH] at hb ⊢
  rw[zH]
  have hp:0<ps.length:=zBB.mpr g.1
  obtain⟨h1,h4⟩:=zKf ks g.2 (fun x hx=>hb x (zQ.mpr (.inr hx)))
  rw[plD,hgt]
  have f1:Fn (ps.length*31) 1 (.tuple (ps.map PyData.int)):=zHF (n:=30) (p:=0) (L:=ps.length) (fun d hd=>by
   obtain⟨x,hx,rfl⟩:=zAT.mp hd
   have:=hb x (zQ.mpr (.inl hx))
   exact zI9 (by omega)) (by rw[zC];exact zG _)
  have f2:Fn (34*(zA7 ks).length) (2*zJg ks+1) (.tuple (zC0 ks)):=zKr h1 h4
  refine⟨by omega,(zKr (p:=2*zJg ks+1) (w:=34*(ps.length+(zA7 ks).length)-1) (fun d hd=>?_) ?_).mono (zG _) (by omega)⟩
  . simp only[zW,List.not_mem_nil,or_false] at hd
    rcases hd with rfl | rfl
    . exact⟨_,f1.mono (zG _) (by omega)⟩
    . exact⟨_,f2⟩
  . have w1:=f1.wt
    have w2:=f2.wt
    have e:PyData.weightAll [PyData.tuple (ps.map PyData.int),PyData.tuple (zC0 ks)]=(PyData.tuple (ps.map PyData.int)).weight+1+((PyData.tuple (zC0 ks)).weight+1):=by
     rw[show [PyData.tuple (ps.map PyData.int),PyData.tuple (zC0 ks)]=[PyData.tuple (ps.map PyData.int)]++[PyData.tuple (zC0 ks)] from rfl,zDs,zH8,zH8]
    rw[e]
    omega
theorem zKf:∀(ks:List Pln),zGf ks->(∀x∈zA7 ks,x.natAbs<=100)->(∀d∈zC0 ks,∃n,Fn n (2*zJg ks) d)/\PyData.weightAll (zC0 ks)<=34*(zA7 ks).length
 | [],_,_=>by
  rw[zC0]
  exact⟨(fun d hd=>by cases hd),zk _⟩
 | k::ks,g,hb=>by
  rw[zGf] at g
  rw[zA7] at hb ⊢
  rw[zH]
  obtain⟨a3,a4⟩:=pl_fn k g.1 (fun x hx=>hb x (zQ.mpr (.inl hx)))
  obtain⟨h1,h4⟩:=zKf ks g.2 (fun x hx=>hb x (zQ.mpr (.inr hx)))
  rw[zC0,zJg]
  refine⟨fun d hd=>?_,?_⟩
  . rcases zW.mp hd with rfl | hd
    . exact⟨_,a4.mono (zG _) (by omega)⟩
    . obtain⟨n,b2⟩:=h1 d hd
      exact⟨n,b2.mono (zG _) (by omega)⟩
  . have e:PyData.weightAll (plD k::zC0 ks)=(plD k).weight+1+PyData.weightAll (zC0 ks):=by
     rw[show plD k::zC0 ks=[plD k]++zC0 ks from rfl,zDs,zH8]
    have:=a4.wt
    rw[e]
    omega
end
noncomputable def zLF:Sp:=fun vs H Q _=>∃n:Int,vs=[.int n]/\0<=n/\Q (.int (zEV n.toNat n.toNat)) H
noncomputable def zLE (h:Nat):Sp:=fun vs H Q _=>∃(wa:Addr)(v:V)(n:Int)(ts:List T3)(p:Pln),vs=[.ref wa,v]/\zBU H wa n ts/\zBa H v (plD p)/\PlG p/\hgt p<=h/\plB 24 p=true/\LetP n ts p/\∀H',zA3 H H'->Q (.bl true) H'
noncomputable def spR (PT:Addr):Sp:=fun vs H Q _=>∃(wa:Addr)(n:Int)(ts:List T3),vs=[.ref wa]/\zBU H wa n ts/\Tb H PT/\∀H',SmT H H'->Tb H' PT->Q (.bl true) H'
section
variable {P:Program}{w:World}{K:PySem.W.Frag}{mg:Str->Option Value}{base:Heap}{PT:Addr}
theorem zAa.calm {k:Nat}{f:Addr}{fd:FuncData}{ps:List Str}{sp sp':Sp}(F:zAa P w K mg base (CXI P w) k f fd ps sp)(h:∀vs H Q E,sp' vs H Q E->sp vs H Q fun _ _ _=>False):zAa P w K mg base CX0 k f fd ps sp':=
 ⟨fun vs H Q E hs=>F.len vs H Q _ (h vs H Q E hs),fun A outer s H args us vs Q E hr he hb hv hs=>PySem.codeAny_mono (F.run A outer s H args us vs Q (fun _ _ _=>False) hr he hb hv (h vs H Q E hs)) fun r s' hq=>by
  cases r with
  | error e=>
   obtain⟨_,_,_,_,_,_,_,_,_,_,_,_,_,_,_,z⟩:=hq
   exact z.elim
  | ok fl=>cases fl <;> exact hq⟩
theorem ok_ltR {C f:Addr}{fd':FuncData}{h m:Nat}(G:zAa P w K mg base (CXI P w) m f fd' ["web", "thing"] (zIH C h)):zAa P w K mg base CX0 m f fd' ["web", "thing"] (zLE h):=
 zAa.calm G fun vs H Q E ⟨wa,v,n,ts,p,e,W,S,g,hh,pb,L,k⟩=>⟨wa,v,n,ts,p,e,W,S,g,hh,fun _ _=>k,fun z=>absurd ⟨pb,L⟩ z⟩
theorem zJu:zAI ["_law_n_here", "_law_found"] ["_law_n_here"] (defScope sFig):=⟨rfl,rfl,rfl,by decide +kernel,rfl,by decide +kernel,by decide +kernel⟩
theorem ok_fig {f:Addr}{fd':FuncData}(F:Fun K "_law_figures" "_law_figures" sFig f fd'):zAa P w K mg base CX0 1 f fd' ["_law_n_here"] zLF:=by
 refine F.ok zJu (fun vs H Q E h=>?_) (fun cdv A outer s H vs Q E hr h=>?_)
 . obtain⟨n,rfl,_⟩:=h
   rfl
 . obtain⟨n,rfl,h0,k⟩:=h
   refine⟨_,zZ (zAR (i:=1) zJu.nd rfl (Or.inl rfl) zm)
    (zZ (zC9 PassesOwn.never (zAS zJ7 (pv 0) zm (zAv _))
     (zZ (zAR (i:=0) zJu.nd rfl (Or.inl rfl) (zBP zD5 (pv 0) zm))
     (zn (zAR (i:=1) zJu.nd rfl (Or.inl rfl) (zBP zCh (pv 1) zm)))))
    (zn (zAd (pv 1)))),?_⟩
   refine⟨fun m σ H2=>∃(q c:Nat),σ=[some (.int q),some (.int c)]/\m=q/\H2=H/\c+zEV q q=zEV n.toNat n.toNat,⟨n.toNat,n.toNat,0,by rw[Int.toNat_of_nonneg h0];rfl,rfl,rfl,by omega⟩,fun m σ H2 z=>?_⟩
   obtain⟨q,c,rfl,rfl,rfl,e⟩:=z
   refine⟨_,rfl,_,_,rfl,rfl,_,rfl,zGK (fun cc=>?_) (fun cc=>?_)⟩
   . have cc:=of_decide_eq_true cc
     refine⟨fun σ' H'=>∃(q' c':Nat),σ'=[some (.int q'),some (.int c')]/\q'<m/\H'=H2/\c'+zEV q' q'=zEV n.toNat n.toNat,?_,?_⟩
     . rintro σ' H' ⟨q',c',rfl,lt,rfl,e'⟩
       exact⟨q',lt,q',c',rfl,rfl,rfl,e'⟩
     . refine⟨_,rfl,_,_,rfl,rfl,⟨by decide,by decide⟩,?_⟩
       refine⟨_,rfl,_,_,rfl,rfl,?_⟩
       refine⟨m/2,c+1,?_,by omega,rfl,?_⟩
       . rfl
       . rw[<-e]
         cases m with
         | zero=>omega
         | succ m=>
          show _=c+(if m+1=0 then 0 else zEV m ((m+1)/2)+1)
          rw[if_neg (by omega),zJA m ((m+1)/2) ((m+1)/2) (by omega) (zG _)]
          omega
   . have cc:¬ ((m:Int) > 0):=fun z=>cc (zM z)
     obtain rfl:m=0:=by omega
     refine⟨_,rfl,?_⟩
     rw[show zEV 0 0=0 from rfl,Nat.add_zero] at e
     rw[e]
     exact k
theorem scR:zAI ["_law_web_here", "_law_kept", "_law_found", "_law_beside_each"] ["_law_web_here"] (defScope zG2):=⟨rfl,rfl,rfl,by decide +kernel,rfl,by decide +kernel,by decide +kernel⟩
theorem ok_r {f fT fB fP fL fV fD fF:Addr}{fd' fdT fdB fdP fdL fdV fdD fdF:FuncData}{m:Nat}(F:Fun K "_law_right" "_law_right" zG2 f fd') (FT:Fun K "_law_told" "_law_told" zIS fT fdT) (bT:zAH K fdT ["_law_web_here"] []) (mT:mg "_law_told" = some (.ref fT)) (GT:zAa P w K mg base CX0 m fT fdT ["_law_web_here"] (zIC PT))
 (FB:Fun K "_law_beside" "_law_beside" sBes fB fdB) (bB:zAH K fdB ["_law_web_here"] []) (mB:mg "_law_beside" = some (.ref fB)) (GB:zAa P w K mg base CX0 m fB fdB ["_law_web_here"] zLG)
 (FP:Fun K "_law_parts" "_law_parts" sPar fP fdP) (bP:zAH K fdP ["_law_beside_each", "_law_places"] []) (mP:mg "_law_parts" = some (.ref fP)) (GP:zAa P w K mg base CX0 m fP fdP ["_law_beside_each", "_law_places"] zIF)
 (FL:Fun K "_law_tree_plan" "_law_tree_plan" sLtp fL fdL) (bL:zAH K fdL ["_law_beside_each", "_law_places"] []) (mL:mg "_law_tree_plan" = some (.ref fL)) (GL:zAa P w K mg base CX0 m fL fdL ["_law_beside_each", "_law_places"] (zLD 24))
 (FV:Fun K "lets_plan" "lets_plan" zIU fV fdV) (bV:zAH K fdV ["web", "thing"] []) (mV:mg "lets_plan" = some (.ref fV)) (GV:zAa P w K mg base CX0 m fV fdV ["web", "thing"] (zLE 24))
 (FD:Fun K "deepest" "deepest" sDe fD fdD) (bD:zAH K fdD ["plan"] []) (mD:mg "deepest" = some (.ref fD)) (GD:zAa P w K mg base CX0 m fD fdD ["plan"] (spDe 24))
 (FF:Fun K "_law_figures" "_law_figures" sFig fF fdF) (bF:zAH K fdF ["_law_n_here"] []) (mF:mg "_law_figures" = some (.ref fF)) (GF:zAa P w K mg base CX0 m fF fdF ["_law_n_here"] zLF)
 (mRepr:mg "repr" = none) (mLen:mg "len" = none) (mRange:mg "range" = none) (mList:mg "list" = none):zAa P w K mg base CX0 (m+1) f fd' ["_law_web_here"] (spR PT):=by
 refine F.ok scR (fun vs H Q E h=>?_) (fun cdv A outer s H vs Q E hr h=>?_)
 . obtain⟨wa,n,ts,rfl,_⟩:=h
   rfl
 . obtain⟨wa,n,ts,rfl,W,T,k⟩:=h
   obtain⟨ta,tys,hwa,hta,TA,G⟩:=id W
   have hn1:=G.n1
   have hn24:=G.n24
   have htl:=TA.length
   rw[zC] at htl
   have fw:Fn 1048576 50 (zKz n ts):=(web_fn G).mono (by decide) (by decide)
   have lne:lowTo n.toNat≠[]:=fun z=>by have:=congrArg List.length z;rw[zAx,List.length_nil] at this;omega
   refine⟨_,zZ (zAR (i:=1) scR.nd rfl (Or.inl rfl) (zAD (zCl hr) (by rfl) mRepr (by decide +kernel) (zF (pv 0) zR)))
    (zZ (zAR (i:=2) scR.nd rfl (Or.inl rfl) (zx GT hr rfl mT FT.kp bT .nil zAk (zF (pv 0) zR)))
    (zZ (zAR (i:=3) scR.nd rfl (Or.inl rfl) (zx GB hr rfl mB FB.kp bB .nil zAk (zF (pv 0) zR)))
    (zZ (zCF (PW.pt (zE2 (zAS zHi (zAD zAe (by rfl) mLen PySem.boot_len (zF (zAj zAp (pv 0) zm (fun _ _=>rfl)) zR)) (zBP zD2 (zAj zAp (pv 0) zm (fun _ _=>rfl)) zm) (zAv _))
     (zDw (zAS zHi (zAD zAe (by rfl) mLen PySem.boot_len (zF (zx GP hr rfl mP FP.kp bP .nil zAk (zF (pv 3) (zF (zCg rfl rfl mList rfl mRange (zF (zAj zAp (pv 0) zm (fun _ _=>rfl)) zR)) zR))) zR)) zm (zAv _)))))
     (zn (zAd (zCw (zCC zD6 (pv 2) zDd (zAv _)) (zCu (zCC zD6 (zAD (zCl hr) (by rfl) mRepr (by decide +kernel) (zF (pv 0) zR)) (pv 1) (zAv _)))))) zBD)
    (zZ (zCF (PW.pt (zE2 (zAS zHi (zAD (zCl hr) (by rfl) mRepr (by decide +kernel) (zF (pv 2) zR)) (zAD (zCl hr) (by rfl) mRepr (by decide +kernel) (zF (zx GL hr rfl mL FL.kp bL .nil zAk (zF (pv 3) (zF (zCg rfl rfl mList rfl mRange (zF (zAj zAp (pv 0) zm (fun _ _=>rfl)) zR)) zR))) zR)) (zAv _))
     (zDw (zAS zHi (zAD (zCl hr) (by rfl) mRepr (by decide +kernel) (zF (pv 0) zR)) (pv 1) (zAv _))))) zFh zBD)
    (zn (zAd (zCw (zCC op_isB (zx GV hr rfl mV FV.kp bV .nil zAk (zF (pv 0) (zF (pv 2) zR))) zIg (zAv _)) (zCu (zCC zLU (zx GD hr rfl mD FD.kp bD .nil zAk (zF (pv 2) zR)) (zx GF hr rfl mF FF.kp bF .nil zAk (zF (zAj zAp (pv 0) zm (fun _ _=>rfl)) zR)) (zAv _)))))))))),?_⟩
   refine⟨_,rfl,_,_,rfl,zGz W,fw,?_⟩
   refine⟨_,rfl,wa,n,ts,rfl,W,T,fun it v p H1 S1 tp s1 T1=>?_,fun nt H1 s1=>?_⟩
   . have hwa1:=s1.get hwa (by intro ps z;cases z)
     have W1:=W.smT s1
     refine⟨_,rfl,wa,n,ts,rfl,W1,fun bl H2 s2 SB=>?_⟩
     have hwa2:=s2 _ _ hwa1
     have hta2:=s2 _ _ (s1.get hta (by intro ps z;cases z))
     have W2:=W1.keep s2
     have R:=zFT p tp (zCq _) (by rw[zAx];omega)
     have Lp:=R.letP (by omega)
     have ht:=R.ht
     rw[zAx] at ht
     have hfl:(zBH p).length=n.toNat:=by rw[R.pm.length_eq,zAx]
     have fp:Fn 1048576 50 (plD p):=(pl_fn p R.gd fun x hx=>by have:=Lp.rng x hx;omega).2.mono (by omega) (by omega)
     have gG:PlG p:=⟨R.gd,fun x hx=>(Lp.rng x hx).1,by omega,R.k1⟩
     have Tr:zDh ts (lowTo n.toNat):=zEq it.1 (zG9 _) (by rw[zAx];have:=it.2;omega)
     have hd:=zGu p n.toNat tp Tr (zCq _) (by rw[zAx];exact zG _)
     rw[zAx] at hd
     refine⟨_,rfl,wa,_,_,.ref ta,rfl,rfl,SqT.of hwa2,rfl,ta,_,rfl,.inr (SqT.of hta2),_,rfl,wa,_,_,.int n,rfl,rfl,SqT.of hwa2,rfl,_,_,rfl,rfl,rfl,_,rfl,ifF ?_ ?_⟩
     . rw[htl,it.2];simp
     refine⟨_,rfl,_,rfl,wa,_,_,.int n,rfl,rfl,SqT.of hwa2,rfl,n,rfl,by omega,by omega,fun la hla=>?_⟩
     have s3:=zL (o:=.lst ((lowTo n.toNat).map V.int)) hla
     refine⟨bl,la,n,ts,_,rfl,SB.same s3,G,zI,zCq _,fun x hx=>by have:=zCO.mp hx;omega,by rw[zAx];omega,fun fl fs H4 _ s4 ST PA=>?_⟩
     obtain⟨rs,hrs,RI⟩:=ST
     have s24:=s3.trans s4
     refine⟨fl,_,rfl,.inl (SqL.of hrs),rfl,_,rfl,ifF ?_ ?_⟩
     . rw[zC,RI.1,(zFn PA (zG9 _) lne).mpr it.1];simp
     have hwa4:=s24 _ _ hwa2
     have S4:=zBF (s2.trans s24) S1
     refine⟨_,rfl,_,_,rfl,S4,fp,?_⟩
     refine⟨_,rfl,_,rfl,wa,_,_,.int n,rfl,rfl,SqT.of hwa4,rfl,n,rfl,by omega,by omega,fun la2 hla2=>?_⟩
     have s5:=zL (o:=.lst ((lowTo n.toNat).map V.int)) hla2
     refine⟨bl,la2,n,ts,_,rfl,SB.same (s24.trans s5),G,zI,zCq _,fun x hx=>by have:=zCO.mp hx;omega,by rw[zAx];omega,lne,by rw[zAx];omega,fun v' p' H6 S6 tp' s6=>?_⟩
     obtain rfl:=zGt p p' tp tp'
     have s26:=(s24.trans s5).trans s6
     refine⟨_,_,rfl,S6,fp,rfl,_,rfl,ifF (by simp) ?_⟩
     refine⟨_,rfl,_,_,rfl,zGz (W2.keep s26),fw,_,rfl,rfl,_,rfl,ifF (by simp) ?_⟩
     have S7:=zBF (s2.trans s26) S1
     refine⟨_,rfl,_,rfl,wa,v,n,ts,p,rfl,W2.keep s26,S7,gG,by omega,zKg 24 p (by omega) R.rs,Lp,fun H7 s7=>?_⟩
     refine⟨true,true,rfl,rfl,_,rfl,zC3 ?_⟩
     have s27:=s26.trans s7
     refine⟨_,rfl,v,p,rfl,zBF s7 S7,by omega,by omega,R.k1,fun H8 s8=>?_⟩
     have s28:=s27.trans s8
     refine⟨_,rfl,wa,_,_,.int n,rfl,rfl,SqT.of (s28 _ _ hwa2),rfl,n,rfl,by omega,_,_,rfl,rfl,?_⟩
     show Q (.bl (decide (((zGj p:Nat):Int)<=((zEV n.toNat n.toNat:Nat):Int)))) H8
     rw[zM (show ((zGj p:Nat):Int)<=((zEV n.toNat n.toNat:Nat):Int) by omega)]
     exact k _ (s1.trans (SmT.of (s2.trans s28))) (T1.same (s2.trans s28))
   . refine⟨_,rfl,wa,n,ts,rfl,W.keep s1,fun bl H2 s2 SB=>?_⟩
     have s12:=s1.trans s2
     have hwa2:=s12 _ _ hwa
     have hta2:=s12 _ _ hta
     refine⟨_,rfl,wa,_,_,.ref ta,rfl,rfl,SqT.of hwa2,rfl,ta,_,rfl,.inr (SqT.of hta2),_,rfl,wa,_,_,.int n,rfl,rfl,SqT.of hwa2,rfl,_,_,rfl,rfl,rfl,_,rfl,?_⟩
     by_cases c:(ts.length:Int)=n-1
     . refine ifF (by rw[htl,c];simp) ?_
       refine⟨_,rfl,_,rfl,wa,_,_,.int n,rfl,rfl,SqT.of hwa2,rfl,n,rfl,by omega,by omega,fun la hla=>?_⟩
       have s3:=zL (o:=.lst ((lowTo n.toNat).map V.int)) hla
       refine⟨bl,la,n,ts,_,rfl,SB.same s3,G,zI,zCq _,fun x hx=>by have:=zCO.mp hx;omega,by rw[zAx];omega,fun fl fs H4 _ s4 ST PA=>?_⟩
       obtain⟨rs,hrs,RI⟩:=ST
       have s04:=s12.trans (s3.trans s4)
       refine⟨fl,_,rfl,.inl (SqL.of hrs),rfl,_,rfl,ifT ?_ ?_⟩
       . rw[zC,RI.1]
         have:¬ fs.length=1:=fun z=>nt ⟨(zFn PA (zG9 _) lne).mp z,c⟩
         have:¬ (V.int (fs.length:Int)=V.int 1):=fun z=>this (by injection z with z;omega)
         simp[this]
       refine⟨_,rfl,rfl,_,rfl,ifT (zM rfl) ?_⟩
       refine⟨_,rfl,_,_,rfl,zGz (W.keep s04),fw,_,rfl,rfl,?_⟩
       rw[zM rfl]
       exact k _ (SmT.of s04) (T.same s04)
     . refine ifT ?_ (zC3 ?_)
       . rw[htl]
         have:¬ (V.int (ts.length:Int)=V.int (n-1)):=fun z=>c (by injection z)
         simp[this]
       refine⟨_,rfl,rfl,_,rfl,ifT (zM rfl) ?_⟩
       refine⟨_,rfl,_,_,rfl,zGz (W.keep s12),fw,_,rfl,rfl,?_⟩
       rw[zM rfl]
       exact k _ (SmT.of s12) (T.same s12)
end
end K41
namespace K41
open PySem L2 WM
theorem zF2:∀(l:List Int)(k:Nat),(l.map V.int).eraseIdx k=(l.eraseIdx k).map V.int
 | [],_=>rfl
 | _::_,0=>rfl
 | x::r,k+1=>by
  show V.int x::(r.map V.int).eraseIdx k=V.int x::(r.eraseIdx k).map V.int
  rw[zF2 r k]
theorem zEm:∀{l:List Int}{k:Nat}(h:k<l.length),(l[k]::l.eraseIdx k).Perm l
 | [],_,h=>absurd h (Nat.not_lt_zero _)
 | _::_,0,_=>zB0 _
 | x::r,k+1,h=>by
  have hk:k<r.length:=by simpa using h
  show (r[k]::x::r.eraseIdx k).Perm (x::r)
  exact (List.Perm.swap x r[k] _).trans ((zEm hk).cons x)
noncomputable def zIG:Sp:=fun vs H Q _=>∃(t:Addr)(N:Nat)(n:Int),vs=[.ref t,.int n]/\zAh H t N/\N<900000/\1<=n/\n<=24 /\
 ∀(l:Addr)(os:List Int)(H':Hp),H' l=some (.tup (os.map V.int))->Ordr n os->zAh H' t (N+24)->Sm t H H'->Q (.ref l) H'
section
variable {P:Program}{w:World}{K:PySem.W.Frag}{mg:Str->Option Value}{base:Heap}
theorem zEy:zAI ["_law_tape_here", "_law_n_here", "_law_left", "_law_found", "_law_k"] ["_law_tape_here", "_law_n_here"] (defScope zFf):=⟨rfl,rfl,rfl,by decide +kernel,rfl,by decide +kernel,by decide +kernel⟩
theorem zJ9 {f fD:Addr}{fd' fdD:FuncData}(F:Fun K "_law_order" "_law_order" zFf f fd') (FD:Fun K "_law_draw" "_law_draw" zE0 fD fdD) (bD:zAH K fdD ["_law_tape_here", "_law_many"] []) (mD:mg "_law_draw" = some (.ref fD))
 (mLen:mg "len" = none) (mRange:mg "range" = none) (mTuple:mg "tuple" = none) (mList:mg "list" = none):zAa P w K mg base CX0 2 f fd' ["_law_tape_here", "_law_n_here"] zIG:=by
 have GD:zAa P w K mg base CX0 1 fD fdD ["_law_tape_here", "_law_many"] zEs:=zDl FD mLen
 refine F.ok zEy (fun vs H Q E h=>?_) (fun cdv A outer s H vs Q E hr h=>?_)
 . obtain⟨t,N,n,rfl,_⟩:=h
   rfl
 . obtain⟨t,N,n,rfl,TT,hN,hn1,hn24,k⟩:=h
   obtain⟨tp,TP⟩:=TT
   refine⟨_,zZ (zAR (i:=2) zEy.nd rfl (Or.inl rfl) (zCg rfl rfl mList rfl mRange (zF (pv 1) zR)))
    (zZ (zAR (i:=3) zEy.nd rfl (Or.inl rfl) (zCL zR))
    (zZ (zCJ PassesOwn.never rfl (zCU rfl mRange (zF (pv 1) zR)) (zAP (i:=4) zEy.nd rfl (Or.inl rfl))
     (zn (zBp (zDW PySem.F.plainAttrs_list PySem.F.slot_list_append PySem.F.type_list_append zBZ (pv 3)
      (zF (zDW PySem.F.plainAttrs_list PySem.F.slot_list_pop PySem.F.type_list_pop zKB (pv 2)
       (zF (zx GD hr rfl mD FD.kp bD .nil zAk (zF (pv 0) (zF (zAD zAe (by rfl) mLen PySem.boot_len (zF (pv 2) zR)) zR))) zR)) zR)))))
    (zn (zAd (zBi zA0 (by rfl) mTuple (by decide +kernel) (zF (pv 3) zR)))))),?_⟩
   refine⟨_,rfl,n,rfl,by omega,by omega,fun lf hlf=>?_⟩
   obtain⟨ns0,sp0,re0,ht0,hp0,_⟩:=id TP
   have nlt:lf≠t:=(zg ht0 hlf).symm
   have nlp:lf≠tp:=(zg hp0 hlf).symm
   refine⟨zk _,fun D hD=>?_⟩
   have nDl:D≠lf:=fun z=>by rw[z,zI] at hD;cases hD
   have hD0:H D=none:=by rw[zY nDl] at hD;exact hD
   have nDt:D≠t:=(zg ht0 hD0).symm
   have nDp:D≠tp:=(zg hp0 hD0).symm
   refine⟨_,rfl,n,rfl,by omega,by omega,zCi (lo:=0) (n:=n.toNat) (fun q σ H2=>∃(v4:Option V)(row left:List Int),σ=[some (.ref t),some (.int n),some (.ref lf),some (.ref D),v4]/\row.length=q/\(row++left).Perm (lowTo n.toNat)/\H2 lf=some (.lst (left.map V.int))/\H2 D=some (.lst (row.map V.int))/\zCR H2 t tp (N+q)/\Sm t H H2)
    ⟨none,[],lowTo n.toNat,rfl,rfl,zB0 _,by rw[zY nDl.symm,zI],zI,TP.keepF (fun o e=>by rw[zY nDt.symm,zY nlt.symm];exact e) (fun o e=>by rw[zY nDp.symm,zY nlp.symm];exact e) (by omega),(Sm.laid hlf).chg hD0⟩ ?turn ?after⟩
   case after=>
    rintro σ H2 ⟨v4,row,left,rfl,hl,hp,hlf2,hD2,TP2,s2⟩
    have hleft:left=[]:=by
     have:=hp.length_eq
     rw[zH,zAx,hl] at this
     exact zAJ.mp (by omega)
    subst hleft
    rw[zw] at hp
    have nd:row.Nodup:=hp.nodup_iff.mpr ((zDF _).imp fun h=>by omega)
    refine⟨_,rfl,D,_,rfl,.inl ⟨SqL.of hD2,fun l hl'=>?_⟩⟩
    refine k l row _ zI ⟨hl,nd,fun p hp'=>?_⟩ (zAh.mono (zAh.laid ⟨tp,TP2⟩ hl') (by omega)) (s2.trans (Sm.laid hl'))
    have:=zCO.mp (hp.mem_iff.mp hp')
    omega
   case turn=>
    rintro q σ H2 hq ⟨v4,row,left,rfl,hl,hp,hlf2,hD2,TP2,s2⟩
    have hll:row.length+left.length=n.toNat:=by
     have:=hp.length_eq
     rw[zH,zAx] at this
     exact this
    refine⟨_,rfl,.inl ⟨rfl,_,SqL.of hD2⟩,_,rfl,.inl ⟨rfl,_,SqL.of hlf2⟩,?_⟩
    refine⟨_,rfl,_,rfl,lf,_,rfl,.inl (SqL.of hlf2),t,tp,N+q,_,rfl,TP2,by omega,by rw[zC];omega,by rw[zC];omega,fun rr H3 h0 h1 TP3 e3=>?_⟩
    rw[zC] at h1
    have hlt:rr.toNat<left.length:=by omega
    refine⟨lf,left.map V.int,rr,rr.toNat,.int left[rr.toNat],rfl,rfl,by rw[e3 lf nlt];exact hlf2,by omega,by omega,PySem.StrLaws.seqIndex_nonneg h0 (by rw[zC];omega),by rw[zT,zD hlt];rfl,?_⟩
    rw[zF2 left rr.toNat]
    have s3:Sm t H H3:=fun b o nb e=>by rw[e3 b nb];exact s2 b o nb e
    have hlf0:H lf=none:=hlf
    refine⟨D,_,_,rfl,rfl,by rw[zY nDl,e3 D nDt];exact hD2,by rw[zC];exact zz (by omega),?_⟩
    refine⟨_,row++[left[rr.toNat]],left.eraseIdx rr.toNat,rfl,by rw[zH,hl];rfl,?_,by rw[zY nDl.symm,zI],by rw[ze];exact zI,TP3.keepF (fun o e=>by rw[zY nDt.symm,zY nlt.symm];exact e) (fun o e=>by rw[zY nDp.symm,zY nlp.symm];exact e) (by omega),(s3.chg hlf0).chg hD0⟩
    refine List.Perm.trans ?_ hp
    rw[zBC]
    exact (zEm hlt).append_left row
end
theorem zFx {n:Int}{ts:List T3}{ms:List (List Int)}(hn:1<=n)(hn2:n<=24)(hl:ts.length<64)(hp:ms.Perm (ts.map tl))(hr:∀t∈ts,0<=t.1/\t.1<t.2.1/\t.2.1<n/\1<=t.2.2/\t.2.2<=99)(nd:ts.Pairwise fun s t=>¬ (s.1=t.1/\s.2.1=t.2.1)):∃ts':List T3,ts'.map tl=ms/\GW n ts':=by
 have hpt:(ms.map fun k:List Int=>((k.getD 0 0,k.getD 1 0,k.getD 2 0):T3)).Perm ts:=by
  have:=hp.map fun k:List Int=>((k.getD 0 0,k.getD 1 0,k.getD 2 0):T3)
  rw[List.map_map] at this
  have e:ts.map ((fun k:List Int=>((k.getD 0 0,k.getD 1 0,k.getD 2 0):T3))∘tl)=ts:=by
   conv=>rhs;rw[<-List.map_id ts]
   exact List.map_congr_left fun t' _=>rfl
  rw[e] at this
  exact this
 refine⟨_,?_,hn,hn2,by rw[hpt.length_eq];exact hl,fun t ht=>hr t (hpt.mem_iff.mp ht),(List.Perm.pairwise_iff (R:=fun s t:T3=>¬ (s.1=t.1/\s.2.1=t.2.1)) (fun h e=>h ⟨e.1.symm,e.2.symm⟩) hpt).mpr nd⟩
 rw[List.map_map]
 conv=>rhs;rw[<-List.map_id ms]
 refine List.map_congr_left fun k hk=>?_
 obtain⟨t',_,rfl⟩:=zAT.mp (hp.mem_iff.mp hk)
 rfl
theorem zCR.ne2 {H:Hp}{t p b:Addr}{N:Nat}(h:zCR H t p N)(hb:H b=none):b≠t/\b≠p:=by
 obtain⟨ns,spot,rest,h1,h2,_⟩:=h
 exact⟨(zg h1 hb).symm,(zg h2 hb).symm⟩
structure TI (n:Int)(os:List Int)(q:Nat)(tk:List T3):Prop where
 ln:tk.length=q
 rg:∀t∈tk,0<=t.1/\t.1<t.2.1/\t.2.1<n/\1<=t.2.2/\t.2.2<=99
 me:∀t∈tk,t.1∈os.take (q+1)/\t.2.1∈os.take (q+1)
 di:tk.Pairwise fun s t=>¬ (s.1=t.1/\s.2.1=t.2.1)
theorem TI.step {n:Int}{os:List Int}{q:Nat}{tk:List T3}{a b l:Int}(h:TI n os q tk)(O:Ordr n os)(ha:a∈os.take (q+1))(hb:os[q+1]? = some b)(l1:1<=l)(l2:l<=99):TI n os (q+1) (tk++[((if b<a then b else a),(if b > a then b else a),l)]):=by
 have e:os.take (q+1+1)=os.take (q+1)++[b]:=by rw[zAA,hb];rfl
 have nb:b∉os.take (q+1):=fun z=>by
  obtain⟨j,hj,ej⟩:=zAC z
  rw[zp] at hj
  rw[List.getElem_take] at ej
  obtain⟨hi,ei⟩:=zJ.mp hb
  have:=zr.mp (zA6.mp O.nd) j (q+1) (by omega) hi (by omega)
  rw[ej,ei] at this
  exact this rfl
 have ra:=O.rng a (List.mem_of_mem_take ha)
 have rb:=O.rng b (zc hb)
 have nab:a≠b:=fun z=>nb (z ▸ ha)
 have b2:b∈os.take (q+1+1):=by rw[e];simp
 have a2:a∈os.take (q+1+1):=by rw[e];exact zu _ ha
 refine⟨by rw[zH,h.ln];rfl,fun t ht=>?_,fun t ht=>?_,List.pairwise_append.mpr ⟨h.di,by simp,fun s hs t ht=>?_⟩⟩
 . rcases zQ.mp ht with ht | ht
   . exact h.rg t ht
   . rw[zX.mp ht]
     dsimp only
     split <;> split <;> omega
 . rcases zQ.mp ht with ht | ht
   . have:=h.me t ht
     rw[e]
     exact⟨zu _ this.1,zu _ this.2⟩
   . rw[zX.mp ht]
     dsimp only
     constructor
     . split
       . exact b2
       . exact a2
     . split
       . exact b2
       . exact a2
 . rw[zX.mp ht]
   dsimp only
   have:=h.me s hs
   intro z
   by_cases c:b<a
   . rw[if_pos c,if_neg (by omega)] at z
     exact nb (z.1 ▸ this.1)
   . rw[if_neg c,if_pos (by omega)] at z
     exact nb (z.2 ▸ this.2)
noncomputable def zKa:Sp:=fun vs H Q _=>∃(t:Addr)(N:Nat)(n:Int),vs=[.ref t,.int n]/\zAh H t N/\N<800000/\1<=n/\n<=24 /\
 ∀(wa:Addr)(ts:List T3)(H':Hp),zBU H' wa n ts->ts.length<60->zAh H' t (N+100)->Sm t H H'->Q (.ref wa) H'
section
variable {P:Program}{w:World}{K:PySem.W.Frag}{mg:Str->Option Value}{base:Heap}
theorem zEc:zAI ["_law_tape_here", "_law_n_here", "_law_order_here", "_law_reach", "_law_ties", "_law_k", "_law_ahead"] ["_law_tape_here", "_law_n_here"] (defScope zJw):=⟨rfl,rfl,rfl,by decide +kernel,rfl,by decide +kernel,by decide +kernel⟩
theorem zLW {f fD fO:Addr}{fd' fdD fdO:FuncData}(F:Fun K "_law_tree" "_law_tree" zJw f fd') (FD:Fun K "_law_draw" "_law_draw" zE0 fD fdD) (bD:zAH K fdD ["_law_tape_here", "_law_many"] []) (mD:mg "_law_draw" = some (.ref fD))
 (FO:Fun K "_law_order" "_law_order" zFf fO fdO) (bO:zAH K fdO ["_law_tape_here", "_law_n_here"] []) (mO:mg "_law_order" = some (.ref fO)) (mLen:mg "len" = none) (mRange:mg "range" = none) (mTuple:mg "tuple" = none) (mList:mg "list" = none) (mSorted:mg "sorted" = none) (mMin:mg "min" = none) (mMax:mg "max" = none):zAa P w K mg base CX0 3 f fd' ["_law_tape_here", "_law_n_here"] zKa:=by
 have GD:zAa P w K mg base CX0 2 fD fdD ["_law_tape_here", "_law_many"] zEs:=(zDl FD mLen).mono (by decide)
 have GO:zAa P w K mg base CX0 2 fO fdO ["_law_tape_here", "_law_n_here"] zIG:=zJ9 FO FD bD mD mLen mRange mTuple mList
 refine F.ok zEc (fun vs H Q E h=>?_) (fun cdv A outer s H vs Q E hr h=>?_)
 . obtain⟨t,N,n,rfl,_⟩:=h
   rfl
 . obtain⟨t,N,n,rfl,T,hN,hn1,hn24,k⟩:=h
   refine⟨_,zZ (zAR (i:=2) zEc.nd rfl (Or.inl rfl) (zx GO hr rfl mO FO.kp bO .nil zAk (zF (pv 0) (zF (pv 1) zR))))
    (zZ (zAR (i:=3) zEc.nd rfl (Or.inl rfl) (zAj zBE (zCL (zF (pv 1) (zBy (zBy zR)))) (zx GD hr rfl mD FD.kp bD .nil zAk (zF (pv 0) (zBy zR))) (fun _ _=>rfl)))
    (zZ (zAR (i:=4) zEc.nd rfl (Or.inl rfl) (zCL zR))
    (zZ (zCJ PassesOwn.never rfl (zDz rfl mRange (zBy (zF (pv 1) zR))) (zAP (i:=5) zEc.nd rfl (Or.inl rfl))
     (zZ (zAR (i:=6) zEc.nd rfl (Or.inl rfl) (zAj zAp (pv 2) (zBP zD2 (zBP zD2 (pv 5) zm) (zx GD hr rfl mD FD.kp bD .nil zAk (zF (pv 0) (zF (zAD (zF9 rfl) (by rfl) mMin (by decide +kernel) (zF (pv 5) (zF (pv 3) zR))) zR)))) (fun _ _=>rfl)))
     (zn (zBp (zDW PySem.F.plainAttrs_list PySem.F.slot_list_append PySem.F.type_list_append zBZ (pv 4) (zF (zBY (zF (zAD (zF9 rfl) (by rfl) mMin (by decide +kernel) (zF (pv 6) (zF (zAj zAp (pv 2) (pv 5) (fun _ _=>rfl)) zR))) (zF (zAD (zJU rfl) (by rfl) mMax (by decide +kernel) (zF (pv 6) (zF (zAj zAp (pv 2) (pv 5) (fun _ _=>rfl)) zR))) (zF (zBP zCh zm (zx GD hr rfl mD FD.kp bD .nil zAk (zF (pv 0) (zBy zR)))) zR)))) zR))))))
    (zn (zAd (zBY (zF (pv 1) (zF (zBi zA0 (by rfl) mTuple (by decide +kernel) (zF (zAD zEJ (by rfl) mSorted (by decide +kernel) (zF (pv 4) zR)) zR)) zR)))))))),?_⟩
   refine⟨_,rfl,_,rfl,t,N,n,rfl,T,by omega,hn1,hn24,fun l os H1 hl O T1 s1=>?_⟩
   refine⟨_,rfl,by show 3<=sizeLine;decide,fun l3 hl3=>?_⟩
   have s2:=zL (o:=.lst [.int n,.int 1,.int 2]) hl3
   have n3:=T1.ne hl3
   obtain⟨tp,TP1⟩:=id T1
   have TP2:zCR (upd H1 l3 (.lst [.int n,.int 1,.int 2])) t tp (N+24):=TP1.keepF (fun o e=>s2 _ _ e) (fun o e=>s2 _ _ e) (zG _)
   refine⟨_,rfl,t,tp,_,3,rfl,TP2,by omega,by decide,by decide,fun r H3 r0 r3 TP3 e3=>?_⟩
   have TT3:zAh H3 t _:=⟨tp,TP3⟩
   obtain⟨re,hre,er⟩:=zGb (L:=[n,1,2]) r0 r3
   have re1:1<=re/\re<1000:=by
    rcases zW.mp hre with rfl | hre
    . omega
    rcases zW.mp hre with rfl | hre
    . omega
    rw[zX.mp hre];omega
   refine⟨l3,_,_,_,rfl,rfl,SqL.of (by rw[e3 _ n3];exact zI),er,?_⟩
   have s03:Sm t H H3:=fun b o nb e=>by rw[e3 b nb];exact s2 _ _ (s1 b o nb e)
   have nlt:l≠t:=fun z=>by obtain⟨p',ns,sp,rest,a,_⟩:=id T1;rw[z] at hl;rw[a] at hl;cases hl
   have hl3':H3 l=some (.tup (os.map V.int)):=by rw[e3 _ nlt];exact s2 _ _ hl
   refine⟨zk _,fun D hD=>?_⟩
   obtain⟨nDt,nDp⟩:=zCR.ne2 TP3 hD
   have hD0:H D=none:=by
    cases q:H D with
    | none=>rfl
    | some o=>have:=s03 D o nDt q;rw[hD] at this;cases this
   have oln:=O.ln
   refine⟨_,rfl,1,n,rfl,⟨by decide,by omega,by omega⟩,zCi (lo:=1) (n:=(n-1).toNat) (fun q σ H2=>∃(v5 v6:Option V)(tys:List V)(tk:List T3),σ=[some (.ref t),some (.int n),some (.ref l),some (.int re),some (.ref D),v5,v6]/\H2 l=some (.tup (os.map V.int))/\H2 D=some (.lst tys)/\zAG H2 tys (tk.map tl)/\TI n os q tk/\zCR H2 t tp (N+30+2*q)/\Sm t H H2)
    ⟨_,_,[],[],rfl,zL hD _ _ hl3',zI,trivial,⟨rfl,(fun s hs=>by cases hs),(fun s hs=>by cases hs),.nil⟩,TP3.keepF (fun o e=>zL hD _ _ e) (fun o e=>zL hD _ _ e) (by omega),s03.chg hD0⟩ (fun q σ H4 hq z=>?_) (fun σ H4 z=>?_)⟩
   . obtain⟨v5,v6,tys,tk,rfl,hl4,hD4,TA,I,P4,s4⟩:=z
     have T4:zAh H4 t _:=⟨tp,P4⟩
     have hq1:q+1<os.length:=by omega
     have mn:0<(if re<(1:Int)+q then re else (1:Int)+q)/\(if re<(1:Int)+q then re else (1:Int)+q)<=1+q:=by
      split <;> omega
     have nDt4:D≠t:=nDt
     refine⟨_,rfl,_,rfl,_,_,rfl,rfl,_,rfl,_,rfl,_,rfl,_,_,rfl,t,tp,_,_,rfl,P4,by omega,mn.1,by omega,fun d H5 d0 d1 P5 e5=>?_⟩
     have hl5:H5 l=some (.tup (os.map V.int)):=by rw[e5 _ nlt];exact hl4
     obtain⟨j,hj⟩:∃j:Nat,(1:Int)+q-1-d=j:=⟨((1:Int)+q-1-d).toNat,by omega⟩
     have hjl:j<os.length:=by omega
     have hat:atI (os.map V.int) ((1:Int)+q-1-d)=some (.int os[j]):=by rw[hj];exact zB8 (by rw[zT,zD hjl];rfl)
     refine⟨_,_,rfl,rfl,l,_,_,_,rfl,rfl,SqT.of hl5,hat,?_⟩
     have hb:os[q+1]? = some os[q+1]:=zD hq1
     have hatb:atI (os.map V.int) ((1:Int)+q)=some (.int os[q+1]):=by rw[show (1:Int)+q=((q+1:Nat):Int) by omega];exact zB8 (by rw[zT,hb];rfl)
     have ha:os[j]∈os.take (q+1):=by
      have:j<(os.take (q+1)).length:=by rw[zp];omega
      have e2:(os.take (q+1))[j]=os[j]:=List.getElem_take
      exact e2 ▸ zAy this
     generalize os[j]=av at hat ha
     generalize os[q+1]=bv at hb hatb
     have hD5:H5 D=some (.lst tys):=by rw[e5 _ nDt];exact hD4
     refine⟨_,rfl,.inl ⟨rfl,_,SqL.of hD5⟩,_,rfl,_,rfl,_,rfl,l,_,_,.int bv,rfl,rfl,SqT.of hl5,hatb,_,_,rfl,_,rfl,_,rfl,_,rfl,l,_,_,.int bv,rfl,rfl,SqT.of hl5,hatb,_,_,rfl,?_⟩
     refine⟨_,rfl,t,tp,_,99,rfl,P5,by omega,by decide,by decide,fun c H6 c0 c1 P6 e6=>?_⟩
     refine⟨_,_,rfl,rfl,by show 3<=sizeLine;decide,fun e he=>?_⟩
     have hD6:H6 D=some (.lst tys):=by rw[e6 _ nDt];exact hD5
     have hlt:=TA.length
     rw[zC] at hlt
     have hk:=I.ln
     refine⟨D,_,_,rfl,rfl,zL he _ _ hD6,zz (by omega),?_⟩
     have I':=I.step O ha hb (show 1<=1+c by omega) (by omega)
     have s46:∀b o,b≠t->H4 b=some o->H6 b=some o:=fun b o nb z=>by rw[e6 b nb,e5 b nb];exact z
     have tt:∀b ys,H4 b=some (.tup ys)->b≠t:=fun b ys z z2=>by obtain⟨p',ns,sp,rest,a,_⟩:=id T4;rw[z2,a] at z;cases z
     have he6:H6 e=none:=he
     have neD:e≠D:=fun z=>by rw[z,hD6] at he6;cases he6
     obtain⟨net,nep⟩:=zCR.ne2 P6 he
     have he0:H e=none:=by
      cases q:H e with
      | none=>rfl
      | some o=>have:=s46 e o net (s4 e o net q);rw[he6] at this;cases this
     refine⟨_,_,tys++[.ref e],tk++[_],rfl,?_,zI,?_,I',?_,?_⟩
     . rw[zY (zB5 (s46 _ _ nlt hl4) hD6 (by intro z;cases z)),zY (fun z=>by rw[z] at hl4;have:=s46 _ _ net hl4;rw[he6] at this;cases this)]
       exact s46 _ _ nlt hl4
     . rw[ze]
       refine zAG.snoc (TA.keep fun b ys z=>?_) ⟨e,rfl,?_,?_⟩
       . have zb:=s46 b _ (tt b ys z) z
         rw[zY (zB5 zb hD6 (by intro z;cases z)),zY (fun y=>by rw[y,he6] at zb;cases zb)]
         exact zb
       . rw[zY neD];exact zI
       . intro z;cases z
     . exact P6.keepF (fun o z=>by rw[zY nDt.symm,zY net.symm];exact z) (fun o z=>by rw[zY nDp.symm,zY nep.symm];exact z) (by omega)
     . exact (Sm.chg (fun b o nb z=>by rw[zY (fun y=>by rw[y,he0] at z;cases z)];exact s46 b o nb (s4 b o nb z)) hD0)
   . obtain⟨v5,v6,tys,tk,rfl,hl4,hD4,TA,I,P4,s4⟩:=z
     have T4:zAh H4 t _:=⟨tp,P4⟩
     have hlt:=TA.length
     rw[zC] at hlt
     have hk:=I.ln
     refine⟨_,rfl,_,rfl,D,tys,_,rfl,SqL.of hD4,TA,by rw[zC];omega,fun la zs ms hla TZ pm _=>?_⟩
     refine⟨la,_,rfl,.inl ⟨SqL.of zI,fun c hc=>⟨by show 2<=sizeLine;decide,fun wa hwa=>?_⟩⟩⟩
     have s5:=((zL (o:=.lst zs) hla).trans (zL (o:=.tup zs) hc)).trans (zL (o:=.tup [.int n,.ref c]) hwa)
     obtain⟨ts,ets,Gt⟩:=zFx hn1 hn24 (by omega) pm I.rg I.di
     refine k wa ts _ ⟨c,zs,zI,zL hwa _ _ zI,?_,Gt⟩ (by have:=congrArg List.length ets;rw[zC,pm.length_eq,zC] at this;omega) ((T4.keep s5).mono (by omega)) (s4.trans (Sm.of s5))
     rw[ets]
     exact TZ.keep fun b ys e=>s5 _ _ e
end
end K41
namespace K41
open PySem L2 WM
section
variable {X:Cx}
noncomputable def rCatV:R2:=fun x y H Q=>∃(a b:Addr)(xs ys:List V),x = .ref a/\y = .ref b/\H a=some (.tup xs)/\H b=some (.tup ys)/\xs.length+ys.length<=sizeLine/\∀(p:Addr)(H':Hp),zA3 H H'->H' p=some (.tup (xs++ys))->Q (.ref p) H'
theorem zIk:OpR X (binaryOp .Add) rCatV:=fun pins s σ H x y v u Q I rx ry h=>by
 obtain⟨a,b,xs,ys,rfl,rfl,ha,hb,hz,q⟩:=h
 refine zIl pins s σ H _ _ v u Q I rx ry ⟨a,b,xs,ys,rfl,rfl,SqT.of ha,SqT.of hb,hz,fun e=>?_,fun _ e=>?_,fun _ _ p hp=>q p _ (zL hp) zI⟩
 . subst e;exact q b H (zA3.refl _) hb
 . subst e;exact q a H (zA3.refl _) (by rw[zw];exact ha)
noncomputable def rSlV:V->Option Int->Option Int->Hp->VK->Prop:=fun x lo hi H Q=>∃(a:Addr)(xs:List V),x = .ref a/\H a=some (.tup xs)/\∀(p:Addr)(H':Hp),zA3 H H'->H' p=some (.tup (zFO xs lo hi))->Q (.ref p) H'
theorem zEu:SlR X rSlV:=fun pins s σ H x v vl vu lo hi sl Q I rx hs pl pu h=>by
 obtain⟨a,xs,rfl,ha,q⟩:=h
 refine zLI pins s σ H _ v vl vu lo hi sl Q I rx hs pl pu ⟨a,xs,rfl,SqT.of ha,fun e=>?_,fun _ p hp=>q p _ (zL hp) zI⟩
 refine q a H (zA3.refl _) ?_
 have:zFO xs lo hi=xs:=by
  unfold zFO
  rw[e.1,e.2,List.drop_zero,Nat.sub_zero,zd (zG _)]
 rw[this]
 exact ha
end
section
variable {X:Cx}
theorem zDM:zCd X (.builtin "sorted") (fun xs H Q=>∃p ys ks,xs=[.ref p]/\SqT X.K H p ys/\zAG H ys ks/\ks.length<64 /\
 ∀l zs ms,H l=none->zAG H zs ms->ms.Perm ks->zH3 ms->Q (.ref l) (upd H l (.lst zs))):=by
 intro pins s σ H xs us Q I r h
 obtain⟨p,ys,ks,rfl,hq,T,h64,q⟩:=h
 obtain⟨u,rfl,rx⟩:=zDQ r
 cases rx
 obtain⟨its,r',pl,hz⟩:=I.tuple hq
 have hl:=T.length
 have hv:=r'.length
 refine SortT.sorted_tup (O:=zJe) (key:=fun i=>ks.getD i []) (κ:=PyProof.Rows.tuples' true) pl (by omega) (fun h2 s' a fa kp=>zEK I T r' (by omega) fa kp) fun D h' out c pt hD kp ho=>?_
 obtain⟨zs,ms,T2,hp,hr,rz,hlz⟩:=zE3 T r' pt
 exact⟨.ref D,_,zCS (t':=s.toks) I hD kp ho rz (by omega),rfl,q D zs ms (I.hok.fresh hD) T2 hp hr⟩
end
theorem zAh.smT {H H':Hp}{t:Addr}{N:Nat}(h:zAh H t N)(k:SmT H H'):zAh H' t N:=by
 obtain⟨p,ns,spot,rest,a,b,c⟩:=h
 exact⟨p,ns,spot,rest,k.get a (by intro ps z;cases z),k.get b (by intro ps z;cases z),c⟩
theorem zC8 {H H':Hp}{t PT:Addr}{N:Nat}{pos:Pos}{q:Str}(T:zAh H t N)(k:Sm t H H')(h:TabAt H PT pos q):TabAt H' PT pos q:=by
 obtain⟨p,ns,spot,rest,a,_⟩:=T
 obtain⟨ps,hp,_⟩:=id h
 exact h.keep (fun o e=>k _ _ (zB5 hp a (by intro z;cases z)) e) fun c φ e=>k _ _ (zB5 e a (by intro z;cases z)) e
theorem zC7 {H:Hp}:∀{tys:List V}{ks:List (List Int)}(a:Nat),zAG H tys ks->zAG H (tys.take a) (ks.take a)/\zAG H (tys.drop a) (ks.drop a)
 | tys,ks,0,h=>⟨trivial,h⟩
 | [],[],a+1,_=>⟨trivial,trivial⟩
 | [],_::_,_+1,h=>h.elim
 | _::_,[],_+1,h=>h.elim
 | _::_,_::_,a+1,h=>⟨⟨h.1,(zC7 a h.2).1⟩,(zC7 a h.2).2⟩
theorem GW.cut {n:Int}{ts:List T3}(g:GW n ts)(i j:Nat):GW n ((ts.drop i).take j):=
 ⟨g.n1,g.n24,zAQ (by rw[zp,List.length_drop];omega) g.len,fun t ht=>g.rng t (List.mem_of_mem_drop (List.mem_of_mem_take ht)),g.dis.sublist ((List.take_sublist _ _).trans (List.drop_sublist _ _))⟩
theorem zDR {H:Hp}{tys:List V}{n:Int}{ts:List T3}(h:zAG H tys (ts.map tl))(g:GW n ts)(lo hi:Option Int):∃ts':List T3,zAG H (zFO tys lo hi) (ts'.map tl)/\GW n ts'/\∀t∈ts',t∈ts:=by
 unfold zFO
 refine⟨(ts.drop (HT.sIx tys.length 0 lo)).take (HT.sIx tys.length tys.length hi-HT.sIx tys.length 0 lo),?_,GW.cut g _ _,fun t ht=>List.mem_of_mem_drop (List.mem_of_mem_take ht)⟩
 rw[List.map_take,List.map_drop]
 exact (zC7 _ (zC7 _ h).2).1
theorem GW.add {n:Int}{ts:List T3}{a b:Int}(g:GW n ts)(hl:ts.length<60)(h0:0<=a)(h1:a<b)(h2:b<n)(hn:[a,b]∉ts.map fun t=>[t.1,t.2.1]){ms:List (List Int)}(hp:ms.Perm ((ts++[(a,b,7)]).map tl)):∃ts':List T3,ts'.map tl=ms/\GW n ts':=by
 refine zFx g.n1 g.n24 (by rw[zH,zAc];omega) hp (fun t ht=>?_) (List.pairwise_append.mpr ⟨g.dis,by simp,fun s hs t ht=>?_⟩)
 . rcases zQ.mp ht with ht | ht
   . exact g.rng t ht
   . rw[zX.mp ht]
     exact⟨h0,h1,h2,by show (1:Int)<=7;decide,by show (7:Int)<=99;decide⟩
 . rw[zX.mp ht]
   rintro ⟨e1,e2⟩
   exact hn (zAT.mpr ⟨s,hs,by rw[e1,e2]⟩)
noncomputable def Gd (H:Hp)(ys:List V):Prop:=∀y∈ys,∃(wa:Addr)(n:Int)(ts:List T3),y = .ref wa/\zBU H wa n ts
theorem Gd.keepT {H H':Hp}{ys:List V}(h:Gd H ys)(k:∀b zs,H b=some (.tup zs)->H' b=some (.tup zs)):Gd H' ys:=fun y hy=>let ⟨wa,n,ts,e,W⟩:=h y hy;⟨wa,n,ts,e,W.keepT k⟩
theorem Gd.same {H H':Hp}{ys:List V}(h:Gd H ys)(s:zA3 H H'):Gd H' ys:=h.keepT fun b zs e=>s _ _ e
theorem Gd.more {H:Hp}{ys:List V}(h:Gd H ys){wa:Addr}{n:Int}{ts:List T3}(W:zBU H wa n ts):Gd H (ys++[.ref wa]):=fun y hy=>by
 rcases zQ.mp hy with z | z
 . exact h y z
 . rw[zX.mp z];exact⟨wa,n,ts,rfl,W⟩
noncomputable def zJp (K:PySem.W.Frag)(PT:Addr):Sp:=fun vs H Q _=>∃(a:Addr)(ns:List Int),vs=[.ref a]/\SqL K H a (ns.map V.int)/\ns.length<=63/\H PT=some (.tbl #[])/\∀H',Q (.bl true) H'
structure MoI (H:Hp)(PT t tp wa L:Addr)(n:Int)(ts:List T3)(ys:List V)(N:Nat):Prop where
 web:zBU H wa n ts
 sh:ts.length<60
 hL:H L=some (.lst ys)
 yl:ys.length<=4
 gd:Gd H ys
 tape:zCR H t tp N
 nt:L≠t
 np:L≠tp
 tb:Tb H PT
noncomputable def tNh:TS:=fun D σ H=>∃(t:Addr)(N:Nat)(v0 v2 v3 v4 v5 v6 v7 v8:Option V),σ=[v0,some (.ref t),v2,v3,v4,v5,v6,v7,v8]/\zAh H t N/\N<700000/\∀(n:Int)(H':Hp),1<=n->n<=24->zAh H' t (N+2)->Sm t H H'->D.nx [v0,some (.ref t),v2,some (.int n),v4,v5,v6,v7,v8] H'
noncomputable def tMo (PT:Addr):TS:=fun D σ H=>∃(t tp wa L:Addr)(n:Int)(ts:List T3)(ys:List V)(N:Nat)(one oth:Int)(v0 v2 v8:Option V),σ=[v0,some (.ref t),v2,some (.int n),some (.ref wa),some (.ref L),some (.int one),some (.int oth),v8]/\MoI H PT t tp wa L n ts ys N/\0<=one/\oth<n /\
 ∀(ys':List V)(H':Hp),H' L=some (.lst ys')->Gd H' ys'->zCR H' t tp N->Tb H' PT->D.nx σ H'
section
variable {P:Program}{w:World}{K:PySem.W.Frag}{mg:Str->Option Value}{base:Heap}{PT:Addr}
theorem zEz:zAI ["_law_script", "_law_tape_here", "_law_k", "_law_n_here", "_law_tree_here", "_law_some", "_law_one", "_law_other", "_law_web_here"] ["_law_script"] (defScope sLaw):=⟨rfl,rfl,rfl,by decide +kernel,rfl,by decide +kernel,by decide +kernel⟩
theorem ok_law {c cW cR cP fI c1 c2 c3 c4 c5 c6 c7 c8 c9 c10 c11 f fTa fD fN fW fOr fT fB fWh fJw fTp fIt fPop fMi fGp fPwo fNu fWi fPl fTo fRs fIp fPw fPp fCh fCo fPo fDe fLt fRa fPf fLk fTf fBe fPa fTr fLtp fFi fTl fR:Addr}{tk:Tok}{fdI fd' fdTa fdD fdN fdW fdOr fdT fdB fdWh fdJw fdTp fdIt fdPop fdMi fdGp fdPwo fdNu fdWi fdPl fdTo fdRs fdIp fdPw fdPp fdCh fdCo fdPo fdDe fdLt fdRa fdPf fdLk fdTf fdBe fdPa fdTr fdLtp fdFi fdTl fdR:FuncData}(F:Fun K "law" "law" sLaw f fd') (CH:PySem.W.CodeHd base c PT)(hbm:zJh mg base)(Er:E41 K mg cW cR [c1,c2,c3,c4,c5,c6,c7] [c8,c9,c10,c11])
 (mC:mg "NoPlan" = some (.ref cP)) (EI:zHT K cP fI)(FI:Fun K "__init__" "NoPlan.__init__" sI1 fI fdI) (bI:zAH K fdI ["self", "word", "at"] []) (mo:PySem.W.mroIn K cP (.type "object")=some true) (i1:PySem.W.findIn K (.ref cP) "word" = some none) (i2:PySem.W.findIn K (.ref cP) "at" = some none) (mMW:mg "MOST_WITHIN" = some (.int 24 tk))
 (FTa:Fun K "_law_tape" "_law_tape" zJx fTa fdTa) (bTa:zAH K fdTa ["_law_script"] []) (mTa:mg "_law_tape" = some (.ref fTa))
 (FD:Fun K "_law_draw" "_law_draw" zE0 fD fdD) (bD:zAH K fdD ["_law_tape_here", "_law_many"] []) (mD:mg "_law_draw" = some (.ref fD))
 (FN:Fun K "_law_n" "_law_n" sN fN fdN) (bN:zAH K fdN ["_law_tape_here"] []) (mN:mg "_law_n" = some (.ref fN))
 (FW:Fun K "_law_web" "_law_web" sWeb fW fdW) (bW:zAH K fdW ["_law_tape_here", "_law_n_here"] []) (mW:mg "_law_web" = some (.ref fW))
 (FOr:Fun K "_law_order" "_law_order" zFf fOr fdOr) (bOr:zAH K fdOr ["_law_tape_here", "_law_n_here"] []) (mOr:mg "_law_order" = some (.ref fOr))
 (FT:Fun K "ties_at" "ties_at" zHd fT fdT) (bT:zAH K fdT ["web", "place"] []) (mT:mg "ties_at" = some (.ref fT))
 (FB:Fun K "beside" "beside" zDu fB fdB) (bB:zAH K fdB ["web", "place"] []) (mB:mg "beside" = some (.ref fB))
 (FWh:Fun K "is_whole" "is_whole" zFe fWh fdWh) (bWh:zAH K fdWh ["web"] []) (mWh:mg "is_whole" = some (.ref fWh))
 (FJw:Fun K "joined_within" "joined_within" sJw fJw fdJw) (bJw:zAH K fdJw ["web", "places", "start"] []) (mJw:mg "joined_within" = some (.ref fJw))
 (FTp:Fun K "tree_plan" "tree_plan" sTp fTp fdTp) (bTp:zAH K fdTp ["web"] []) (mTp:mg "tree_plan" = some (.ref fTp))
 (FIt:Fun K "is_tree" "is_tree" sIt fIt fdIt) (bIt:zAH K fdIt ["web"] []) (mIt:mg "is_tree" = some (.ref fIt))
 (FPop:Fun K "plan_of_part" "plan_of_part" sPop fPop fdPop) (bPop:zAH K fdPop ["web", "places"] []) (mPop:mg "plan_of_part" = some (.ref fPop))
 (FMi:zKy K "middle_place" "middle_place" sMi fMi fdMi c) (bMi:zAH K fdMi ["web", "places"] []) (mMi:mg "middle_place" = some (.ref fMi))
 (FGp:Fun K "greatest_part" "greatest_part" sGp fGp fdGp) (bGp:zAH K fdGp ["web", "places", "gone"] []) (mGp:mg "greatest_part" = some (.ref fGp))
 (FPwo:Fun K "parts_without" "parts_without" sPwo fPwo fdPwo) (bPwo:zAH K fdPwo ["web", "places", "gone"] []) (mPwo:mg "parts_without" = some (.ref fPwo))
 (FNu:Fun K "is_number" "is_number" sNum fNu fdNu) (bNu:zAH K fdNu ["thing"] []) (mNu:mg "is_number" = some (.ref fNu))
 (FWi:Fun K "is_within" "is_within" sWi fWi fdWi) (bWi:zAH K fdWi ["thing", "least", "most"] []) (mWi:mg "is_within" = some (.ref fWi))
 (FPl:Fun K "is_place" "is_place" sPl fPl fdPl) (bPl:zAH K fdPl ["n", "thing"] []) (mPl:mg "is_place" = some (.ref fPl))
 (FTo:Fun K "is_tuple_of" "is_tuple_of" sTof fTo fdTo) (bTo:zAH K fdTo ["thing", "count"] []) (mTo:mg "is_tuple_of" = some (.ref fTo))
 (FRs:Fun K "is_rising" "is_rising" sRis fRs fdRs) (bRs:zAH K fdRs ["things"] []) (mRs:mg "is_rising" = some (.ref fRs))
 (FIp:Fun K "is_plan" "is_plan" sIp fIp fdIp) (bIp:zAH K fdIp ["thing"] []) (mIp:mg "is_plan" = some (.ref fIp))
 (FPw:Fun K "is_plan_within" "is_plan_within" sPw fPw fdPw) (bPw:zAH K fdPw ["thing", "most"] []) (mPw:mg "is_plan_within" = some (.ref fPw))
 (FPp:Fun K "are_plan_places" "are_plan_places" sPp fPp fdPp) (bPp:zAH K fdPp ["thing"] []) (mPp:mg "are_plan_places" = some (.ref fPp))
 (FCh:Fun K "chain" "chain" sCh fCh fdCh) (bCh:zAH K fdCh ["plan", "place"] []) (mCh:mg "chain" = some (.ref fCh))
 (FCo:Fun K "chain_or_none" "chain_or_none" sCo fCo fdCo) (bCo:zAH K fdCo ["plan", "place"] []) (mCo:mg "chain_or_none" = some (.ref fCo))
 (FPo:Fun K "plan_order" "plan_order" sPo fPo fdPo) (bPo:zAH K fdPo ["plan"] []) (mPo:mg "plan_order" = some (.ref fPo))
 (FDe:Fun K "deepest" "deepest" sDe fDe fdDe) (bDe:zAH K fdDe ["plan"] []) (mDe:mg "deepest" = some (.ref fDe))
 (FLt:Fun K "lets_plan" "lets_plan" zIU fLt fdLt) (bLt:zAH K fdLt ["web", "thing"] []) (mLt:mg "lets_plan" = some (.ref fLt))
 (FRa:Fun K "refuse_at" "refuse_at" zIT fRa fdRa) (bRa:zAH K fdRa ["word", "at"] []) (mRa:mg "refuse_at" = some (.ref fRa))
 (FPf:Fun K "place_fault" "place_fault" sPf fPf fdPf) (bPf:zAH K fdPf ["web", "plan"] []) (mPf:mg "place_fault" = some (.ref fPf))
 (FLk:Fun K "lacks_fault" "lacks_fault" sLk fLk fdLk) (bLk:zAH K fdLk ["web", "plan"] []) (mLk:mg "lacks_fault" = some (.ref fLk))
 (FTf:Fun K "tie_fault" "tie_fault" sTf fTf fdTf) (bTf:zAH K fdTf ["web", "plan"] []) (mTf:mg "tie_fault" = some (.ref fTf))
 (FBe:Fun K "_law_beside" "_law_beside" sBes fBe fdBe) (bBe:zAH K fdBe ["_law_web_here"] []) (mBe:mg "_law_beside" = some (.ref fBe))
 (FPa:Fun K "_law_parts" "_law_parts" sPar fPa fdPa) (bPa:zAH K fdPa ["_law_beside_each", "_law_places"] []) (mPa:mg "_law_parts" = some (.ref fPa))
 (FTr:Fun K "_law_tree" "_law_tree" zJw fTr fdTr) (bTr:zAH K fdTr ["_law_tape_here", "_law_n_here"] []) (mTr:mg "_law_tree" = some (.ref fTr))
 (FLtp:Fun K "_law_tree_plan" "_law_tree_plan" sLtp fLtp fdLtp) (bLtp:zAH K fdLtp ["_law_beside_each", "_law_places"] []) (mLtp:mg "_law_tree_plan" = some (.ref fLtp))
 (FFi:Fun K "_law_figures" "_law_figures" sFig fFi fdFi) (bFi:zAH K fdFi ["_law_n_here"] []) (mFi:mg "_law_figures" = some (.ref fFi))
 (FTl:Fun K "_law_told" "_law_told" zIS fTl fdTl) (bTl:zAH K fdTl ["_law_web_here"] []) (mTl:mg "_law_told" = some (.ref fTl))
 (FR:Fun K "_law_right" "_law_right" zG2 fR fdR) (bR:zAH K fdR ["_law_web_here"] []) (mR:mg "_law_right" = some (.ref fR))
 (mLen:mg "len" = none) (mRange:mg "range" = none) (mTuple:mg "tuple" = none) (mSorted:mg "sorted" = none) (mMin:mg "min" = none) (mMax:mg "max" = none) (mRepr:mg "repr" = none) (mList:mg "list" = none) (mIsi:mg "isinstance" = none) (mInt:mg "int" = none) (mBool:mg "bool" = none) (mAll:mg "all" = none) (mSet:mg "set" = none) (mVal:mg "ValueError" = none):zAa P w K mg base CX0 40 f fd' ["_law_script"] (zJp K PT):=by
 have GTa:zAa P w K mg base CX0 39 fTa fdTa ["_law_script"] (zKc K):=(zLZ FTa).mono (by decide)
 have GD:zAa P w K mg base CX0 39 fD fdD ["_law_tape_here", "_law_many"] zEs:=(zDl FD mLen).mono (by decide)
 have GN:zAa P w K mg base CX0 39 fN fdN ["_law_tape_here"] spN:=(ok_n FN FD bD mD mLen).mono (by decide)
 have GW':zAa P w K mg base CX0 39 fW fdW ["_law_tape_here", "_law_n_here"] spWeb:=(ok_web FW FD bD mD mLen mRange mTuple mSorted).mono (by decide)
 have GTr:zAa P w K mg base CX0 39 fTr fdTr ["_law_tape_here", "_law_n_here"] zKa:=(zLW FTr FD bD mD FOr bOr mOr mLen mRange mTuple mList mSorted mMin mMax).mono (by decide)
 have GJw:zAa P w K mg base CX0 3 fJw fdJw ["web", "places", "start"] spJw:=ok_jw FJw FB bB mB FT bT mT mSorted mTuple mLen
 have GWh:zAa P w K mg base CX0 4 fWh fdWh ["web"] zGM:=zJ8 FWh FJw bJw mJw GJw mLen mRange mList
 have GIt:zAa P w K mg base CX0 5 fIt fdIt ["web"] spIt:=ok_it FIt FWh bWh mWh GWh mLen
 have GPwo:zAa P w K mg base CX0 4 fPwo fdPwo ["web", "places", "gone"] zIE:=ok_pwo FPwo FJw bJw mJw GJw
 have GGp:zAa P w K mg base CX0 5 fGp fdGp ["web", "places", "gone"] spGp:=ok_gp FGp FPwo bPwo mPwo GPwo mLen mMax
 have GMi:zAa P w K mg base CX0 8 fMi fdMi ["web", "places"] (spMi PT):=ok_mi FMi CH hbm mMin FGp bGp mGp GGp
 have GPop:zAa P w K mg base CX0 33 fPop fdPop ["web", "places"] (zLB PT 24):=zKh FPop bPop mPop FMi.kp bMi mMi GMi FPwo bPwo mPwo (GPwo.mono (by decide)) mTuple 24
 have GTp:zAa P w K mg base (CXO P w) 34 fTp fdTp ["web"] (spTp PT cR):=ok_tp FTp Er.mR Er.qR FIt bIt mIt (GIt.mono (by decide)) FPop bPop mPop GPop mRange mList
 have GTl:zAa P w K mg base CX0 35 fTl fdTl ["_law_web_here"] (zIC PT):=zLX FTl FTp bTp mTp GTp Er mIsi mVal
 have GPp:∀m,zAa P w K mg base CX0 (m+2) fPp fdPp ["thing"] spPp:=fun m=>(ok_pp FPp FNu bNu mNu FRs bRs mRs mIsi mInt mBool mTuple mLen mRange mAll).mono (by omega)
 have GTo:∀m,zAa P w K mg base CX0 (m+2) fTo fdTo ["thing", "count"] zLA:=fun m=>(ok_tof FTo mIsi mTuple mLen).mono (by omega)
 have GPw:zAa P w K mg base CX0 27 fPw fdPw ["thing", "most"] (spPw 24):=ok_pw FPw bPw mPw FTo bTo mTo FPp bPp mPp GTo GPp mIsi mTuple mAll 24
 have GIp:zAa P w K mg base CX0 28 fIp fdIp ["thing"] spIp:=ok_ip FIp FPw bPw mPw GPw mMW
 have GPo:zAa P w K mg base CX0 25 fPo fdPo ["plan"] (spPo 24):=ok_po FPo bPo mPo mList mTuple 24
 have GCh:zAa P w K mg base CX0 26 fCh fdCh ["plan", "place"] (spCh 24):=ok_ch FCh FCo bCo mCo mTuple mSorted mSet
 have GDe:zAa P w K mg base CX0 25 fDe fdDe ["plan"] (spDe 24):=ok_de FDe bDe mDe mLen mMax 24
 have GPf:zAa P w K mg base CX0 28 fPf fdPf ["web", "plan"] (spPf 24):=ok_pf FPf FPo bPo mPo (GPo.mono (by decide)) FPl bPl mPl ((ok_plB FPl FWi bWi mWi FNu bNu mNu mIsi mInt mBool).mono (by decide))
 have GLk:zAa P w K mg base CX0 28 fLk fdLk ["web", "plan"] (spLk 24):=ok_lk FLk FPo bPo mPo (GPo.mono (by decide)) mRange mMin
 have GTf:zAa P w K mg base CX0 28 fTf fdTf ["web", "plan"] (spTf 24):=ok_tf FTf FCh bCh mCh (GCh.mono (by decide)) mRange
 have GI:zAa P w K mg base CX0 1 fI fdI ["self", "word", "at"] (spXI cP "word" "at"):=ok_I1 FI EI mo i1 i2
 have GRa:zAa P w K mg base (CXI P w) 3 fRa fdRa ["word", "at"] (zID cP):=zLa FRa mC EI bI GI
 have GLt:zAa P w K mg base (CXI P w) 29 fLt fdLt ["web", "thing"] (zIH cP 24):=zLb FLt mC EI bI (GI.mono (by decide)) FIp bIp mIp (GIp.mono (by decide)) FRa bRa mRa (GRa.mono (by decide)) FPf bPf mPf (GPf.mono (by decide)) FLk bLk mLk (GLk.mono (by decide)) FTf bTf mTf (GTf.mono (by decide))
 have GV:zAa P w K mg base CX0 38 fLt fdLt ["web", "thing"] (zLE 24):=(ok_ltR GLt).mono (by decide)
 have GBe:zAa P w K mg base CX0 38 fBe fdBe ["_law_web_here"] zLG:=(ok_bes FBe mRange).mono (by decide)
 have GPa:zAa P w K mg base CX0 1 fPa fdPa ["_law_beside_each", "_law_places"] zIF:=ok_par FPa mSorted mLen
 have GLtp:zAa P w K mg base CX0 26 fLtp fdLtp ["_law_beside_each", "_law_places"] (zLD 24):=zKj FLtp bLtp mLtp FPa bPa mPa GPa mTuple mSorted mMax mLen 24
 have GFi:zAa P w K mg base CX0 1 fFi fdFi ["_law_n_here"] zLF:=ok_fig FFi
 have GR:zAa P w K mg base CX0 39 fR fdR ["_law_web_here"] (spR PT):=ok_r FR FTl bTl mTl (GTl.mono (by decide)) FBe bBe mBe GBe FPa bPa mPa (GPa.mono (by decide)) FLtp bLtp mLtp (GLtp.mono (by decide)) FLt bLt mLt GV FDe bDe mDe (GDe.mono (by decide)) FFi bFi mFi (GFi.mono (by decide)) mRepr mLen mRange mList
 refine F.ok zEz (fun vs H Q E h=>?_) (fun cdv A outer s H vs Q E hr h=>?_)
 . obtain⟨a,ns,rfl,_⟩:=h
   rfl
 . obtain⟨a,ns,rfl,hS,hlen,hPT,k⟩:=h
   have hu:=zGe hr
   refine⟨_,zZ (zAR (i:=1) zEz.nd rfl (Or.inl rfl) (zx GTa hr rfl mTa FTa.kp bTa .nil zAk (zF (pv 0) zR)))
    (zZ (zCJ PassesOwn.never rfl (zCU rfl mRange (zBy zR)) (zAP (i:=2) zEz.nd rfl (Or.inl rfl))
     (zZ (zLN (u':=tNh) (zAR (i:=3) zEz.nd rfl (Or.inl rfl) (zFA (zAS zD6 (zx GD hr rfl mD FD.kp bD .nil zAk (zF (pv 1) (zBy zR))) zm (zAv _)) zm (zBP zCh zm (zx GD hr rfl mD FD.kp bD .nil zAk (zF (pv 1) (zBy zR)))))) ?nh)
     (zZ (zAR (i:=4) zEz.nd rfl (Or.inl rfl) (zx GTr hr rfl mTr FTr.kp bTr .nil zAk (zF (pv 1) (zF (pv 3) zR))))
     (zZ (zAR (i:=5) zEz.nd rfl (Or.inl rfl) (zCL (zF (pv 4) (zF (zx GW' hr rfl mW FW.kp bW .nil zAk (zF (pv 1) (zF (zx GN hr rfl mN FN.kp bN .nil zAk (zF (pv 1) zR)) zR)))
      (zF (zBY (zF (pv 3) (zF (zCo zEu (zAj zAp (pv 4) zm (fun _ _=>rfl)) (zDU zm) zDV) zR))) (zF (zBY (zF (pv 3) (zF (zCo zEu (zAj zAp (pv 4) zm (fun _ _=>rfl)) zDV (zDU (pe_un un_neg zm))) zR))) zR))))))
     (zZ (zAR (i:=6) zEz.nd rfl (Or.inl rfl) (zx GD hr rfl mD FD.kp bD .nil zAk (zF (pv 1) (zF (pv 3) zR))))
     (zZ (zAR (i:=7) zEz.nd rfl (Or.inl rfl) (zx GD hr rfl mD FD.kp bD .nil zAk (zF (pv 1) (zF (pv 3) zR))))
     (zZ (zLN (u':=tMo PT) (zCF (PW.pt (zDx (zAS zGX (pv 6) (pv 7) (zAv _)) (zDS (zAS (zIj hu) (zBY (zF (pv 6) (zF (pv 7) zR))) (zBq (own:=["_law_tie"]) (cn:=[]) (ci:=[]) rfl (csc rfl rfl) trivial rfl (zCf (zAj zAp (pv 4) zm (fun _ _=>rfl))) (fun _ _ _ _=>zAP (i:=0) (zCW rfl) rfl (Or.inl rfl)) (fun _ _ _ _=>zB2) (fun _ _ _ _=>zCo zEu (pv 0) zDV (zDU zm))) (by with_unfolding_all rfl)))))
      (zZ (zBp (zDW PySem.F.plainAttrs_list PySem.F.slot_list_append PySem.F.type_list_append zBZ (pv 5) (zF (zBY (zF (pv 3) (zF (zBi zA0 (by rfl) mTuple (by decide +kernel) (zF (zAD zDM (by rfl) mSorted (by decide +kernel) (zF (zBP zIk (zAj zAp (pv 4) zm (fun _ _=>rfl)) (zBY (zF (zBY (zF (pv 6) (zF (pv 7) (zBy zR)))) zR))) zR)) zR)) zR))) zR)))
      (zn (zBp (zDW PySem.F.plainAttrs_list PySem.F.slot_list_append PySem.F.type_list_append zBZ (pv 5) (zF (zBY (zF (pv 3) (zF (zBi zA0 (by rfl) mTuple (by decide +kernel) (zF (zAD zDM (by rfl) mSorted (by decide +kernel) (zF (zBP zIk (zCo zEu (zAj zAp (pv 4) zm (fun _ _=>rfl)) (zDU zm) zDV) (zBY (zF (zBY (zF (pv 6) (zF (pv 7) (zBy zR)))) zR))) zR)) zR)) zR))) zR))))) zBD) ?more)
     (zn (zCJ PassesOwn.never rfl (zB3 (pv 5)) (zAP (i:=8) zEz.nd rfl (Or.inl rfl))
      (zn (zCF (zCt (zCb (zx GR hr rfl mR FR.kp bR .nil zAk (zF (pv 8) zR)))) zFh zBD)))))))))))
    (zn (zAd zIg))),?_⟩
   case nh=>
    rintro D σ H1 ⟨t,N,v0,v2,v3,v4,v5,v6,v7,v8,rfl,T,hN,nx⟩
    obtain⟨tp,TP⟩:=T
    refine⟨_,rfl,t,tp,N,12,rfl,TP,by omega,by decide,by decide,fun r H2 r0 r1 P2 e2=>?_⟩
    have s2:Sm t H1 H2:=fun b o nb e=>by rw[e2 b nb];exact e
    refine⟨rfl,_,rfl,zGK (fun c=>?_) (fun c=>?_)⟩
    . exact nx 24 H2 (by decide) (by decide) (zAh.mono ⟨tp,P2⟩ (by omega)) s2
    . refine⟨_,rfl,t,tp,_,12,rfl,P2,by omega,by decide,by decide,fun r' H3 q0 q1 P3 e3=>⟨_,_,rfl,rfl,?_⟩⟩
      exact nx (1+r') H3 (by omega) (by omega) ⟨tp,P3⟩ (fun b o nb e=>by rw[e3 b nb];exact s2 b o nb e)
   case more=>
    rintro D σ H1 ⟨t,tp,wa,L,n,ts,ys0,N,one,oth,v0,v2,v8,rfl,I,h0,h1,nx⟩
    obtain⟨ta,tys,hwa,hta,TA,G⟩:=id I.web
    have htl:=TA.length
    rw[zC] at htl
    have t60:=I.sh
    refine⟨_,rfl,_,rfl,_,_,rfl,rfl,_,rfl,zGK (fun c=>?_) (fun _=>zDY (nx ys0 H1 I.hL I.gd I.tape I.tb))⟩
    have c:=of_decide_eq_true c
    refine⟨_,rfl,_,rfl,by show 2<=sizeLine;decide,fun e he=>?_⟩
    have s1:=zL (o:=.tup [.int one,.int oth]) he
    refine⟨_,rfl,wa,_,_,.ref ta,rfl,rfl,SqT.of (s1 _ _ hwa),rfl,ta,rfl,⟨_,SqT.of (s1 _ _ hta)⟩,[],rfl,fun D2 hD2=>?_⟩
    have he1:(upd H1 e (.tup [.int one,.int oth])) e=some (.tup [.int one,.int oth]):=zI
    generalize upd H1 e (.tup [.int one,.int oth])=H2 at s1 he1 hD2 ⊢
    have hta2:=s1 _ _ hta
    have TA2:=TA.keep fun b zs z=>s1 b (.tup zs) z
    refine zDp (a:=ta) (xs:=tys) (fun i ys H4=>zAG H4 ys ((ts.take i).map fun t=>[t.1,t.2.1])/\zA3 H2 H4/\H4 D2=some (.lst ys)/\i<=tys.length) ⟨trivial,zL hD2,zI,zk _⟩ (fun i ys H4 z=>?_) (fun i ys H4 z=>?_) (fun i v ys H4 hv z=>?_) (fun ys H4 z=>?_)
    . obtain⟨_,s4,_,_⟩:=z
      exact SqT.of (s4 _ _ hta2)
    . obtain⟨T4,_,_,hi⟩:=z
      rw[T4.length,zC,zp]
      exact zz (by omega)
    . obtain⟨T4,s4,h4,hi⟩:=z
      obtain⟨ya,ky,rfl,hky,hya,_⟩:=TA2.get hv
      rw[zT,zBb] at hky
      obtain⟨ti,hti,rfl⟩:=hky
      refine⟨⟨rfl,rfl⟩,?_⟩
      refine zHX ?_
      refine⟨_,rfl,_,rfl,ya,_,rfl,s4 _ _ hya,fun p H5 s5 h5=>⟨s5 _ _ h4,?_,zA9 (s4.trans s5) hD2,zI,(zJ.mp hv).1⟩⟩
      have kT:∀b zs,H5 b=some (.tup zs)->upd H5 D2 (.lst (ys++[.ref p])) b=some (.tup zs):=fun b zs z=>by rw[zY (zB5 z (s5 _ _ h4) (by intro z;cases z))];exact z
      rw[zAA,hti,ze]
      refine zAG.snoc (T4.keep fun b zs z=>kT b zs (s5 _ _ z)) ⟨p,rfl,kT p _ ?_,by intro z;cases z⟩
      rw[h5];rfl
    obtain⟨T4,s4,h4,_⟩:=z
    rw[htl,zd (zG _)] at T4
    refine⟨e,D2,[one,oth],ys,_,rfl,rfl,s4 _ _ he1,SqL.of h4,T4,_,rfl,?_⟩
    have s14:=s1.trans s4
    clear h4 he1 hD2 hta2 TA2 T4
    have P4:zCR H4 t tp N:=I.tape.keepF (fun o z=>s14 _ _ z) (fun o z=>s14 _ _ z) (zG _)
    have B4:=I.tb.same s14
    have hL4:=s14 _ _ I.hL
    have G4:=I.gd.same s14
    refine zGK (fun c2=>?_) (fun _=>nx _ H4 hL4 G4 P4 B4)
    have c2:[one,oth]∉ts.map fun t=>[t.1,t.2.1]:=fun z=>by rw[zM z] at c2;cases c2
    have hwa4:=s14 _ _ hwa
    have hta4:=s14 _ _ hta
    have TA4:=TA.keep fun b zs z=>s14 b (.tup zs) z
    have yl:=I.yl
    have nLt:=I.nt
    have nLp:=I.np
    clear s14 s4 s1 hwa hta TA
    refine⟨_,rfl,.inl ⟨rfl,_,SqL.of hL4⟩,_,rfl,_,rfl,wa,_,_,.ref ta,rfl,rfl,SqT.of hwa4,rfl,_,rfl,_,rfl,by show 3<=sizeLine;decide,fun e1 he1=>⟨by show 1<=sizeLine;decide,fun e2 he2=>?_⟩⟩
    have u1:=zL (o:=.tup [.int one,.int oth,.int 7]) he1
    have u2:=u1.trans (zL (o:=.tup [.ref e1]) he2)
    refine⟨ta,e2,tys,[.ref e1],rfl,rfl,u2 _ _ hta4,zI,zBQ (zz (by show _+1<=_;omega)),fun p H5 s5 h5=>?_⟩
    have u5:=u2.trans s5
    have h1e:H5 e1=some (.tup ((tl (one,oth,7)).map V.int)):=s5 _ _ (zL he2 _ _ zI)
    have T5:zAG H5 (tys++[.ref e1]) ((ts++[(one,oth,7)]).map tl):=by
     rw[ze]
     exact zAG.snoc (TA4.keep fun b zs z=>u5 b (.tup zs) z) ⟨e1,rfl,h1e,by intro z;cases z⟩
    refine⟨p,_,_,rfl,SqT.of h5,T5,by rw[zC,zH,zAc];omega,fun la zs ms hla TZ pm _=>?_⟩
    refine⟨la,_,rfl,.inl ⟨SqL.of zI,fun cc hcc=>⟨by show 2<=sizeLine;decide,fun wn hwn=>?_⟩⟩⟩
    have u6:=((zL (o:=.lst zs) hla).trans (zL (o:=.tup zs) hcc)).trans (zL (o:=.tup [.int n,.ref cc]) hwn)
    obtain⟨tsn,en,Gn⟩:=GW.add G t60 h0 c h1 c2 pm
    have u46:=u5.trans u6
    have Wn:zBU (upd (upd (upd H5 la (.lst zs)) cc (.tup zs)) wn (.tup [.int n,.ref cc])) wn n tsn:=⟨cc,zs,zI,zL hwn _ _ zI,by rw[en];exact TZ.keep fun b ys z=>u6 b (.tup ys) z,Gn⟩
    have hL6:=u46 _ _ hL4
    have P6:zCR (upd (upd (upd H5 la (.lst zs)) cc (.tup zs)) wn (.tup [.int n,.ref cc])) t tp N:=P4.keepF (fun o z=>u46 _ _ z) (fun o z=>u46 _ _ z) (zG _)
    have B6:=B4.same u46
    have G6:=(G4.same u46).more Wn
    have hwa6:=u46 _ _ hwa4
    have hta6:=u46 _ _ hta4
    have TA6:=TA4.keep fun b zs z=>u46 b (.tup zs) z
    generalize upd (upd (upd H5 la (.lst zs)) cc (.tup zs)) wn (.tup [.int n,.ref cc])=H6 at hL6 P6 B6 G6 hwa6 hta6 TA6 ⊢
    refine⟨L,_,_,rfl,rfl,hL6,zz (by omega),?_⟩
    have kT:∀ys' b zs,H6 b=some (.tup zs)->upd H6 L (.lst ys') b=some (.tup zs):=fun ys' b zs z=>by rw[zY (zB5 z hL6 (by intro z;cases z))];exact z
    have hL7:(upd H6 L (.lst (ys0++[.ref wn]))) L=some (.lst (ys0++[.ref wn])):=zI
    have P7:zCR (upd H6 L (.lst (ys0++[.ref wn]))) t tp N:=P6.keepF (fun o z=>by rw[zY nLt.symm];exact z) (fun o z=>by rw[zY nLp.symm];exact z) (zG _)
    have B7:Tb (upd H6 L (.lst (ys0++[.ref wn]))) PT:=B6.lst hL6
    have G7:Gd (upd H6 L (.lst (ys0++[.ref wn]))) (ys0++[.ref wn]):=G6.keepT (kT _)
    have hwa7:=kT (ys0++[.ref wn]) _ _ hwa6
    have hta7:=kT (ys0++[.ref wn]) _ _ hta6
    have TA7:=TA6.keep (kT (ys0++[.ref wn]))
    generalize upd H6 L (.lst (ys0++[.ref wn]))=H7 at hL7 P7 B7 G7 hwa7 hta7 TA7 ⊢
    clear kT hL6 P6 B6 G6 hwa6 hta6 TA6 Wn u46 u6 u5 u2 u1 hL4 P4 B4 G4 hwa4 hta4 TA4
    refine⟨_,rfl,.inl ⟨rfl,_,SqL.of hL7⟩,_,rfl,_,rfl,wa,_,_,.ref ta,rfl,rfl,SqT.of hwa7,rfl,_,rfl,ta,_,rfl,hta7,fun p1 H8 s8 h8=>?_⟩
    obtain⟨ts1,TA1,G1,m1⟩:=zDR TA7 G (some 1) none
    have l1:=TA1.length
    have l2:=zC6 tys (some 1) none
    rw[zC] at l1
    refine⟨_,rfl,_,rfl,by show 3<=sizeLine;decide,fun e3 he3=>⟨by show 1<=sizeLine;decide,fun e4 he4=>?_⟩⟩
    have w1:=zL (o:=.tup [.int one,.int oth,.int 7]) he3
    have w2:=w1.trans (zL (o:=.tup [.ref e3]) he4)
    refine⟨p1,e4,_,[.ref e3],rfl,rfl,w2 _ _ h8,zI,zBQ (zz (by show _+1<=_;omega)),fun p9 H9 s9 h9=>?_⟩
    have w5:=(s8.trans w2).trans s9
    have h3e:H9 e3=some (.tup ((tl (one,oth,7)).map V.int)):=s9 _ _ (zL he4 _ _ zI)
    have T9:zAG H9 (zFO tys (some 1) none++[.ref e3]) ((ts1++[(one,oth,7)]).map tl):=by
     rw[ze]
     exact zAG.snoc (TA1.keep fun b zs z=>w5 b (.tup zs) z) ⟨e3,rfl,h3e,by intro z;cases z⟩
    refine⟨p9,_,_,rfl,SqT.of h9,T9,by rw[zC,zH,zAc];omega,fun la2 zs2 ms2 hla2 TZ2 pm2 _=>?_⟩
    refine⟨la2,_,rfl,.inl ⟨SqL.of zI,fun cd hcd=>⟨by show 2<=sizeLine;decide,fun wm hwm=>?_⟩⟩⟩
    have w6:=((zL (o:=.lst zs2) hla2).trans (zL (o:=.tup zs2) hcd)).trans (zL (o:=.tup [.int n,.ref cd]) hwm)
    obtain⟨tsm,em,Gm⟩:=GW.add G1 (by omega) h0 c h1 (fun z=>c2 (by
     obtain⟨t',ht',e'⟩:=zAT.mp z
     exact zAT.mpr ⟨t',m1 t' ht',e'⟩)) pm2
    have w46:=w5.trans w6
    have Wm:zBU (upd (upd (upd H9 la2 (.lst zs2)) cd (.tup zs2)) wm (.tup [.int n,.ref cd])) wm n tsm:=⟨cd,zs2,zI,zL hwm _ _ zI,by rw[em];exact TZ2.keep fun b ys z=>w6 b (.tup ys) z,Gm⟩
    have hLA:=w46 _ _ hL7
    have PA:zCR (upd (upd (upd H9 la2 (.lst zs2)) cd (.tup zs2)) wm (.tup [.int n,.ref cd])) t tp N:=P7.keepF (fun o z=>w46 _ _ z) (fun o z=>w46 _ _ z) (zG _)
    have BA:=B7.same w46
    have GA:=(G7.same w46).more Wm
    generalize upd (upd (upd H9 la2 (.lst zs2)) cd (.tup zs2)) wm (.tup [.int n,.ref cd])=HA at hLA PA BA GA ⊢
    refine⟨L,_,_,rfl,rfl,hLA,zz (by rw[zH,zAc];omega),?_⟩
    exact nx (ys0++[.ref wn]++[.ref wm]) _ zI (GA.keepT fun b zs z=>by rw[zY (zB5 z hLA (by intro z;cases z))];exact z) (PA.keepF (fun o z=>by rw[zY nLt.symm];exact z) (fun o z=>by rw[zY nLp.symm];exact z) (zG _)) (BA.lst hLA)
   refine⟨_,rfl,a,ns,rfl,hS,hlen,fun t H1 ht T1 s1=>?_⟩
   have B1:Tb H1 PT:=⟨#[],s1 _ _ hPT,trivial,.inl rfl⟩
   refine⟨4,rfl,by decide,by decide,zCi (lo:=0) (n:=4) (fun q σ H2=>∃v2 v3 v4 v5 v6 v7 v8:Option V,σ=[some (.ref a),some (.ref t),v2,v3,v4,v5,v6,v7,v8]/\zAh H2 t (2000*q)/\Tb H2 PT) ⟨_,_,_,_,_,_,_,rfl,T1,B1⟩ (fun q σ H2 hq z=>?_) (fun σ H2 z=>?_)⟩
   . obtain⟨v2,v3,v4,v5,v6,v7,v8,rfl,T2,B2⟩:=z
     rw[Int.zero_add]
     refine⟨t,2000*q,_,_,_,_,_,_,_,_,rfl,T2,by omega,fun n Ha n1 n24 Ta sa=>?_⟩
     have Ba:=zC8 T2 sa B2
     clear T2 B2 sa
     refine⟨_,rfl,_,rfl,t,_,n,rfl,Ta,by omega,n1,n24,fun wa ts Hb Wb tl60 Tb' sb=>?_⟩
     have Bb:=zC8 Ta sb Ba
     clear Ta Ba sb
     refine⟨_,rfl,_,rfl,_,rfl,t,_,rfl,Tb',by omega,fun n2 Hc m1 m12 Tc sc'=>?_⟩
     refine⟨t,_,n2,rfl,Tc,by omega,m1,by omega,fun wb tsb Hd _ Wd Td sd=>?_⟩
     have Bd:=zC8 Tc sd (zC8 Tb' sc' Bb)
     have Wa:=(Wb.sm Tb' sc').sm Tc sd
     clear Tb' Bb sc' Tc sd Wb
     obtain⟨ta,tys,hwa,hta,TA,G⟩:=id Wa
     refine⟨_,rfl,_,rfl,wa,_,_,.ref ta,rfl,rfl,SqT.of hwa,rfl,_,rfl,ta,_,rfl,hta,fun p1 He se he1=>⟨by show 2<=sizeLine;decide,fun w1 hw1=>?_⟩⟩
     obtain⟨ts1,TA1,G1,_⟩:=zDR TA G (some 1) none
     have sf:=se.trans (zL (o:=.tup [.int n,.ref p1]) hw1)
     have W1:zBU (upd He w1 (.tup [.int n,.ref p1])) w1 n ts1:=⟨p1,_,zI,zL hw1 _ _ he1,TA1.keep fun b ys e=>sf _ _ e,G1⟩
     refine⟨_,rfl,_,rfl,wa,_,_,.ref ta,rfl,rfl,SqT.of (sf _ _ hwa),rfl,_,rfl,_,rfl,ta,_,rfl,sf _ _ hta,fun p2 Hg sg he2=>⟨by show 2<=sizeLine;decide,fun w2 hw2=>?_⟩⟩
     obtain⟨ts2,TA2,G2,_⟩:=zDR TA G none (some (-1))
     have sh:=sg.trans (zL (o:=.tup [.int n,.ref p2]) hw2)
     have sdh:=sf.trans sh
     have W2:zBU (upd Hg w2 (.tup [.int n,.ref p2])) w2 n ts2:=⟨p2,_,zI,zL hw2 _ _ he2,TA2.keep fun b ys e=>sdh _ _ e,G2⟩
     have Gs:Gd (upd Hg w2 (.tup [.int n,.ref p2])) [.ref wa,.ref wb,.ref w1,.ref w2]:=fun y hy=>by
      simp only[zW,List.not_mem_nil,or_false] at hy
      rcases hy with rfl | rfl | rfl | rfl
      . exact⟨wa,n,ts,rfl,Wa.keep sdh⟩
      . exact⟨wb,n2,tsb,rfl,Wd.keep sdh⟩
      . exact⟨w1,n,ts1,rfl,W1.keep sh⟩
      . exact⟨w2,n,ts2,rfl,W2⟩
     have Wh:=Wa.keep sdh
     have Th:=Td.keep sdh
     have Bh:=Bd.same sdh
     generalize upd Hg w2 (.tup [.int n,.ref p2])=Hh at Gs Wh Th Bh ⊢
     clear W2 W1 sdh sh sg he2 hw2 sf se he1 hw1 TA1 TA2 G1 G2 Wd Td Bd hwa hta TA Wa
     refine⟨by show 4<=sizeLine;decide,fun L hL=>?_⟩
     obtain⟨tp,TPh⟩:=id Th
     obtain⟨nLt,nLp⟩:=zCR.ne2 TPh hL
     have si:=zL (o:=.lst [.ref wa,.ref wb,.ref w1,.ref w2]) hL
     have hLi:(upd Hh L (.lst [.ref wa,.ref wb,.ref w1,.ref w2])) L=some (.lst [.ref wa,.ref wb,.ref w1,.ref w2]):=zI
     have Wi:=Wh.keep si
     have Gi:=Gs.same si
     have Ti:=Th.keep si
     have Pi:zCR (upd Hh L (.lst [.ref wa,.ref wb,.ref w1,.ref w2])) t tp _:=TPh.keepF (fun o e=>si _ _ e) (fun o e=>si _ _ e) (zG _)
     have Bi:=Bh.same si
     generalize upd Hh L (.lst [.ref wa,.ref wb,.ref w1,.ref w2])=Hi at hLi Wi Gi Ti Pi Bi ⊢
     clear si Wh Gs Th TPh Bh hL
     refine⟨_,rfl,_,rfl,t,tp,_,n,rfl,Pi,by omega,by omega,by omega,fun one Hj o0 o1 Pj ej=>?_⟩
     refine⟨_,rfl,_,rfl,t,tp,_,n,rfl,Pj,by omega,by omega,by omega,fun oth Hk q0 q1 Pk ek=>?_⟩
     have sik:Sm t Hi Hk:=fun b o nb e=>by rw[ek b nb,ej b nb];exact e
     have kt:∀b zs,Hi b=some (.tup zs)->Hk b=some (.tup zs):=fun b zs e=>sik _ _ (by obtain⟨p',ns',sp,rest,a',_⟩:=id Ti;exact zB5 e a' (by intro z;cases z)) e
     refine⟨t,tp,wa,L,n,ts,_,_,one,oth,_,_,_,rfl,⟨Wi.keepT kt,tl60,sik _ _ nLt hLi,by show 4<=4;decide,Gi.keepT kt,Pk,nLt,nLp,zC8 Ti sik Bi⟩,o0,q1,fun ys' Hl hLl Gl Pl Bl=>?_⟩
     refine⟨_,rfl,L,rfl,⟨_,SqL.of hLl⟩,zHE (a:=L) (xs:=ys') (fun i σ H6=>∃v8:Option V,σ=[some (.ref a),some (.ref t),some (.int q),some (.int n),some (.ref wa),some (.ref L),some (.int one),some (.int oth),v8]/\H6 L=some (.lst ys')/\Gd H6 ys'/\zAh H6 t (2000*q+1000)/\Tb H6 PT) ⟨_,rfl,hLl,Gl,zAh.mono ⟨tp,Pl⟩ (by omega),Bl⟩ (fun i σ H6 hi z=>?_) (fun i x σ H6 hx z=>?_) (fun σ H6 z=>?_)⟩
     . obtain⟨_,_,h6,_⟩:=z
       exact SqL.of h6
     . obtain⟨v8',rfl,h6,G6,T6,B6⟩:=z
       obtain⟨wx,nx,tx,rfl,Wx⟩:=G6 x (zc hx)
       refine⟨_,rfl,wx,nx,tx,rfl,Wx,B6,fun H7 s7 B7=>⟨_,rfl,zDY ⟨_,rfl,s7.get h6 (by intro ps z;cases z),G6.keepT (fun b zs e=>s7.get e (by intro ps z;cases z)),T6.smT s7,B7⟩⟩⟩
     . obtain⟨v8',rfl,h6,G6,T6,B6⟩:=z
       exact⟨_,_,_,_,_,_,_,rfl,T6.mono (by omega),B6⟩
   . obtain⟨v2,v3,v4,v5,v6,v7,v8,rfl,_⟩:=z
     exact k _
end
end K41
namespace K41
open PySem L2 WM
noncomputable abbrev sT:String->Str:=Str.ofString
noncomputable abbrev kH:=PyData.keyHash
noncomputable abbrev dE:=DictEntry.mk
noncomputable abbrev vS:=Value.str
noncomputable abbrev vI:=Value.int
noncomputable abbrev vR:=Value.ref
noncomputable abbrev vB:=Value.bool
noncomputable abbrev vN:Value:=Value.none
noncomputable abbrev vT:=Value.type
noncomputable abbrev oM:=Obj.mk
noncomputable abbrev cQ (x:Array Value):Obj:=oM (vT "code") .none (.fields x) #[]
noncomputable abbrev fQ (x:FuncData):Obj:=oM (vT "function") .none (.func x) #[]
noncomputable abbrev fT (x:String)(i:Nat)(m:Value)(c:Nat):Obj:=fQ (.mk (sT x) (sT x) (L2.defArgs (top i)) (FuncBody.stmts (L2.defBody (top i))) (L2.defScope (top i)) 3 [] vN vN vN m .none (vR c) vN 0)
noncomputable abbrev qS (x:String)(n:Nat):Value:=vS (sT x) n
noncomputable abbrev kE (P:Params)(x:String)(n:Nat):Value->DictEntry:=dE (kH P (sT x)) (qS x n)
noncomputable def Kf:Params->PySem.W.Frag:=fun P=>[
(2,oM vN .none (Data.dict #[]) #[]),
(3,oM (vT "dict") .none (Data.dict #[kE P "__name__" 165 (qS "law_labelways_k41_plans_of_trees" 660),kE P "__doc__" 166 vN,kE P "__package__" 167 vN,kE P "__loader__" 168 (Value.builtin "__main__.__loader__#opaque"),kE P "__spec__" 169 vN,kE P "__annotations__" 170 (vR 6),kE P "__builtins__" 171 (vR 4),kE P "__file__" 173 (qS "/claim/cut.py" 172),kE P "__cached__" 174 vN,kE P "WayError" 206 (vR 24),kE P "NoLabels" 233 (vR 44),kE P "NoLeast" 260 (vR 63),kE P "NoPlan" 287 (vR 82),kE P "NoText" 314 (vR 101),kE P "NoOrder" 330 (vR 113),kE P "NoTree" 346 (vR 125),kE P "NoRing" 362 (vR 137),kE P "NoPosts" 378 (vR 149),kE P "NoTie" 394 (vR 161),kE P "NoPart" 410 (vR 173),kE P "NoRow" 426 (vR 185),kE P "TooMany" 442 (vR 197),kE P "is_number" 451 (vR 206),kE P "is_within" 460 (vR 213),kE P "is_tuple_of" 468 (vR 220),kE P "is_rising" 474 (vR 225),kE P "is_place" 482 (vR 232),kE P "ties_at" 496 (vR 239),kE P "beside" 502 (vR 244),kE P "is_whole" 509 (vR 251),kE P "joined_within" 521 (vR 258),kE P "tree_plan" 530 (vR 265),kE P "is_tree" 537 (vR 272),kE P "plan_of_part" 543 (vR 277),kE P "middle_place" 553 (vR 284),kE P "greatest_part" 559 (vR 289),kE P "parts_without" 565 (vR 294),kE P "MOST_WITHIN" 569 (vI 24 568),kE P "is_plan" 576 (vR 301),kE P "is_plan_within" 582 (vR 306),kE P "are_plan_places" 588 (vR 311),kE P "chain" 596 (vR 318),kE P "chain_or_none" 606 (vR 325),kE P "plan_order" 615 (vR 332),kE P "deepest" 621 (vR 337),kE P "lets_plan" 629 (vR 344),kE P "refuse_at" 637 (vR 351),kE P "place_fault" 647 (vR 358),kE P "lacks_fault" 653 (vR 363),kE P "tie_fault" 659 (vR 368),kE P "_law_tape" 668 (vR 375),kE P "_law_draw" 680 (vR 382),kE P "_law_n" 687 (vR 389),kE P "_law_web" 693 (vR 394),kE P "_law_order" 704 (vR 401),kE P "_law_beside" 710 (vR 406),kE P "_law_parts" 716 (vR 411),kE P "_law_tree" 729 (vR 418),kE P "_law_tree_plan" 735 (vR 423),kE P "_law_figures" 743 (vR 430),kE P "_law_told" 753 (vR 437),kE P "_law_right" 763 (vR 444),kE P "law" 769 (vR 449)] 63) #[]),
(23,oM (vT "dict") .none (Data.dict #[kE P "__module__" 196 (qS "labelways.errors" 187),kE P "__firstlineno__" 200 (vI 2 199),kE P "__static_attributes__" 201 (vR 22),kE P "__weakref__" 203 (vR 25),kE P "__doc__" 204 vN] 3) #[]),
(24,oM (vT "type") .none (Data.cls (ClassData.mk (sT "WayError") [vT "ValueError"] [vR 24,vT "ValueError",vT "Exception",vT "BaseException",vT "object"] 23 (sT "WayError") true [] [vR 44,vR 63,vR 82,vR 101,vR 113,vR 125,vR 137,vR 149,vR 161,vR 173,vR 185,vR 197] false .none false)) #[.some (vR 15),.none,.some (qS "WayError" 189),.some (qS "WayError" 197),.some (Value.builtin "ValueError.__new__"),.some (vB true)]),
(25,oM (vT "getset_descriptor") .none (Data.fields #[qS "__weakref__" 202,vR 24,Value.builtin "ExceptionGroup.__weakref__",vN]) #[]),
(40,cQ #[qS "__init__" 219,qS "NoLabels.__init__" 220,qS "/claim/cut.py" 221,vI 6 0,vI 3 0,vI 0 0,vI 0 0,vI 3 0,vR 35,vB true,vI 181 0,vR 36,vN,vR 37,vR 38,vR 39,vI 225 0,vI 6 0,qS "/claim/cut.py" 226]),
(41,fQ (.mk (sT "__init__") (sT "NoLabels.__init__") (Arguments.mk [] [Arg.mk (sT "self") .none (Pos.mk 6 17 6 21),Arg.mk (sT "word") .none (Pos.mk 6 23 6 27),Arg.mk (sT "at") .none (Pos.mk 6 29 6 31)] .none [] [] .none []) (FuncBody.stmts [Stmt.Assign [Expr.Attribute (Expr.Name (sT "self") (Pos.mk 7 8 7 12)) (sT "word") (Pos.mk 7 8 7 17)] (Expr.Name (sT "word") (Pos.mk 7 20 7 24)) (Pos.mk 7 8 7 24),Stmt.Assign [Expr.Attribute (Expr.Name (sT "self") (Pos.mk 8 8 8 12)) (sT "at") (Pos.mk 8 8 8 15)] (Expr.Name (sT "at") (Pos.mk 8 18 8 20)) (Pos.mk 8 8 8 20)]) (Scope.mk ScopeKind.function [(sT "self",NameKind.local),(sT "word",NameKind.local),(sT "at",NameKind.local)] false false []) 3 [] vN vN vN (qS "labelways.errors" 187) .none (vR 40) vN 0)),
(43,oM (vT "dict") .none (Data.dict #[kE P "__module__" 214 (qS "labelways.errors" 187),kE P "__firstlineno__" 218 (vI 4 217),kE P "__init__" 227 (vR 41),kE P "__static_attributes__" 230 (vR 42),kE P "__doc__" 231 vN] 2) #[]),
(44,oM (vT "type") .none (Data.cls (ClassData.mk (sT "NoLabels") [vR 24] [vR 44,vR 24,vT "ValueError",vT "Exception",vT "BaseException",vT "object"] 43 (sT "NoLabels") true [] [] false .none false)) #[.some (vR 28),.none,.some (qS "NoLabels" 207),.some (qS "NoLabels" 215),.some (Value.builtin "ValueError.__new__"),.some (vB true)]),
(59,cQ #[qS "__init__" 246,qS "NoLeast.__init__" 247,qS "/claim/cut.py" 248,vI 11 0,vI 3 0,vI 0 0,vI 0 0,vI 3 0,vR 54,vB true,vI 181 0,vR 55,vN,vR 56,vR 57,vR 58,vI 252 0,vI 11 0,qS "/claim/cut.py" 253]),
(60,fQ (.mk (sT "__init__") (sT "NoLeast.__init__") (Arguments.mk [] [Arg.mk (sT "self") .none (Pos.mk 11 17 11 21),Arg.mk (sT "word") .none (Pos.mk 11 23 11 27),Arg.mk (sT "at") .none (Pos.mk 11 29 11 31)] .none [] [] .none []) (FuncBody.stmts [Stmt.Assign [Expr.Attribute (Expr.Name (sT "self") (Pos.mk 12 8 12 12)) (sT "word") (Pos.mk 12 8 12 17)] (Expr.Name (sT "word") (Pos.mk 12 20 12 24)) (Pos.mk 12 8 12 24),Stmt.Assign [Expr.Attribute (Expr.Name (sT "self") (Pos.mk 13 8 13 12)) (sT "at") (Pos.mk 13 8 13 15)] (Expr.Name (sT "at") (Pos.mk 13 18 13 20)) (Pos.mk 13 8 13 20)]) (Scope.mk ScopeKind.function [(sT "self",NameKind.local),(sT "word",NameKind.local),(sT "at",NameKind.local)] false false []) 3 [] vN vN vN (qS "labelways.errors" 187) .none (vR 59) vN 0)),
(62,oM (vT "dict") .none (Data.dict #[kE P "__module__" 241 (qS "labelways.errors" 187),kE P "__firstlineno__" 245 (vI 9 244),kE P "__init__" 254 (vR 60),kE P "__static_attributes__" 257 (vR 61),kE P "__doc__" 258 vN] 2) #[]),
(63,oM (vT "type") .none (Data.cls (ClassData.mk (sT "NoLeast") [vR 24] [vR 63,vR 24,vT "ValueError",vT "Exception",vT "BaseException",vT "object"] 62 (sT "NoLeast") true [] [] false .none false)) #[.some (vR 47),.none,.some (qS "NoLeast" 234),.some (qS "NoLeast" 242),.some (Value.builtin "ValueError.__new__"),.some (vB true)]),
(78,cQ #[qS "__init__" 273,qS "NoPlan.__init__" 274,qS "/claim/cut.py" 275,vI 16 0,vI 3 0,vI 0 0,vI 0 0,vI 3 0,vR 73,vB true,vI 181 0,vR 74,vN,vR 75,vR 76,vR 77,vI 279 0,vI 16 0,qS "/claim/cut.py" 280]),
(79,fQ (.mk (sT "__init__") (sT "NoPlan.__init__") (L2.defArgs (mth 4 0)) (FuncBody.stmts (L2.defBody (mth 4 0))) (L2.defScope (mth 4 0)) 3 [] vN vN vN (qS "labelways.errors" 187) .none (vR 78) vN 0)),
(81,oM (vT "dict") .none (Data.dict #[kE P "__module__" 268 (qS "labelways.errors" 187),kE P "__firstlineno__" 272 (vI 14 271),kE P "__init__" 281 (vR 79),kE P "__static_attributes__" 284 (vR 80),kE P "__doc__" 285 vN] 2) #[]),
(82,oM (vT "type") .none (Data.cls (ClassData.mk (sT "NoPlan") [vR 24] [vR 82,vR 24,vT "ValueError",vT "Exception",vT "BaseException",vT "object"] 81 (sT "NoPlan") true [] [] false .none false)) #[.some (vR 66),.none,.some (qS "NoPlan" 261),.some (qS "NoPlan" 269),.some (Value.builtin "ValueError.__new__"),.some (vB true)]),
(97,cQ #[qS "__init__" 300,qS "NoText.__init__" 301,qS "/claim/cut.py" 302,vI 21 0,vI 3 0,vI 0 0,vI 0 0,vI 3 0,vR 92,vB true,vI 181 0,vR 93,vN,vR 94,vR 95,vR 96,vI 306 0,vI 21 0,qS "/claim/cut.py" 307]),
(98,fQ (.mk (sT "__init__") (sT "NoText.__init__") (Arguments.mk [] [Arg.mk (sT "self") .none (Pos.mk 21 17 21 21),Arg.mk (sT "line") .none (Pos.mk 21 23 21 27),Arg.mk (sT "word") .none (Pos.mk 21 29 21 33)] .none [] [] .none []) (FuncBody.stmts [Stmt.Assign [Expr.Attribute (Expr.Name (sT "self") (Pos.mk 22 8 22 12)) (sT "line") (Pos.mk 22 8 22 17)] (Expr.Name (sT "line") (Pos.mk 22 20 22 24)) (Pos.mk 22 8 22 24),Stmt.Assign [Expr.Attribute (Expr.Name (sT "self") (Pos.mk 23 8 23 12)) (sT "word") (Pos.mk 23 8 23 17)] (Expr.Name (sT "word") (Pos.mk 23 20 23 24)) (Pos.mk 23 8 23 24)]) (Scope.mk ScopeKind.function [(sT "self",NameKind.local),(sT "line",NameKind.local),(sT "word",NameKind.local)] false false []) 3 [] vN vN vN (qS "labelways.errors" 187) .none (vR 97) vN 0)),
(100,oM (vT "dict") .none (Data.dict #[kE P "__module__" 295 (qS "labelways.errors" 187),kE P "__firstlineno__" 299 (vI 19 298),kE P "__init__" 308 (vR 98),kE P "__static_attributes__" 311 (vR 99),kE P "__doc__" 312 vN] 2) #[]),
(101,oM (vT "type") .none (Data.cls (ClassData.mk (sT "NoText") [vR 24] [vR 101,vR 24,vT "ValueError",vT "Exception",vT "BaseException",vT "object"] 100 (sT "NoText") true [] [] false .none false)) #[.some (vR 85),.none,.some (qS "NoText" 288),.some (qS "NoText" 296),.some (Value.builtin "ValueError.__new__"),.some (vB true)]),
(112,oM (vT "dict") .none (Data.dict #[kE P "__module__" 322 (qS "labelways.errors" 187),kE P "__firstlineno__" 326 (vI 24 325),kE P "__static_attributes__" 327 (vR 111),kE P "__doc__" 328 vN] 2) #[]),
(113,oM (vT "type") .none (Data.cls (ClassData.mk (sT "NoOrder") [vR 24] [vR 113,vR 24,vT "ValueError",vT "Exception",vT "BaseException",vT "object"] 112 (sT "NoOrder") true [] [] false .none false)) #[.some (vR 104),.none,.some (qS "NoOrder" 315),.some (qS "NoOrder" 323),.some (Value.builtin "ValueError.__new__"),.some (vB true)]),
(124,oM (vT "dict") .none (Data.dict #[kE P "__module__" 338 (qS "labelways.errors" 187),kE P "__firstlineno__" 342 (vI 26 341),kE P "__static_attributes__" 343 (vR 123),kE P "__doc__" 344 vN] 2) #[]),
(125,oM (vT "type") .none (Data.cls (ClassData.mk (sT "NoTree") [vR 24] [vR 125,vR 24,vT "ValueError",vT "Exception",vT "BaseException",vT "object"] 124 (sT "NoTree") true [] [] false .none false)) #[.some (vR 116),.none,.some (qS "NoTree" 331),.some (qS "NoTree" 339),.some (Value.builtin "ValueError.__new__"),.some (vB true)]),
(136,oM (vT "dict") .none (Data.dict #[kE P "__module__" 354 (qS "labelways.errors" 187),kE P "__firstlineno__" 358 (vI 28 357),kE P "__static_attributes__" 359 (vR 135),kE P "__doc__" 360 vN] 2) #[]),
(137,oM (vT "type") .none (Data.cls (ClassData.mk (sT "NoRing") [vR 24] [vR 137,vR 24,vT "ValueError",vT "Exception",vT "BaseException",vT "object"] 136 (sT "NoRing") true [] [] false .none false)) #[.some (vR 128),.none,.some (qS "NoRing" 347),.some (qS "NoRing" 355),.some (Value.builtin "ValueError.__new__"),.some (vB true)]),
(148,oM (vT "dict") .none (Data.dict #[kE P "__module__" 370 (qS "labelways.errors" 187),kE P "__firstlineno__" 374 (vI 30 373),kE P "__static_attributes__" 375 (vR 147),kE P "__doc__" 376 vN] 2) #[]),
(149,oM (vT "type") .none (Data.cls (ClassData.mk (sT "NoPosts") [vR 24] [vR 149,vR 24,vT "ValueError",vT "Exception",vT "BaseException",vT "object"] 148 (sT "NoPosts") true [] [] false .none false)) #[.some (vR 140),.none,.some (qS "NoPosts" 363),.some (qS "NoPosts" 371),.some (Value.builtin "ValueError.__new__"),.some (vB true)]),
(160,oM (vT "dict") .none (Data.dict #[kE P "__module__" 386 (qS "labelways.errors" 187),kE P "__firstlineno__" 390 (vI 32 389),kE P "__static_attributes__" 391 (vR 159),kE P "__doc__" 392 vN] 2) #[]),
(161,oM (vT "type") .none (Data.cls (ClassData.mk (sT "NoTie") [vR 24] [vR 161,vR 24,vT "ValueError",vT "Exception",vT "BaseException",vT "object"] 160 (sT "NoTie") true [] [] false .none false)) #[.some (vR 152),.none,.some (qS "NoTie" 379),.some (qS "NoTie" 387),.some (Value.builtin "ValueError.__new__"),.some (vB true)]),
(172,oM (vT "dict") .none (Data.dict #[kE P "__module__" 402 (qS "labelways.errors" 187),kE P "__firstlineno__" 406 (vI 34 405),kE P "__static_attributes__" 407 (vR 171),kE P "__doc__" 408 vN] 2) #[]),
(173,oM (vT "type") .none (Data.cls (ClassData.mk (sT "NoPart") [vR 24] [vR 173,vR 24,vT "ValueError",vT "Exception",vT "BaseException",vT "object"] 172 (sT "NoPart") true [] [] false .none false)) #[.some (vR 164),.none,.some (qS "NoPart" 395),.some (qS "NoPart" 403),.some (Value.builtin "ValueError.__new__"),.some (vB true)]),
(184,oM (vT "dict") .none (Data.dict #[kE P "__module__" 418 (qS "labelways.errors" 187),kE P "__firstlineno__" 422 (vI 36 421),kE P "__static_attributes__" 423 (vR 183),kE P "__doc__" 424 vN] 2) #[]),
(185,oM (vT "type") .none (Data.cls (ClassData.mk (sT "NoRow") [vR 24] [vR 185,vR 24,vT "ValueError",vT "Exception",vT "BaseException",vT "object"] 184 (sT "NoRow") true [] [] false .none false)) #[.some (vR 176),.none,.some (qS "NoRow" 411),.some (qS "NoRow" 419),.some (Value.builtin "ValueError.__new__"),.some (vB true)]),
(196,oM (vT "dict") .none (Data.dict #[kE P "__module__" 434 (qS "labelways.errors" 187),kE P "__firstlineno__" 438 (vI 38 437),kE P "__static_attributes__" 439 (vR 195),kE P "__doc__" 440 vN] 2) #[]),
(197,oM (vT "type") .none (Data.cls (ClassData.mk (sT "TooMany") [vR 24] [vR 197,vR 24,vT "ValueError",vT "Exception",vT "BaseException",vT "object"] 196 (sT "TooMany") true [] [] false .none false)) #[.some (vR 188),.none,.some (qS "TooMany" 427),.some (qS "TooMany" 435),.some (Value.builtin "ValueError.__new__"),.some (vB true)]),
(205,cQ #[qS "is_number" 445,qS "is_number" 446,qS "/claim/cut.py" 447,vI 41 0,vI 1 0,vI 0 0,vI 0 0,vI 3 0,vR 200,vB true,vI 181 0,vR 201,vN,vR 202,vR 203,vR 204,vI 449 0,vI 41 0,qS "/claim/cut.py" 450]),
(206,fQ (.mk (sT "is_number") (sT "is_number") (L2.defArgs (top 15)) (FuncBody.stmts (L2.defBody (top 15))) (L2.defScope (top 15)) 3 [] vN vN vN (qS "labelways.kinds" 443) .none (vR 205) vN 0)),
(212,cQ #[qS "is_within" 452,qS "is_within" 453,qS "/claim/cut.py" 454,vI 43 0,vI 3 0,vI 0 0,vI 0 0,vI 3 0,vR 207,vB true,vI 181 0,vR 208,vN,vR 209,vR 210,vR 211,vI 458 0,vI 43 0,qS "/claim/cut.py" 459]),
(213,fQ (.mk (sT "is_within") (sT "is_within") (L2.defArgs (top 16)) (FuncBody.stmts (L2.defBody (top 16))) (L2.defScope (top 16)) 3 [] vN vN vN (qS "labelways.kinds" 443) .none (vR 212) vN 0)),
(219,cQ #[qS "is_tuple_of" 461,qS "is_tuple_of" 462,qS "/claim/cut.py" 463,vI 45 0,vI 2 0,vI 0 0,vI 0 0,vI 3 0,vR 214,vB true,vI 181 0,vR 215,vN,vR 216,vR 217,vR 218,vI 466 0,vI 45 0,qS "/claim/cut.py" 467]),
(220,fQ (.mk (sT "is_tuple_of") (sT "is_tuple_of") (L2.defArgs (top 17)) (FuncBody.stmts (L2.defBody (top 17))) (L2.defScope (top 17)) 3 [] vN vN vN (qS "labelways.kinds" 443) .none (vR 219) vN 0)),
(224,cQ #[qS "is_rising" 469,qS "is_rising" 470,qS "/claim/cut.py" 471,vI 47 0,vI 1 0,vI 0 0,vI 0 0,vI 3 0,vR 221,vB true,vI 181 0,vR 222,vN,vN,vN,vR 223,vI 472 0,vI 47 0,qS "/claim/cut.py" 473]),
(225,fQ (.mk (sT "is_rising") (sT "is_rising") (L2.defArgs (top 18)) (FuncBody.stmts (L2.defBody (top 18))) (L2.defScope (top 18)) 3 [] vN vN vN (qS "labelways.kinds" 443) .none (vR 224) vN 0)),
(231,cQ #[qS "is_place" 475,qS "is_place" 476,qS "/claim/cut.py" 477,vI 49 0,vI 2 0,vI 0 0,vI 0 0,vI 3 0,vR 226,vB true,vI 181 0,vR 227,vN,vR 228,vR 229,vR 230,vI 480 0,vI 49 0,qS "/claim/cut.py" 481]),
(232,fQ (.mk (sT "is_place") (sT "is_place") (L2.defArgs (top 19)) (FuncBody.stmts (L2.defBody (top 19))) (L2.defScope (top 19)) 3 [] vN vN vN (qS "labelways.kinds" 443) .none (vR 231) vN 0)),
(238,cQ #[qS "ties_at" 485,qS "ties_at" 486,qS "/claim/cut.py" 487,vI 52 0,vI 2 0,vI 0 0,vI 0 0,vI 3 0,vR 233,vB true,vI 181 0,vR 234,vN,vR 235,vR 236,vR 237,vI 494 0,vI 52 0,qS "/claim/cut.py" 495]),
(239,fQ (.mk (sT "ties_at") (sT "ties_at") (L2.defArgs (top 21)) (FuncBody.stmts (L2.defBody (top 21))) (L2.defScope (top 21)) 3 [] vN vN vN (qS "labelways.webs" 483) .none (vR 238) vN 0)),
(243,cQ #[qS "beside" 497,qS "beside" 498,qS "/claim/cut.py" 499,vI 60 0,vI 2 0,vI 0 0,vI 0 0,vI 3 0,vR 240,vB true,vI 181 0,vR 241,vN,vN,vN,vR 242,vI 500 0,vI 60 0,qS "/claim/cut.py" 501]),
(244,fQ (.mk (sT "beside") (sT "beside") (L2.defArgs (top 22)) (FuncBody.stmts (L2.defBody (top 22))) (L2.defScope (top 22)) 3 [] vN vN vN (qS "labelways.webs" 483) .none (vR 243) vN 0)),
(250,cQ #[qS "is_whole" 503,qS "is_whole" 504,qS "/claim/cut.py" 505,vI 62 0,vI 1 0,vI 0 0,vI 0 0,vI 3 0,vR 245,vB true,vI 181 0,vR 246,vN,vR 247,vR 248,vR 249,vI 507 0,vI 62 0,qS "/claim/cut.py" 508]),
(251,fQ (.mk (sT "is_whole") (sT "is_whole") (L2.defArgs (top 23)) (FuncBody.stmts (L2.defBody (top 23))) (L2.defScope (top 23)) 3 [] vN vN vN (qS "labelways.webs" 483) .none (vR 250) vN 0)),
(257,cQ #[qS "joined_within" 510,qS "joined_within" 511,qS "/claim/cut.py" 512,vI 64 0,vI 3 0,vI 0 0,vI 0 0,vI 3 0,vR 252,vB true,vI 181 0,vR 253,vN,vR 254,vR 255,vR 256,vI 519 0,vI 64 0,qS "/claim/cut.py" 520]),
(258,fQ (.mk (sT "joined_within") (sT "joined_within") (L2.defArgs (top 24)) (FuncBody.stmts (L2.defBody (top 24))) (L2.defScope (top 24)) 3 [] vN vN vN (qS "labelways.webs" 483) .none (vR 257) vN 0)),
(264,cQ #[qS "tree_plan" 524,qS "tree_plan" 525,qS "/claim/cut.py" 526,vI 74 0,vI 1 0,vI 0 0,vI 0 0,vI 3 0,vR 259,vB true,vI 181 0,vR 260,vN,vR 261,vR 262,vR 263,vI 528 0,vI 74 0,qS "/claim/cut.py" 529]),
(265,fQ (.mk (sT "tree_plan") (sT "tree_plan") (L2.defArgs (top 26)) (FuncBody.stmts (L2.defBody (top 26))) (L2.defScope (top 26)) 3 [] vN vN vN (qS "labelways.trees" 522) .none (vR 264) vN 0)),
(271,cQ #[qS "is_tree" 531,qS "is_tree" 532,qS "/claim/cut.py" 533,vI 78 0,vI 1 0,vI 0 0,vI 0 0,vI 3 0,vR 266,vB true,vI 181 0,vR 267,vN,vR 268,vR 269,vR 270,vI 535 0,vI 78 0,qS "/claim/cut.py" 536]),
(272,fQ (.mk (sT "is_tree") (sT "is_tree") (L2.defArgs (top 27)) (FuncBody.stmts (L2.defBody (top 27))) (L2.defScope (top 27)) 3 [] vN vN vN (qS "labelways.trees" 522) .none (vR 271) vN 0)),
(276,cQ #[qS "plan_of_part" 538,qS "plan_of_part" 539,qS "/claim/cut.py" 540,vI 80 0,vI 2 0,vI 0 0,vI 0 0,vI 3 0,vR 273,vB true,vI 181 0,vR 274,vN,vN,vN,vR 275,vI 541 0,vI 80 0,qS "/claim/cut.py" 542]),
(277,fQ (.mk (sT "plan_of_part") (sT "plan_of_part") (L2.defArgs (top 28)) (FuncBody.stmts (L2.defBody (top 28))) (L2.defScope (top 28)) 3 [] vN vN vN (qS "labelways.trees" 522) .none (vR 276) vN 0)),
(283,cQ #[qS "middle_place" 544,qS "middle_place" 545,qS "/claim/cut.py" 546,vI 84 0,vI 2 0,vI 0 0,vI 0 0,vI 3 0,vR 278,vB true,vI 181 0,vR 279,vN,vR 280,vR 281,vR 282,vI 551 0,vI 84 0,qS "/claim/cut.py" 552]),
(284,fQ (.mk (sT "middle_place") (sT "middle_place") (L2.defArgs (top 29)) (FuncBody.stmts (L2.defBody (top 29))) (L2.defScope (top 29)) 3 [] vN vN vN (qS "labelways.trees" 522) .none (vR 283) vN 0)),
(288,cQ #[qS "greatest_part" 554,qS "greatest_part" 555,qS "/claim/cut.py" 556,vI 86 0,vI 3 0,vI 0 0,vI 0 0,vI 3 0,vR 285,vB true,vI 181 0,vR 286,vN,vN,vN,vR 287,vI 557 0,vI 86 0,qS "/claim/cut.py" 558]),
(289,fQ (.mk (sT "greatest_part") (sT "greatest_part") (L2.defArgs (top 30)) (FuncBody.stmts (L2.defBody (top 30))) (L2.defScope (top 30)) 3 [] vN vN vN (qS "labelways.trees" 522) .none (vR 288) vN 0)),
(293,cQ #[qS "parts_without" 560,qS "parts_without" 561,qS "/claim/cut.py" 562,vI 88 0,vI 3 0,vI 0 0,vI 0 0,vI 3 0,vR 290,vB true,vI 181 0,vR 291,vN,vN,vN,vR 292,vI 563 0,vI 88 0,qS "/claim/cut.py" 564]),
(294,fQ (.mk (sT "parts_without") (sT "parts_without") (L2.defArgs (top 31)) (FuncBody.stmts (L2.defBody (top 31))) (L2.defScope (top 31)) 3 [] vN vN vN (qS "labelways.trees" 522) .none (vR 293) vN 0)),
(300,cQ #[qS "is_plan" 570,qS "is_plan" 571,qS "/claim/cut.py" 572,vI 98 0,vI 1 0,vI 0 0,vI 0 0,vI 3 0,vR 295,vB true,vI 181 0,vR 296,vN,vR 297,vR 298,vR 299,vI 574 0,vI 98 0,qS "/claim/cut.py" 575]),
(301,fQ (.mk (sT "is_plan") (sT "is_plan") (L2.defArgs (top 34)) (FuncBody.stmts (L2.defBody (top 34))) (L2.defScope (top 34)) 3 [] vN vN vN (qS "labelways.plans" 566) .none (vR 300) vN 0)),
(305,cQ #[qS "is_plan_within" 577,qS "is_plan_within" 578,qS "/claim/cut.py" 579,vI 100 0,vI 2 0,vI 0 0,vI 0 0,vI 3 0,vR 302,vB true,vI 181 0,vR 303,vN,vN,vN,vR 304,vI 580 0,vI 100 0,qS "/claim/cut.py" 581]),
(306,fQ (.mk (sT "is_plan_within") (sT "is_plan_within") (L2.defArgs (top 35)) (FuncBody.stmts (L2.defBody (top 35))) (L2.defScope (top 35)) 3 [] vN vN vN (qS "labelways.plans" 566) .none (vR 305) vN 0)),
(310,cQ #[qS "are_plan_places" 583,qS "are_plan_places" 584,qS "/claim/cut.py" 585,vI 104 0,vI 1 0,vI 0 0,vI 0 0,vI 3 0,vR 307,vB true,vI 181 0,vR 308,vN,vN,vN,vR 309,vI 586 0,vI 104 0,qS "/claim/cut.py" 587]),
(311,fQ (.mk (sT "are_plan_places") (sT "are_plan_places") (L2.defArgs (top 36)) (FuncBody.stmts (L2.defBody (top 36))) (L2.defScope (top 36)) 3 [] vN vN vN (qS "labelways.plans" 566) .none (vR 310) vN 0)),
(317,cQ #[qS "chain" 589,qS "chain" 590,qS "/claim/cut.py" 591,vI 108 0,vI 2 0,vI 0 0,vI 0 0,vI 3 0,vR 312,vB true,vI 181 0,vR 313,vN,vR 314,vR 315,vR 316,vI 594 0,vI 108 0,qS "/claim/cut.py" 595]),
(318,fQ (.mk (sT "chain") (sT "chain") (L2.defArgs (top 37)) (FuncBody.stmts (L2.defBody (top 37))) (L2.defScope (top 37)) 3 [] vN vN vN (qS "labelways.plans" 566) .none (vR 317) vN 0)),
(324,cQ #[qS "chain_or_none" 597,qS "chain_or_none" 598,qS "/claim/cut.py" 599,vI 110 0,vI 2 0,vI 0 0,vI 0 0,vI 3 0,vR 319,vB true,vI 181 0,vR 320,vN,vR 321,vR 322,vR 323,vI 604 0,vI 110 0,qS "/claim/cut.py" 605]),
(325,fQ (.mk (sT "chain_or_none") (sT "chain_or_none") (L2.defArgs (top 38)) (FuncBody.stmts (L2.defBody (top 38))) (L2.defScope (top 38)) 3 [] vN vN vN (qS "labelways.plans" 566) .none (vR 324) vN 0)),
(331,cQ #[qS "plan_order" 607,qS "plan_order" 608,qS "/claim/cut.py" 609,vI 118 0,vI 1 0,vI 0 0,vI 0 0,vI 3 0,vR 326,vB true,vI 181 0,vR 327,vN,vR 328,vR 329,vR 330,vI 613 0,vI 118 0,qS "/claim/cut.py" 614]),
(332,fQ (.mk (sT "plan_order") (sT "plan_order") (L2.defArgs (top 39)) (FuncBody.stmts (L2.defBody (top 39))) (L2.defScope (top 39)) 3 [] vN vN vN (qS "labelways.plans" 566) .none (vR 331) vN 0)),
(336,cQ #[qS "deepest" 616,qS "deepest" 617,qS "/claim/cut.py" 618,vI 123 0,vI 1 0,vI 0 0,vI 0 0,vI 3 0,vR 333,vB true,vI 181 0,vR 334,vN,vN,vN,vR 335,vI 619 0,vI 123 0,qS "/claim/cut.py" 620]),
(337,fQ (.mk (sT "deepest") (sT "deepest") (L2.defArgs (top 40)) (FuncBody.stmts (L2.defBody (top 40))) (L2.defScope (top 40)) 3 [] vN vN vN (qS "labelways.plans" 566) .none (vR 336) vN 0)),
(343,cQ #[qS "lets_plan" 622,qS "lets_plan" 623,qS "/claim/cut.py" 624,vI 125 0,vI 2 0,vI 0 0,vI 0 0,vI 3 0,vR 338,vB true,vI 181 0,vR 339,vN,vR 340,vR 341,vR 342,vI 627 0,vI 125 0,qS "/claim/cut.py" 628]),
(344,fQ (.mk (sT "lets_plan") (sT "lets_plan") (L2.defArgs (top 41)) (FuncBody.stmts (L2.defBody (top 41))) (L2.defScope (top 41)) 3 [] vN vN vN (qS "labelways.plans" 566) .none (vR 343) vN 0)),
(350,cQ #[qS "refuse_at" 630,qS "refuse_at" 631,qS "/claim/cut.py" 632,vI 132 0,vI 2 0,vI 0 0,vI 0 0,vI 3 0,vR 345,vB true,vI 181 0,vR 346,vN,vR 347,vR 348,vR 349,vI 635 0,vI 132 0,qS "/claim/cut.py" 636]),
(351,fQ (.mk (sT "refuse_at") (sT "refuse_at") (L2.defArgs (top 42)) (FuncBody.stmts (L2.defBody (top 42))) (L2.defScope (top 42)) 3 [] vN vN vN (qS "labelways.plans" 566) .none (vR 350) vN 0)),
(357,cQ #[qS "place_fault" 638,qS "place_fault" 639,qS "/claim/cut.py" 640,vI 135 0,vI 2 0,vI 0 0,vI 0 0,vI 3 0,vR 352,vB true,vI 181 0,vR 353,vN,vR 354,vR 355,vR 356,vI 645 0,vI 135 0,qS "/claim/cut.py" 646]),
(358,fQ (.mk (sT "place_fault") (sT "place_fault") (L2.defArgs (top 43)) (FuncBody.stmts (L2.defBody (top 43))) (L2.defScope (top 43)) 3 [] vN vN vN (qS "labelways.plans" 566) .none (vR 357) vN 0)),
(362,cQ #[qS "lacks_fault" 648,qS "lacks_fault" 649,qS "/claim/cut.py" 650,vI 142 0,vI 2 0,vI 0 0,vI 0 0,vI 3 0,vR 359,vB true,vI 181 0,vR 360,vN,vN,vN,vR 361,vI 651 0,vI 142 0,qS "/claim/cut.py" 652]),
(363,fQ (.mk (sT "lacks_fault") (sT "lacks_fault") (L2.defArgs (top 44)) (FuncBody.stmts (L2.defBody (top 44))) (L2.defScope (top 44)) 3 [] vN vN vN (qS "labelways.plans" 566) .none (vR 362) vN 0)),
(367,cQ #[qS "tie_fault" 654,qS "tie_fault" 655,qS "/claim/cut.py" 656,vI 145 0,vI 2 0,vI 0 0,vI 0 0,vI 3 0,vR 364,vB true,vI 181 0,vR 365,vN,vN,vN,vR 366,vI 657 0,vI 145 0,qS "/claim/cut.py" 658]),
(368,fQ (.mk (sT "tie_fault") (sT "tie_fault") (L2.defArgs (top 45)) (FuncBody.stmts (L2.defBody (top 45))) (L2.defScope (top 45)) 3 [] vN vN vN (qS "labelways.plans" 566) .none (vR 367) vN 0)),
(374,cQ #[qS "_law_tape" 662,qS "_law_tape" 663,qS "/claim/cut.py" 664,vI 152 0,vI 1 0,vI 0 0,vI 0 0,vI 3 0,vR 369,vB true,vI 181 0,vR 370,vN,vR 371,vR 372,vR 373,vI 666 0,vI 152 0,qS "/claim/cut.py" 667]),
(375,fT "_law_tape" 47 (qS "law_labelways_k41_plans_of_trees" 660) 374),
(381,cQ #[qS "_law_draw" 669,qS "_law_draw" 670,qS "/claim/cut.py" 671,vI 154 0,vI 2 0,vI 0 0,vI 0 0,vI 3 0,vR 376,vB true,vI 181 0,vR 377,vN,vR 378,vR 379,vR 380,vI 678 0,vI 154 0,qS "/claim/cut.py" 679]),
(382,fT "_law_draw" 48 (qS "law_labelways_k41_plans_of_trees" 660) 381),
(388,cQ #[qS "_law_n" 681,qS "_law_n" 682,qS "/claim/cut.py" 683,vI 167 0,vI 1 0,vI 0 0,vI 0 0,vI 3 0,vR 383,vB true,vI 181 0,vR 384,vN,vR 385,vR 386,vR 387,vI 685 0,vI 167 0,qS "/claim/cut.py" 686]),
(389,fT "_law_n" 49 (qS "law_labelways_k41_plans_of_trees" 660) 388),
(393,cQ #[qS "_law_web" 688,qS "_law_web" 689,qS "/claim/cut.py" 690,vI 169 0,vI 2 0,vI 0 0,vI 0 0,vI 3 0,vR 390,vB true,vI 181 0,vR 391,vN,vN,vN,vR 392,vI 691 0,vI 169 0,qS "/claim/cut.py" 692]),
(394,fT "_law_web" 50 (qS "law_labelways_k41_plans_of_trees" 660) 393),
(400,cQ #[qS "_law_order" 694,qS "_law_order" 695,qS "/claim/cut.py" 696,vI 181 0,vI 2 0,vI 0 0,vI 0 0,vI 3 0,vR 395,vB true,vI 181 0,vR 396,vN,vR 397,vR 398,vR 399,vI 702 0,vI 181 0,qS "/claim/cut.py" 703]),
(401,fT "_law_order" 51 (qS "law_labelways_k41_plans_of_trees" 660) 400),
(405,cQ #[qS "_law_beside" 705,qS "_law_beside" 706,qS "/claim/cut.py" 707,vI 187 0,vI 1 0,vI 0 0,vI 0 0,vI 3 0,vR 402,vB true,vI 181 0,vR 403,vN,vN,vN,vR 404,vI 708 0,vI 187 0,qS "/claim/cut.py" 709]),
(406,fT "_law_beside" 52 (qS "law_labelways_k41_plans_of_trees" 660) 405),
(410,cQ #[qS "_law_parts" 711,qS "_law_parts" 712,qS "/claim/cut.py" 713,vI 193 0,vI 2 0,vI 0 0,vI 0 0,vI 3 0,vR 407,vB true,vI 181 0,vR 408,vN,vN,vN,vR 409,vI 714 0,vI 193 0,qS "/claim/cut.py" 715]),
(411,fT "_law_parts" 53 (qS "law_labelways_k41_plans_of_trees" 660) 410),
(417,cQ #[qS "_law_tree" 717,qS "_law_tree" 718,qS "/claim/cut.py" 719,vI 205 0,vI 2 0,vI 0 0,vI 0 0,vI 3 0,vR 412,vB true,vI 181 0,vR 413,vN,vR 414,vR 415,vR 416,vI 727 0,vI 205 0,qS "/claim/cut.py" 728]),
(418,fT "_law_tree" 54 (qS "law_labelways_k41_plans_of_trees" 660) 417),
(422,cQ #[qS "_law_tree_plan" 730,qS "_law_tree_plan" 731,qS "/claim/cut.py" 732,vI 213 0,vI 2 0,vI 0 0,vI 0 0,vI 3 0,vR 419,vB true,vI 181 0,vR 420,vN,vN,vN,vR 421,vI 733 0,vI 213 0,qS "/claim/cut.py" 734]),
(423,fT "_law_tree_plan" 55 (qS "law_labelways_k41_plans_of_trees" 660) 422),
(429,cQ #[qS "_law_figures" 736,qS "_law_figures" 737,qS "/claim/cut.py" 738,vI 221 0,vI 1 0,vI 0 0,vI 0 0,vI 3 0,vR 424,vB true,vI 181 0,vR 425,vN,vR 426,vR 427,vR 428,vI 741 0,vI 221 0,qS "/claim/cut.py" 742]),
(430,fT "_law_figures" 56 (qS "law_labelways_k41_plans_of_trees" 660) 429),
(436,cQ #[qS "_law_told" 744,qS "_law_told" 745,qS "/claim/cut.py" 746,vI 227 0,vI 1 0,vI 0 0,vI 0 0,vI 3 0,vR 431,vB true,vI 181 0,vR 432,vN,vR 433,vR 434,vR 435,vI 751 0,vI 227 0,qS "/claim/cut.py" 752]),
(437,fT "_law_told" 57 (qS "law_labelways_k41_plans_of_trees" 660) 436),
(443,cQ #[qS "_law_right" 754,qS "_law_right" 755,qS "/claim/cut.py" 756,vI 236 0,vI 1 0,vI 0 0,vI 0 0,vI 3 0,vR 438,vB true,vI 181 0,vR 439,vN,vR 440,vR 441,vR 442,vI 761 0,vI 236 0,qS "/claim/cut.py" 762]),
(444,fT "_law_right" 58 (qS "law_labelways_k41_plans_of_trees" 660) 443),
(448,cQ #[qS "law" 764,qS "law" 765,qS "/claim/cut.py" 766,vI 245 0,vI 1 0,vI 0 0,vI 0 0,vI 3 0,vR 445,vB true,vI 181 0,vR 446,vN,vN,vN,vR 447,vI 767 0,vI 245 0,qS "/claim/cut.py" 768]),
(449,fT "law" 59 (qS "law_labelways_k41_plans_of_trees" 660) 448)]
noncomputable def Ka:List Addr:=[2,3,23,24,25,40,41,43,44,59,60,62,63,78,79,81,82,97,98,100,101,112,113,124,125,136,137,148,149,160,161,172,173,184,185,196,197,205,206,212,213,219,220,224,225,231,232,238,239,243,244,250,251,257,258,264,265,271,272,276,277,283,284,288,289,293,294,300,301,305,306,310,311,317,318,324,325,331,332,336,337,343,344,350,351,357,358,362,363,367,368,374,375,381,382,388,389,393,394,400,401,405,406,410,411,417,418,422,423,429,430,436,437,443,444,448,449]
theorem fkM {K:PySem.W.Frag}(x q:Str)(st:Stmt)(f:Addr)(pm cd:Value)(l:K.lookup f=some ⟨.type "function",.none,.func (PySem.W.fnOf x q (defArgs st) (defBody st) (defScope st) .none .none .none pm .none cd .none),#[]⟩:=by kernel_rfl) (c:PySem.W.codeIn K cd q=true:=by kernel_rfl)(k:PySem.W.keepIn K (.ref f)=true:=by kernel_rfl):Fun K x q st f (PySem.W.fnOf x q (defArgs st) (defBody st) (defScope st) .none .none .none pm .none cd .none):=zKq l c k
theorem zGL:∀{us:List Value},us.length=1->∃u0,us=[u0]
 | [u0],_=>⟨u0,rfl⟩
theorem zEY:∀{us:List Value},us.length=2->∃u0 u1,us=[u0,u1]
 | [u0,u1],_=>⟨u0,u1,rfl⟩
theorem usl3:∀{us:List Value},us.length=3->∃u0 u1 u2,us=[u0,u1,u2]
 | [u0,u1,u2],_=>⟨u0,u1,u2,rfl⟩
theorem walk {l:PySem.W.OpenLaw}{q:Program}{loose:List Str}{XP:(Str->Option Value)->Heap->Prop}{YP:World->Heap->Prop}{d:DefRec}{K:Params->PySem.W.Frag}(hn:l.most=some 63)(hdf:d.params.defaults=[])(hrec:∃dn,(PyProof.Rows.recsOf q).find? (fun e=>e.name==("middle_place" : Str))=some dn)
 (hY:∀(w:World)(h:Heap),YP w h->(K w.params).In h)
 (F:∀(w:World)(mg:Str->Option Value)(fa:Addr)(h:Heap),(K w.params).In h->h.Ns mainGlobals mg->mg d.name=some (.ref fa) ->
  ∃(fd:FuncData)(c P:Addr),PySem.W.tabIn (K w.params) "middle_place" = some (c,P)/\PySem.W.noTabs (K w.params)=true/\(∀(s:Shared)(u:Value),BindsTo s fd ⟨[u],[]⟩ [("_law_script",u)])/\∀base:Heap,(K w.params).In base->base.Ns mainGlobals mg->zJh mg base->zAa l.prog w (K w.params) mg base CX0 40 fa fd ["_law_script"] (zJp (K w.params) P)) :
 PySem.W.WalkO q loose XP YP l.row.toRowW d [] (fun f vs=>PySem.call f vs):=
 L2.walk_T (n:=63) (k:=40) (x := "_law_script") (tn := "middle_place") (CX:=CX0) (sp:=zJp) hn (by decide) hdf ⟨rfl,by decide,by decide,rfl⟩ hrec hY F (fun _ _ _ a ns hl hP hS=>⟨a,ns,rfl,hS,hl,hP,fun _=>rfl⟩) fun _ _ _ _ z=>z
theorem fk {K:PySem.W.Frag}(x:Str)(st:Stmt)(f:Addr)(pm cd:Value)(l:K.lookup f=some ⟨.type "function",.none,.func (PySem.W.fnOf x x (defArgs st) (defBody st) (defScope st) .none .none .none pm .none cd .none),#[]⟩:=by kernel_rfl) (c:PySem.W.codeIn K cd x=true:=by kernel_rfl)(k:PySem.W.keepIn K (.ref f)=true:=by kernel_rfl):Fun K x x st f (PySem.W.fnOf x x (defArgs st) (defBody st) (defScope st) .none .none .none pm .none cd .none):=zKq l c k
theorem fkC {K:PySem.W.Frag}(x:Str)(st:Stmt)(f:Addr)(pm:Value)(cc:Addr)(l:K.lookup f=some ⟨.type "function",.none,.func (PySem.W.fnOf x x (defArgs st) (defBody st) (defScope st) .none .none .none pm .none (.ref cc) .none),#[]⟩:=by kernel_rfl) (c:PySem.W.codeIn K (.ref cc) x=true:=by kernel_rfl)(k:PySem.W.keepIn K (.ref f)=true:=by kernel_rfl):zKy K x x st f (PySem.W.fnOf x x (defArgs st) (defBody st) (defScope st) .none .none .none pm .none (.ref cc) .none) cc:=zLr l c k
noncomputable abbrev pw:Program:=PySem.Challenge.pw_labelways_k41_plans_of_trees
noncomputable def V:Program:={ pw with main:={ pw.main with body:=[top 1,top 2,top 3,top 4,top 5,top 6,top 7,top 8,top 9,top 10,top 11,top 12,top 13,top 15,top 16,top 17,top 18,top 19,top 21,top 22,top 23,top 24,top 26,top 27,top 28,top 29,top 30,top 31,top 33,top 34,top 35,top 36,top 37,top 38,top 39,top 40,top 41,top 42,top 43,top 44,top 45,top 47,top 48,top 49,top 50,top 51,top 52,top 53,top 54,top 55,top 56,top 57,top 58,top 59] } }
noncomputable abbrev RR:PySem.W.RowW:=PySem.W.OpenRow.toRowW (PySem.Challenge.rw_labelways_k41_plans_of_trees).row
theorem Ke:∀P,Ka=(Kf P).map (·.1):=fun P=>by kernel_rfl
noncomputable abbrev HK:PySem.W.Hook:=PySem.W.kHook Kf Ka Ke
theorem left:PySem.W.LeftO pw V [] (fun s=>PySem.W.xlAt V [] s && PySem.W.recOk (PySem.W.RowW.records RR) s) (PySem.W.Hook.obs HK) (PySem.W.Hook.val HK) 8338:=L2.left_of (by kernel_rfl) (by decide) (fun _=>rfl) fun w os=>by kernel_rfl
noncomputable def dL:DefRec:={ name := "law",params:=defArgs sLaw,body:=defBody sLaw,scope:=defScope sLaw,pos:=⟨245,0,259,15⟩ }
theorem facts (w:World)(mg:Str->Option Value)(fa:Addr)(h:Heap)(KX:(Kf w.params).In h)(G:h.Ns mainGlobals mg)(hmg:mg "law" = some (.ref fa)):∃(fd:FuncData)(c P:Addr),PySem.W.tabIn (Kf w.params) "middle_place" = some (c,P)/\PySem.W.noTabs (Kf w.params)=true/\(∀(s:Shared)(u:Value),BindsTo s fd ⟨[u],[]⟩ [("_law_script",u)])/\∀base:Heap,(Kf w.params).In base->base.Ns mainGlobals mg->zJh mg base->zAa (PySem.Challenge.rw_labelways_k41_plans_of_trees).prog w (Kf w.params) mg base CX0 40 fa fd ["_law_script"] (zJp (Kf w.params) P):=by
 have mk:∀(x:Str)(f:Addr),PySem.W.nsIn (Kf w.params) mainGlobals x=some (some (.ref f))->mg x=some (.ref f):=fun x f e=>PySem.W.mg_of KX G e
 have mn:∀x:Str,PySem.W.nsIn (Kf w.params) mainGlobals x=some none->mg x=none:=fun x e=>PySem.W.mg_none_of KX G e
 have FTa:=fk (K:=Kf w.params) "_law_tape" zJx 375 (qS "law_labelways_k41_plans_of_trees" 660) (vR 374)
 have bTa:=FTa.binds (ps:=["_law_script"]) fun _ _ _ _ _ _ us hl=>by obtain⟨u0,rfl⟩:=zGL hl;rfl
 have mTa:=mk "_law_tape" 375 (by kernel_rfl)
 have FD:=fk (K:=Kf w.params) "_law_draw" zE0 382 (qS "law_labelways_k41_plans_of_trees" 660) (vR 381)
 have bD:=FD.binds (ps:=["_law_tape_here", "_law_many"]) fun _ _ _ _ _ _ us hl=>by obtain⟨u0,u1,rfl⟩:=zEY hl;rfl
 have mD:=mk "_law_draw" 382 (by kernel_rfl)
 have FN:=fk (K:=Kf w.params) "_law_n" sN 389 (qS "law_labelways_k41_plans_of_trees" 660) (vR 388)
 have bN:=FN.binds (ps:=["_law_tape_here"]) fun _ _ _ _ _ _ us hl=>by obtain⟨u0,rfl⟩:=zGL hl;rfl
 have mN:=mk "_law_n" 389 (by kernel_rfl)
 have FW:=fk (K:=Kf w.params) "_law_web" sWeb 394 (qS "law_labelways_k41_plans_of_trees" 660) (vR 393)
 have bW:=FW.binds (ps:=["_law_tape_here", "_law_n_here"]) fun _ _ _ _ _ _ us hl=>by obtain⟨u0,u1,rfl⟩:=zEY hl;rfl
 have mW:=mk "_law_web" 394 (by kernel_rfl)
 have FOr:=fk (K:=Kf w.params) "_law_order" zFf 401 (qS "law_labelways_k41_plans_of_trees" 660) (vR 400)
 have bOr:=FOr.binds (ps:=["_law_tape_here", "_law_n_here"]) fun _ _ _ _ _ _ us hl=>by obtain⟨u0,u1,rfl⟩:=zEY hl;rfl
 have mOr:=mk "_law_order" 401 (by kernel_rfl)
 have FT:=fk (K:=Kf w.params) "ties_at" zHd 239 (qS "labelways.webs" 483) (vR 238)
 have bT:=FT.binds (ps:=["web", "place"]) fun _ _ _ _ _ _ us hl=>by obtain⟨u0,u1,rfl⟩:=zEY hl;rfl
 have mT:=mk "ties_at" 239 (by kernel_rfl)
 have FB:=fk (K:=Kf w.params) "beside" zDu 244 (qS "labelways.webs" 483) (vR 243)
 have bB:=FB.binds (ps:=["web", "place"]) fun _ _ _ _ _ _ us hl=>by obtain⟨u0,u1,rfl⟩:=zEY hl;rfl
 have mB:=mk "beside" 244 (by kernel_rfl)
 have FWh:=fk (K:=Kf w.params) "is_whole" zFe 251 (qS "labelways.webs" 483) (vR 250)
 have bWh:=FWh.binds (ps:=["web"]) fun _ _ _ _ _ _ us hl=>by obtain⟨u0,rfl⟩:=zGL hl;rfl
 have mWh:=mk "is_whole" 251 (by kernel_rfl)
 have FJw:=fk (K:=Kf w.params) "joined_within" sJw 258 (qS "labelways.webs" 483) (vR 257)
 have bJw:=FJw.binds (ps:=["web", "places", "start"]) fun _ _ _ _ _ _ us hl=>by obtain⟨u0,u1,u2,rfl⟩:=usl3 hl;rfl
 have mJw:=mk "joined_within" 258 (by kernel_rfl)
 have FTp:=fk (K:=Kf w.params) "tree_plan" sTp 265 (qS "labelways.trees" 522) (vR 264)
 have bTp:=FTp.binds (ps:=["web"]) fun _ _ _ _ _ _ us hl=>by obtain⟨u0,rfl⟩:=zGL hl;rfl
 have mTp:=mk "tree_plan" 265 (by kernel_rfl)
 have FIt:=fk (K:=Kf w.params) "is_tree" sIt 272 (qS "labelways.trees" 522) (vR 271)
 have bIt:=FIt.binds (ps:=["web"]) fun _ _ _ _ _ _ us hl=>by obtain⟨u0,rfl⟩:=zGL hl;rfl
 have mIt:=mk "is_tree" 272 (by kernel_rfl)
 have FPop:=fk (K:=Kf w.params) "plan_of_part" sPop 277 (qS "labelways.trees" 522) (vR 276)
 have bPop:=FPop.binds (ps:=["web", "places"]) fun _ _ _ _ _ _ us hl=>by obtain⟨u0,u1,rfl⟩:=zEY hl;rfl
 have mPop:=mk "plan_of_part" 277 (by kernel_rfl)
 have FMi:=fkC (K:=Kf w.params) "middle_place" sMi 284 (qS "labelways.trees" 522) 283
 have bMi:=FMi.fn.binds (ps:=["web", "places"]) fun _ _ _ _ _ _ us hl=>by obtain⟨u0,u1,rfl⟩:=zEY hl;rfl
 have mMi:=mk "middle_place" 284 (by kernel_rfl)
 have FGp:=fk (K:=Kf w.params) "greatest_part" sGp 289 (qS "labelways.trees" 522) (vR 288)
 have bGp:=FGp.binds (ps:=["web", "places", "gone"]) fun _ _ _ _ _ _ us hl=>by obtain⟨u0,u1,u2,rfl⟩:=usl3 hl;rfl
 have mGp:=mk "greatest_part" 289 (by kernel_rfl)
 have FPwo:=fk (K:=Kf w.params) "parts_without" sPwo 294 (qS "labelways.trees" 522) (vR 293)
 have bPwo:=FPwo.binds (ps:=["web", "places", "gone"]) fun _ _ _ _ _ _ us hl=>by obtain⟨u0,u1,u2,rfl⟩:=usl3 hl;rfl
 have mPwo:=mk "parts_without" 294 (by kernel_rfl)
 have FNu:=fk (K:=Kf w.params) "is_number" sNum 206 (qS "labelways.kinds" 443) (vR 205)
 have bNu:=FNu.binds (ps:=["thing"]) fun _ _ _ _ _ _ us hl=>by obtain⟨u0,rfl⟩:=zGL hl;rfl
 have mNu:=mk "is_number" 206 (by kernel_rfl)
 have FWi:=fk (K:=Kf w.params) "is_within" sWi 213 (qS "labelways.kinds" 443) (vR 212)
 have bWi:=FWi.binds (ps:=["thing", "least", "most"]) fun _ _ _ _ _ _ us hl=>by obtain⟨u0,u1,u2,rfl⟩:=usl3 hl;rfl
 have mWi:=mk "is_within" 213 (by kernel_rfl)
 have FPl:=fk (K:=Kf w.params) "is_place" sPl 232 (qS "labelways.kinds" 443) (vR 231)
 have bPl:=FPl.binds (ps:=["n", "thing"]) fun _ _ _ _ _ _ us hl=>by obtain⟨u0,u1,rfl⟩:=zEY hl;rfl
 have mPl:=mk "is_place" 232 (by kernel_rfl)
 have FTo:=fk (K:=Kf w.params) "is_tuple_of" sTof 220 (qS "labelways.kinds" 443) (vR 219)
 have bTo:=FTo.binds (ps:=["thing", "count"]) fun _ _ _ _ _ _ us hl=>by obtain⟨u0,u1,rfl⟩:=zEY hl;rfl
 have mTo:=mk "is_tuple_of" 220 (by kernel_rfl)
 have FRs:=fk (K:=Kf w.params) "is_rising" sRis 225 (qS "labelways.kinds" 443) (vR 224)
 have bRs:=FRs.binds (ps:=["things"]) fun _ _ _ _ _ _ us hl=>by obtain⟨u0,rfl⟩:=zGL hl;rfl
 have mRs:=mk "is_rising" 225 (by kernel_rfl)
 have FIp:=fk (K:=Kf w.params) "is_plan" sIp 301 (qS "labelways.plans" 566) (vR 300)
 have bIp:=FIp.binds (ps:=["thing"]) fun _ _ _ _ _ _ us hl=>by obtain⟨u0,rfl⟩:=zGL hl;rfl
 have mIp:=mk "is_plan" 301 (by kernel_rfl)
 have FPw:=fk (K:=Kf w.params) "is_plan_within" sPw 306 (qS "labelways.plans" 566) (vR 305)
 have bPw:=FPw.binds (ps:=["thing", "most"]) fun _ _ _ _ _ _ us hl=>by obtain⟨u0,u1,rfl⟩:=zEY hl;rfl
 have mPw:=mk "is_plan_within" 306 (by kernel_rfl)
 have FPp:=fk (K:=Kf w.params) "are_plan_places" sPp 311 (qS "labelways.plans" 566) (vR 310)
 have bPp:=FPp.binds (ps:=["thing"]) fun _ _ _ _ _ _ us hl=>by obtain⟨u0,rfl⟩:=zGL hl;rfl
 have mPp:=mk "are_plan_places" 311 (by kernel_rfl)
 have FCh:=fk (K:=Kf w.params) "chain" sCh 318 (qS "labelways.plans" 566) (vR 317)
 have bCh:=FCh.binds (ps:=["plan", "place"]) fun _ _ _ _ _ _ us hl=>by obtain⟨u0,u1,rfl⟩:=zEY hl;rfl
 have mCh:=mk "chain" 318 (by kernel_rfl)
 have FCo:=fk (K:=Kf w.params) "chain_or_none" sCo 325 (qS "labelways.plans" 566) (vR 324)
 have bCo:=FCo.binds (ps:=["plan", "place"]) fun _ _ _ _ _ _ us hl=>by obtain⟨u0,u1,rfl⟩:=zEY hl;rfl
 have mCo:=mk "chain_or_none" 325 (by kernel_rfl)
 have FPo:=fk (K:=Kf w.params) "plan_order" sPo 332 (qS "labelways.plans" 566) (vR 331)
 have bPo:=FPo.binds (ps:=["plan"]) fun _ _ _ _ _ _ us hl=>by obtain⟨u0,rfl⟩:=zGL hl;rfl
 have mPo:=mk "plan_order" 332 (by kernel_rfl)
 have FDe:=fk (K:=Kf w.params) "deepest" sDe 337 (qS "labelways.plans" 566) (vR 336)
 have bDe:=FDe.binds (ps:=["plan"]) fun _ _ _ _ _ _ us hl=>by obtain⟨u0,rfl⟩:=zGL hl;rfl
 have mDe:=mk "deepest" 337 (by kernel_rfl)
 have FLt:=fk (K:=Kf w.params) "lets_plan" zIU 344 (qS "labelways.plans" 566) (vR 343)
 have bLt:=FLt.binds (ps:=["web", "thing"]) fun _ _ _ _ _ _ us hl=>by obtain⟨u0,u1,rfl⟩:=zEY hl;rfl
 have mLt:=mk "lets_plan" 344 (by kernel_rfl)
 have FRa:=fk (K:=Kf w.params) "refuse_at" zIT 351 (qS "labelways.plans" 566) (vR 350)
 have bRa:=FRa.binds (ps:=["word", "at"]) fun _ _ _ _ _ _ us hl=>by obtain⟨u0,u1,rfl⟩:=zEY hl;rfl
 have mRa:=mk "refuse_at" 351 (by kernel_rfl)
 have FPf:=fk (K:=Kf w.params) "place_fault" sPf 358 (qS "labelways.plans" 566) (vR 357)
 have bPf:=FPf.binds (ps:=["web", "plan"]) fun _ _ _ _ _ _ us hl=>by obtain⟨u0,u1,rfl⟩:=zEY hl;rfl
 have mPf:=mk "place_fault" 358 (by kernel_rfl)
 have FLk:=fk (K:=Kf w.params) "lacks_fault" sLk 363 (qS "labelways.plans" 566) (vR 362)
 have bLk:=FLk.binds (ps:=["web", "plan"]) fun _ _ _ _ _ _ us hl=>by obtain⟨u0,u1,rfl⟩:=zEY hl;rfl
 have mLk:=mk "lacks_fault" 363 (by kernel_rfl)
 have FTf:=fk (K:=Kf w.params) "tie_fault" sTf 368 (qS "labelways.plans" 566) (vR 367)
 have bTf:=FTf.binds (ps:=["web", "plan"]) fun _ _ _ _ _ _ us hl=>by obtain⟨u0,u1,rfl⟩:=zEY hl;rfl
 have mTf:=mk "tie_fault" 368 (by kernel_rfl)
 have FBe:=fk (K:=Kf w.params) "_law_beside" sBes 406 (qS "law_labelways_k41_plans_of_trees" 660) (vR 405)
 have bBe:=FBe.binds (ps:=["_law_web_here"]) fun _ _ _ _ _ _ us hl=>by obtain⟨u0,rfl⟩:=zGL hl;rfl
 have mBe:=mk "_law_beside" 406 (by kernel_rfl)
 have FPa:=fk (K:=Kf w.params) "_law_parts" sPar 411 (qS "law_labelways_k41_plans_of_trees" 660) (vR 410)
 have bPa:=FPa.binds (ps:=["_law_beside_each", "_law_places"]) fun _ _ _ _ _ _ us hl=>by obtain⟨u0,u1,rfl⟩:=zEY hl;rfl
 have mPa:=mk "_law_parts" 411 (by kernel_rfl)
 have FTr:=fk (K:=Kf w.params) "_law_tree" zJw 418 (qS "law_labelways_k41_plans_of_trees" 660) (vR 417)
 have bTr:=FTr.binds (ps:=["_law_tape_here", "_law_n_here"]) fun _ _ _ _ _ _ us hl=>by obtain⟨u0,u1,rfl⟩:=zEY hl;rfl
 have mTr:=mk "_law_tree" 418 (by kernel_rfl)
 have FLtp:=fk (K:=Kf w.params) "_law_tree_plan" sLtp 423 (qS "law_labelways_k41_plans_of_trees" 660) (vR 422)
 have bLtp:=FLtp.binds (ps:=["_law_beside_each", "_law_places"]) fun _ _ _ _ _ _ us hl=>by obtain⟨u0,u1,rfl⟩:=zEY hl;rfl
 have mLtp:=mk "_law_tree_plan" 423 (by kernel_rfl)
 have FFi:=fk (K:=Kf w.params) "_law_figures" sFig 430 (qS "law_labelways_k41_plans_of_trees" 660) (vR 429)
 have bFi:=FFi.binds (ps:=["_law_n_here"]) fun _ _ _ _ _ _ us hl=>by obtain⟨u0,rfl⟩:=zGL hl;rfl
 have mFi:=mk "_law_figures" 430 (by kernel_rfl)
 have FTl:=fk (K:=Kf w.params) "_law_told" zIS 437 (qS "law_labelways_k41_plans_of_trees" 660) (vR 436)
 have bTl:=FTl.binds (ps:=["_law_web_here"]) fun _ _ _ _ _ _ us hl=>by obtain⟨u0,rfl⟩:=zGL hl;rfl
 have mTl:=mk "_law_told" 437 (by kernel_rfl)
 have FR:=fk (K:=Kf w.params) "_law_right" zG2 444 (qS "law_labelways_k41_plans_of_trees" 660) (vR 443)
 have bR:=FR.binds (ps:=["_law_web_here"]) fun _ _ _ _ _ _ us hl=>by obtain⟨u0,rfl⟩:=zGL hl;rfl
 have mR:=mk "_law_right" 444 (by kernel_rfl)
 have FZ:=fk (K:=Kf w.params) "law" sLaw 449 (qS "law_labelways_k41_plans_of_trees" 660) (vR 448)
 have mb0:=mn "len" (by kernel_rfl)
 have mb1:=mn "range" (by kernel_rfl)
 have mb2:=mn "tuple" (by kernel_rfl)
 have mb3:=mn "sorted" (by kernel_rfl)
 have mb4:=mn "min" (by kernel_rfl)
 have mb5:=mn "max" (by kernel_rfl)
 have mb6:=mn "repr" (by kernel_rfl)
 have mb7:=mn "list" (by kernel_rfl)
 have mb8:=mn "isinstance" (by kernel_rfl)
 have mb9:=mn "int" (by kernel_rfl)
 have mb10:=mn "bool" (by kernel_rfl)
 have mb11:=mn "all" (by kernel_rfl)
 have mb12:=mn "set" (by kernel_rfl)
 have mb13:=mn "ValueError" (by kernel_rfl)
 have e:=hmg.symm.trans (mk "law" 449 (by kernel_rfl))
 cases e
 have FI:=fkM (K:=Kf w.params) "__init__" "NoPlan.__init__" sI1 79 (qS "labelways.errors" 187) (vR 78)
 have bI:=FI.binds (ps:=["self", "word", "at"]) fun _ _ _ _ _ _ us hl=>by obtain⟨u0,u1,u2,rfl⟩:=usl3 hl;rfl
 have Er:E41 (Kf w.params) mg 24 125 [44,63,113,173,82,149,137] [185,101,161,197]:=⟨mk "WayError" 24 (by kernel_rfl),by kernel_rfl,mk "NoTree" 125 (by kernel_rfl),by kernel_rfl,by kernel_rfl,⟨by kernel_rfl,by kernel_rfl,by kernel_rfl,by kernel_rfl,by kernel_rfl,by kernel_rfl⟩,(by show [mg "NoLabels",mg "NoLeast",mg "NoOrder",mg "NoPart",mg "NoPlan",mg "NoPosts",mg "NoRing"]=_;rw[mk "NoLabels" 44 (by kernel_rfl),mk "NoLeast" 63 (by kernel_rfl),mk "NoOrder" 113 (by kernel_rfl),mk "NoPart" 173 (by kernel_rfl),mk "NoPlan" 82 (by kernel_rfl),mk "NoPosts" 149 (by kernel_rfl),mk "NoRing" 137 (by kernel_rfl)];rfl),(by show [mg "NoRow",mg "NoText",mg "NoTie",mg "TooMany"]=_;rw[mk "NoRow" 185 (by kernel_rfl),mk "NoText" 101 (by kernel_rfl),mk "NoTie" 161 (by kernel_rfl),mk "TooMany" 197 (by kernel_rfl)];rfl),by kernel_rfl,by kernel_rfl,by kernel_rfl,by kernel_rfl⟩
 have mC:mg "NoPlan" = some (.ref 82):=mk "NoPlan" 82 (by kernel_rfl)
 have EI:zHT (Kf w.params) 82 79:=⟨by kernel_rfl,by kernel_rfl,by kernel_rfl,by kernel_rfl,by kernel_rfl⟩
 have mo:PySem.W.mroIn (Kf w.params) 82 (.type "object")=some true:=by kernel_rfl
 have i1:PySem.W.findIn (Kf w.params) (.ref 82) "word" = some none:=by kernel_rfl
 have i2:PySem.W.findIn (Kf w.params) (.ref 82) "at" = some none:=by kernel_rfl
 have mMW:mg "MOST_WITHIN" = some (.int 24 568):=PySem.W.mg_of KX G (by kernel_rfl)
 exact⟨_,283,279,by kernel_rfl,by kernel_rfl,fun s v=>.of_eq rfl,fun base hb _ hbm=>ok_law FZ (PySem.W.codeHd_of_K hb (show PySem.W.codeHdIn (Kf w.params) 283 279=true by kernel_rfl)) hbm Er mC EI FI bI mo i1 i2 mMW FTa bTa mTa FD bD mD FN bN mN FW bW mW FOr bOr mOr FT bT mT FB bB mB FWh bWh mWh FJw bJw mJw FTp bTp mTp FIt bIt mIt FPop bPop mPop FMi bMi mMi FGp bGp mGp FPwo bPwo mPwo FNu bNu mNu FWi bWi mWi FPl bPl mPl FTo bTo mTo FRs bRs mRs FIp bIp mIp FPw bPw mPw FPp bPp mPp FCh bCh mCh FCo bCo mCo FPo bPo mPo FDe bDe mDe FLt bLt mLt FRa bRa mRa FPf bPf mPf FLk bLk mLk FTf bTf mTf FBe bBe mBe FPa bPa mPa FTr bTr mTr FLtp bLtp mLtp FFi bFi mFi FTl bTl mTl FR bR mR mb0 mb1 mb2 mb3 mb4 mb5 mb6 mb7 mb8 mb9 mb10 mb11 mb12 mb13⟩
end K41
open PySem PySem.W PyProof.Rows
set_option maxRecDepth 100000 in
set_option maxHeartbeats 0 in
theorem PySem.Challenge.cw_labelways_k41_plans_of_trees_holds : PySem.Challenge.rw_labelways_k41_plans_of_trees.Holds := by
 refine holds_law (by decide +kernel) fun said=>?_
 refine holds_open (q:=K41.V) (loose:=[]) (Xt:=fun s=>xlAt K41.V [] s && recOk (RowW.records K41.RR) s) (XP:=XL K41.V []) (Yf:=Hook.obs K41.HK) (Ya:=Hook.val K41.HK) (YP:=Hook.says K41.HK) (d:=K41.dL) (kwd:=[]) (N:=8338) K41.left (Hook.of K41.HK) (Hook.keeps K41.HK) (fun s e=>xl_of s (Bool.and_eq_true_iff.mp e).1) XL.keeps (by kernel_rfl) (by kernel_rfl) (by kernel_rfl) (fun s e=>recFacts_of (Bool.and_eq_true_iff.mp e).2) (by kernel_rfl) said (by decide +kernel) ⟨rfl,rfl,rfl,rfl,rfl,by decide +kernel⟩ ?hw ?hc
 case hw=>w_witness2
 case hc=>
  exact K41.walk (l:=PySem.Challenge.rw_labelways_k41_plans_of_trees) (K:=K41.Kf) rfl rfl ⟨((PyProof.Rows.recsOf K41.V).find? (fun e=>e.name==("middle_place" : Str))).get (by decide +kernel),by simp⟩ (fun w h Y=>PySem.W.kIn_of Y) K41.facts
