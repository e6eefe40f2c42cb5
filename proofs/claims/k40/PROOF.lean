import PyProof.Rows.All
import Wide.All
import OpenK.AllK
import Wide.FinOn
import Lean
import PyProof.EqAt
import PyProof.EqKinds
import PyProof.TupleCall
import PyProof.ListRange
import PyProof.Rows.StrKeys3
import PyProof.ZipIter
import KE.KRevSl
import PyProof.FactsAll.set
import PySem.Challenge.RW_labelways_k40_whole_hubs_stand_in_chains
set_option Elab.async false
set_option linter.all false
set_option maxRecDepth 100000
section
open PySem PySem.Spec PyProof.Rows
abbrev zA:=@wpAny_bind
abbrev zB:=@wpAny_pure
abbrev zC:=@List.length_append
abbrev zD:=@List.length_map
abbrev zE:=@List.getElem?_eq_getElem
abbrev zF:=@Heap.get?_push_of_some
abbrev zH:=@Nat.le_refl
abbrev zK:=@List.mem_append
abbrev zL:=@List.getElem?_eq_some_iff
abbrev zM:=@List.getD_eq_getElem?_getD
abbrev zN:=@Heap.get?_push_size
abbrev zP:=@decide_eq_true
abbrev zQ:=@List.getElem?_map
abbrev zR:=@List.mem_cons_of_mem
abbrev zS:=@List.size_toArray
abbrev zT:=@List.mem_cons
abbrev zU:=@Heap.lt_size
abbrev zW:=@List.mem_of_getElem?
abbrev zX:=@List.map_append
abbrev zY:=@List.mem_cons_self
abbrev zZ:=@decide_eq_false
abbrev za:=@List.take_of_length_le
abbrev zd:=@List.length_cons
abbrev zf:=@Option.some.inj
abbrev zg:=@Bool.false_ne_true
abbrev zh:=@Nat.ne_of_lt
abbrev zi:=@Nat.zero_le
abbrev zj:=@List.getElem?_append_left
abbrev zk:=@List.getElem?_append_right
abbrev zn:=@List.mem_singleton
abbrev zq:=@List.append_nil
abbrev zr:=@Nat.lt_of_lt_of_le
abbrev zt:=@List.length_take
abbrev zu:=@List.pairwise_iff_getElem
abbrev zv:=@Heap.get?_update_self
abbrev zw:=@wpAny_holding
abbrev zx:=@List.getElem_of_mem
abbrev zy:=@List.getElem?_toArray
abbrev zz:=@List.getElem?_eq_none
abbrev zAB:=@List.mem_append_right
abbrev zAF:=@List.take_add_one
abbrev zAM:=@List.mem_map
abbrev zAO:=@wpAny_mono
abbrev zAP:=@List.nodup_append
abbrev zAR:=@List.nodup_iff_pairwise_ne
abbrev zAS:=@wpAny_newObj_type
abbrev zAU:=@Int.toNat_natCast
abbrev zAV:=@List.map_cons
abbrev zAa:=@wpAny_call_entry
abbrev zAb:=@List.length_range
abbrev zAc:=@List.flatten_cons
abbrev zAd:=@List.append_assoc
abbrev zAf:=@Nat.le_trans
abbrev zAg:=@List.length_filter_le
abbrev zAj:=@List.nodup_cons
abbrev zAl:=@Nat.le_of_lt
abbrev zAm:=@Option.map_eq_some_iff
abbrev zAn:=@Heap.get?_update_other
abbrev zAo:=@Nat.lt_of_le_of_lt
abbrev zAp:=@Heap.SameBut.update
abbrev zAq:=@wpAny_isInstance
abbrev zAr:=@Heap.size_push
abbrev zAs:=@wpAny_callSpecial?_slot
abbrev zAt:=@Nat.lt_succ_of_lt
abbrev zAv:=@wpAny_Call_Name_kw
abbrev zAw:=@List.length_replicate
abbrev zA1:=@wpAny_updateSeq
abbrev zA2:=@List.mem_filter
abbrev zA3:=@List.length_eq_zero_iff
abbrev zA4:=@List.filter_cons_of_neg
abbrev zA5:=@wpAny_call
abbrev zA8:=@Bool.and_eq_true
abbrev zA9:=@wpAny_truthy_bool
abbrev zBA:=@wpAny_loadPart_at
abbrev zBC:=@List.pairwise_map
abbrev zBE:=@wpAny_seqItems
abbrev zBF:=@Classical.byContradiction
abbrev zBG:=@Option.map_some
abbrev zBH:=@List.getElem_mem
abbrev zBI:=@List.all_eq_true
abbrev zBL:=@List.filter_cons_of_pos
abbrev zBM:=@Int.eq_ofNat_of_zero_le
abbrev zBN:=@wpAny_typeOf
abbrev zBO:=@wpAny_tryCatch
abbrev zBQ:=@Int.zero_add
abbrev zBR:=@wpAny_setState_of
abbrev zBV:=@List.replicate_succ
abbrev zBW:=@List.length_pos_iff
abbrev zBX:=@List.filter_nil
abbrev zBY:=@Heap.get?_update_ne
abbrev zBd:=@List.lookup_cons
abbrev zBe:=@Nat.lt_irrefl
abbrev zBf:=@List.take_append_drop
abbrev zBg:=@List.pairwise_cons
abbrev zBh:=@List.filter_append
abbrev zBi:=@Bool.false_eq_true
abbrev zBo:=@Nat.le_succ
abbrev zBp:=@List.take_zero
abbrev zBw:=@Nat.not_lt_zero
abbrev zB2:=@List.filterMap_cons
abbrev zB4:=@wpAny_typeNameOfWhole_keyiter
abbrev zB5:=@List.any_eq_true
abbrev zB6:=@wpAny_setField
abbrev zB7:=@wpAny_rule
abbrev zB9:=@List.mem_range
end
namespace L2
open PySem PySem.Spec PyProof.Rows
noncomputable abbrev Key:=Sum Int Str
noncomputable def zH5:Key->Value->Bool
 | .inl k,v=>Value.isInt k v
 | .inr x,v=>Value.isStrOf x v
noncomputable def keyH (w:World):Key->Int
 | .inl k=>hashInt k
 | .inr x=>hashStr w x
theorem zBU:∀{k:Key}{v:Value},zH5 k v=true->(∃i t,k=Sum.inl i/\v=Value.int i t)\/(∃x t,k=Sum.inr x/\v=Value.str x t)
 | .inl i,v,h=>by
  obtain⟨t,e⟩:=Value.isInt_shape (k:=i) (v:=v) h
  exact .inl ⟨i,t,rfl,e⟩
 | .inr x,v,h=>by
  obtain⟨t,e⟩:=Value.isStrOf_shape (x:=x) (v:=v) h
  exact .inr ⟨x,t,rfl,e⟩
theorem zJK (i:Int)(t:Tok):zH5 (.inl i) (.int i t)=true:=by simp[zH5,Value.isInt]
theorem zJJ (x:Str)(t:Tok):zH5 (.inr x) (.str x t)=true:=by simp[zH5,Value.isStrOf]
theorem key_ll (a b:Int):decide ((Sum.inl a:Key)=Sum.inl b)=(a==b):=by
 by_cases e:a=b
 . subst e;simp
 . have h:¬ (Sum.inl a:Key)=Sum.inl b:=fun q=>e (Sum.inl.inj q)
   rw[zZ h]
   exact (beq_eq_false_iff_ne.mpr e).symm
theorem key_rr (a b:Str):decide ((Sum.inr a:Key)=Sum.inr b)=decide (a=b):=by
 by_cases e:a=b
 . subst e;simp
 . have h:¬ (Sum.inr a:Key)=Sum.inr b:=fun q=>e (Sum.inr.inj q)
   rw[zZ h,zZ e]
theorem key_lr (a:Int)(b:Str):decide ((Sum.inl a:Key)=Sum.inr b)=false:=zZ (fun q=>nomatch q)
theorem key_rl (a:Str)(b:Int):decide ((Sum.inr a:Key)=Sum.inl b)=false:=zZ (fun q=>nomatch q)
noncomputable def zA7 (prog:Program)(w:World):PySem.KeyKind prog w Key where
 is:=zH5
 hash:=keyH w
 inj:=fun v a b ha hb=>by
  rcases zBU ha with ⟨i,t,rfl,rfl⟩ | ⟨x,t,rfl,rfl⟩
  . rcases zBU hb with ⟨j,u,rfl,e⟩ | ⟨y,u,rfl,e⟩
    . injection e with e1 _;rw[e1]
    . exact nomatch e
  . rcases zBU hb with ⟨j,u,rfl,e⟩ | ⟨y,u,rfl,e⟩
    . exact nomatch e
    . injection e with e1 _;rw[e1]
 byValue:=fun k v h=>by
  rcases zBU h with ⟨i,t,rfl,rfl⟩ | ⟨x,t,rfl,rfl⟩ <;> rfl
 pyHash:=fun hv h=>by
  rcases zBU hv with ⟨i,t,rfl,rfl⟩ | ⟨x,t,rfl,rfl⟩
  . exact wpAny_pyHash_int h
  . exact wpAny_pyHash_str h
 eqBool:=fun hu hv h=>by
  rcases zBU hu with ⟨i,t,rfl,rfl⟩ | ⟨x,t,rfl,rfl⟩
  . rcases zBU hv with ⟨j,u,rfl,rfl⟩ | ⟨y,u,rfl,rfl⟩
    . rw[key_ll] at h;exact wpAny_eqBool_int h
    . rw[key_lr] at h;exact SeqAt.EqAt.int_str i t y u _ _ _ _ h
  . rcases zBU hv with ⟨j,u,rfl,rfl⟩ | ⟨y,u,rfl,rfl⟩
    . rw[key_rl] at h;exact SeqAt.EqAt.str_int x t j u _ _ _ _ h
    . rw[key_rr] at h;exact wpAny_eqBool_str h
 «strs» := fun k x t v h=>by
  rcases zBU h with ⟨i,u,rfl,e⟩ | ⟨y,u,rfl,e⟩
  . exact nomatch e
  . injection e with e1 _
    subst e1
    cases v <;> rfl
theorem zGv (prog:Program)(w:World)(i:Int)(t:Tok):(zA7 prog w).is (.inl i) (.int i t)=true:=zJK i t
theorem zGu (prog:Program)(w:World)(x:Str)(t:Tok):(zA7 prog w).is (.inr x) (.str x t)=true:=zJJ x t
end L2
namespace L2
open PySem PySem.Spec PyProof.Rows
inductive V where
 | non | bl (b:Bool) | int (i:Int) | str (x:Str) | byt (b:Array UInt8) | flt (b:UInt64) | ref (a:Addr) | ty (n:String)
 deriving DecidableEq
noncomputable def zBn:V->Value->Prop
 | .non,u=>u=Value.none
 | .bl b,u=>u=Value.bool b
 | .int i,u=>∃t,u=Value.int i t
 | .str x,u=>∃t,u=Value.str x t
 | .byt b,u=>∃t,u=Value.bytes b t
 | .flt b,u=>∃t,u=Value.float b t
 | .ref a,u=>u=Value.ref a
 | .ty n,u=>u=Value.type n
noncomputable abbrev zBB:List V->List Value->Prop:=Paired zBn
theorem zBB.length {xs:List V}{us:List Value}(r:zBB xs us):xs.length=us.length:=Paired.length r
theorem zBB.get:∀{xs:List V}{us:List Value}{i:Nat}{x:V},zBB xs us->xs[i]? = some x->∃u,us[i]? = some u/\zBn x u
 | _,_,_,_,.nil,e=>by simp at e
 | _,_,0,_,.cons r _,e=>by simp at e;subst e;exact⟨_,rfl,r⟩
 | _,_,i+1,x,.cons _ t,e=>by
  obtain⟨u,h1,h2⟩:=zBB.get (i:=i) (x:=x) t (by simpa using e)
  exact⟨u,by simpa using h1,h2⟩
theorem zBB.set {x:V}{u:Value}(r:zBn x u):∀{xs:List V}{us:List Value}(i:Nat),zBB xs us->zBB (xs.set i x) (us.set i u)
 | _,_,_,.nil=>.nil
 | _,_,0,.cons _ t=>.cons r t
 | _,_,i+1,.cons q t=>.cons q (zBB.set r i t)
theorem zBB.append:∀{xs ys:List V}{us ws:List Value},zBB xs us->zBB ys ws->zBB (xs++ys) (us++ws)
 | _,_,_,_,.nil,s=>s
 | _,_,_,_,.cons r t,s=>.cons r (zBB.append t s)
theorem zBB.take:∀{xs:List V}{us:List Value}(n:Nat),zBB xs us->zBB (xs.take n) (us.take n)
 | _,_,0,_=>.nil
 | _,_,_+1,.nil=>.nil
 | _,_,n+1,.cons r t=>.cons r (zBB.take n t)
theorem zBB.drop:∀{xs:List V}{us:List Value}(n:Nat),zBB xs us->zBB (xs.drop n) (us.drop n)
 | _,_,0,r=>r
 | _,_,_+1,.nil=>.nil
 | _,_,n+1,.cons _ t=>zBB.drop n t
noncomputable def zFc:Option V->Option Value->Prop
 | some v,some u=>zBn v u
 | none,none=>True
 | _,_=>False
noncomputable def KV {κ:Type}:List (κ×V)->List (κ×Value)->Prop:=Paired fun (p:κ×V)(q:κ×Value)=>p.1=q.1/\zBn p.2 q.2
noncomputable def kV:Key->V
 | .inl i=>.int i
 | .inr x=>.str x
inductive HO where
 /-- a list -/
 | lst (xs:List V)
 /-- a tuple (never changes) -/
 | tup (xs:List V)
 /-- a dict whose keys are ints and texts;one whose keys are tuples of ints and texts (the empty one is both) -/
 | dK (kvs:List (Key×V)) | dT (kvs:List (List Key×V))
 /-- a set of ints: its members,its size -/
 | set (S:Int->Bool)(n:Nat)
 /-- an instance of the class at C,its dict at dx,its attributes -/
 | ins (C dx:Addr)(fs:List (Str×V))
 /-- the dict of the instance at x -/
 | own (x:Addr)
 /-- the dict of an exception -/
 | xd (fs:List (Str×V))
 /-- a bound method,f of x -/
 | met (f x:Addr)
 /-- a range object lo,lo+1,.. below hi -/
 | rng (lo hi:Int)
 /-- a thing that is known to the object (the script;a dict while a loop walks it): read,never written while it is so -/
 | frz (o:Obj)(u:HO)
 /-- a code object's table -/
 | tbl (ps:Array Value)
 /-- any other thing,by what is true of its one object (a def of one's own: SetO a S n:=HO.ext fun h=>..) -/
 | ext (φ:Heap->Prop)
noncomputable abbrev Hp:=Addr->Option HO
noncomputable def upd (H:Hp)(a:Addr)(o:HO):Hp:=fun b=>if b=a then some o else H b
theorem zJ {H:Hp}{a:Addr}{o:HO}:upd H a o a=some o:=by unfold upd;rw[if_pos rfl]
theorem zb {H:Hp}{a b:Addr}{o:HO}(h:b≠a):upd H a o b=H b:=by unfold upd;rw[if_neg h]
theorem zB8 {H:Hp}{a:Addr}{o u:HO}:upd (upd H a o) a u=upd H a u:=by
 funext b;unfold upd;split <;> rfl
theorem zB1 {H:Hp}{a b:Addr}{o u:HO}(h:H a=some o)(h':H b=some u)(d:o≠u):a≠b:=by
 intro e;subst e;rw[h] at h';exact d (zf h')
theorem zl {H:Hp}{a b:Addr}{o:HO}(h:H a=some o)(h':H b=none):a≠b:=by
 intro e;subst e;rw[h] at h';cases h'
section
variable (P:Program)(w:World)
noncomputable def zBP (H:Hp)(h:Heap)(a:Addr):HO->Prop
 | .lst xs=>xs.length<=sizeLine/\∃(its:List Value)(n:Nat),zBB xs its/\h.get? a=some { cls:=.type "list",data:=.seq its.toArray n }
 | .tup xs=>(xs.length<=sizeLine/\∃o,h.get? a=some o/\o.dict=none)/\∃its:List Value,zBB xs its/\IsTup h a its.toArray
 | .dK kvs=>kvs.length<=sizeLine/\(a==sysModules)=false/\∃vs,KV kvs vs/\h.DictOf (zA7 P w) a vs
 | .dT kvs=>kvs.length<=sizeLine/\(a==sysModules)=false/\∃xs:List (List Key×Addr×Value),
  Paired (fun (p:List Key×V)(q:List Key×Addr×Value)=>p.1=q.1/\H q.2.1=some (.tup (p.1.map kV))/\zBn p.2 q.2.2) kvs xs /\
  ∃o es ep,h.get? a=some o/\o.ExactDict/\o.data = .dict es ep/\es.toList=xs.map (entryOfKey (tupleKind (zA7 P w)))/\(xs.map (·.1)).Nodup
 | .set S n=>h.SetOf (intKind P w) a S n
 | .ins C dx fs=>H dx=some (.own a)/\fs.length<=1000/\dx≠a/\h.get? a=some (PySem.W.instObj C dx) /\
  ∃mA,h.Ns1 dx mA/\(∀f,zFc (fs.lookup f) (mA f))/\PySem.Within mA (fs.map (·.1))
 | .own _=>∃o,h.get? a=some o
 | .xd fs=>∃mA,h.Ns1 a mA/\∀f,zFc (fs.lookup f) (mA f)
 | .rng lo hi=>∃t u v,h.get? a=some { cls:=.type "range",data:=.fields #[.int lo t,.int hi u,.int 1 v] }
 | .frz o u=>h.get? a=some o/\zBP H h a u
 | .tbl ps=>h.get? a=some { cls:=.none,data:=.fields ps }
 | .met f x=>h.get? a=some (PySem.W.methodObj (.ref f) (.ref x))
 | .ext φ=>φ h/\(∃o,h.get? a=some o)/\∀h1 h2:Heap,φ h1->(∀o,h1.get? a=some o->h2.get? a=some o)->φ h2
noncomputable def HOk (H:Hp)(h:Heap):Prop:=∀a o,H a=some o->zBP P w H h a o
end
section
variable {P:Program}{w:World}{H H':Hp}{h h':Heap}{a:Addr}{o:HO}
theorem zBP.lt (x:zBP P w H h a o):a<h.objs.size:=by
 cases o with
 | lst xs=>obtain⟨_,_,_,_,e⟩:=x;exact zU e
 | tup xs=>obtain⟨_,_,_,p⟩:=x;exact p.lt
 | dK kvs=>obtain⟨_,_,_,_,o,_,_,e,_⟩:=x;exact zU e
 | dT kvs=>obtain⟨_,_,_,_,o,_,_,e,_⟩:=x;exact zU e
 | set S n=>obtain⟨o,_,_,_,e,_⟩:=x;exact zU e
 | ins C dx fs=>obtain⟨_,_,_,e,_⟩:=x;exact zU e
 | own y=>obtain⟨_,e⟩:=x;exact zU e
 | xd fs=>obtain⟨_,⟨_,_,_,e,_⟩,_⟩:=x;exact zU e
 | rng lo hi=>obtain⟨_,_,_,e⟩:=x;exact zU e
 | frz ob u=>obtain⟨e,_⟩:=x;exact zU e
 | tbl ps=>exact zU (show h.get? a=some _ from x)
 | met f y=>exact zU (show h.get? a=some _ from x)
 | ext φ=>obtain⟨_,⟨_,e⟩,_⟩:=x;exact zU e
theorem Paired.mapP {α β:Type}{F G:α->β->Prop}:∀{l₁:List α}{l₂:List β},Paired F l₁ l₂->(∀a b,F a b->G a b)->Paired G l₁ l₂
 | _,_,.nil,_=>.nil
 | _,_,.cons r t,f=>.cons (f _ _ r) (Paired.mapP t f)
theorem zBP.stay (x:zBP P w H h a o)(k:∀b u,(b=a\/H b=some (.own a))->h.get? b=some u->h'.get? b=some u)
 (ho:∀b,H b=some (.own a)->H' b=some (.own a))(ht:∀b xs,H b=some (.tup xs)->H' b=some (.tup xs)):zBP P w H' h' a o:=by
 induction o with
 | lst xs=>obtain⟨z,its,n,r,e⟩:=x;exact⟨z,its,n,r,k _ _ (.inl rfl) e⟩
 | tup xs=>obtain⟨⟨z,o2,e2,d2⟩,its,r,ob,e,c⟩:=x;exact⟨⟨z,o2,k _ _ (.inl rfl) e2,d2⟩,its,r,ob,k _ _ (.inl rfl) e,c⟩
 | dK kvs=>obtain⟨z,y,vs,r,ob,es,ep,e,c⟩:=x;exact⟨z,y,vs,r,ob,es,ep,k _ _ (.inl rfl) e,c⟩
 | dT kvs=>
  obtain⟨z,y,xs,r,ob,es,ep,e,c⟩:=x
  exact⟨z,y,xs,Paired.mapP r fun p q z=>⟨z.1,ht _ _ z.2.1,z.2.2⟩,ob,es,ep,k _ _ (.inl rfl) e,c⟩
 | set S n=>obtain⟨ob,es,ep,t,e,c⟩:=x;exact⟨ob,es,ep,t,k _ _ (.inl rfl) e,c⟩
 | ins C dx fs=>
  obtain⟨d,z,ne,e,mA,⟨od,es,ep,e2,c⟩,r⟩:=x
  exact⟨ho _ d,z,ne,k _ _ (.inl rfl) e,mA,⟨od,es,ep,k _ _ (.inr d) e2,c⟩,r⟩
 | own y=>obtain⟨ob,e⟩:=x;exact⟨ob,k _ _ (.inl rfl) e⟩
 | xd fs=>obtain⟨mA,⟨od,es,ep,e,c⟩,r⟩:=x;exact⟨mA,⟨od,es,ep,k _ _ (.inl rfl) e,c⟩,r⟩
 | rng lo hi=>obtain⟨t,u,v,e⟩:=x;exact⟨t,u,v,k _ _ (.inl rfl) e⟩
 | frz ob u ih=>obtain⟨e,q⟩:=x;exact⟨k _ _ (.inl rfl) e,ih q⟩
 | tbl ps=>
  have e:h.get? a=some { cls:=.none,data:=.fields ps }:=x
  show h'.get? a=some { cls:=.none,data:=.fields ps }
  exact k a _ (.inl rfl) e
 | met f y=>
  have e:h.get? a=some (PySem.W.methodObj (.ref f) (.ref y)):=x
  show h'.get? a=some (PySem.W.methodObj (.ref f) (.ref y))
  exact k a _ (.inl rfl) e
 | ext φ=>obtain⟨p,⟨o,e⟩,st⟩:=x;exact⟨st _ _ p fun o q=>k _ _ (.inl rfl) q,⟨o,k _ _ (.inl rfl) e⟩,st⟩
theorem HOk.lt (x:HOk P w H h)(e:H a=some o):a<h.objs.size:=(x a o e).lt
theorem HOk.fresh (x:HOk P w H h)(e:h.objs.size<=a):H a=none:=by
 cases q:H a with
 | none=>rfl
 | some u=>exact absurd (zr (x.lt q) e) (zBe _)
theorem HOk.kept (x:HOk P w H h)(k:∀b u,h.get? b=some u->h'.get? b=some u):HOk P w H h':=fun a o e=>
 (x a o e).stay (fun b u _ q=>k b u q) (fun _ q=>q) fun _ _ q=>q
theorem HOk.laid (x:HOk P w H h)(k:∀b u,h.get? b=some u->h'.get? b=some u)(hp:h.objs.size<=a)(new:zBP P w (upd H a o) h' a o):HOk P w (upd H a o) h':=fun b u e=>by
 have hn:=x.fresh hp
 by_cases hb:b=a
 . subst hb;rw[zJ] at e;cases e;exact new
 . rw[zb hb] at e
   exact (x b u e).stay (fun c v _ q=>k c v q) (fun c q=>by rw[zb (zl q hn)];exact q) fun c xs q=>by rw[zb (zl q hn)];exact q
end
noncomputable def Rd (H:Hp)(a:Addr)(u:HO):Prop:=H a=some u\/∃o,H a=some (.frz o u)
theorem Rd.ok {P:Program}{w:World}{H:Hp}{h:Heap}{a:Addr}{u:HO}(r:Rd H a u)(x:HOk P w H h):zBP P w H h a u:=by
 rcases r with r | ⟨o,r⟩
 . exact x a u r
 . obtain⟨_,q⟩:=x a _ r
   exact q
noncomputable def Mut:Option HO->Prop
 | some (.lst _)=>True
 | some (.dK _)=>True
 | some (.dT _)=>True
 | some (.set _ _)=>True
 | some (.ins _ _ _)=>True
 | some (.ext _)=>True
 | _=>False
section
variable {P:Program}{w:World}{H:Hp}{h h':Heap}{x e:Addr}{o':HO}
theorem HOk.write (ok:HOk P w H h)(mu:Mut (H x))(he:e=x\/H e=some (.own x))(k:∀b u,b≠e->h.get? b=some u->h'.get? b=some u)(heo:∃u,h'.get? e=some u)
 (new:zBP P w (upd H x o') h' x o'):HOk P w (upd H x o') h':=fun b u q=>by
 have nown:∀c y,H c=some (.own y)->c≠x:=fun c y r z=>by subst z;rw[r] at mu;exact mu
 have ntup:∀c xs,H c=some (.tup xs)->c≠x:=fun c xs r z=>by subst z;rw[r] at mu;exact mu
 by_cases hb:b=x
 . subst hb;rw[zJ] at q;cases q;exact new
 . rw[zb hb] at q
   by_cases hbe:b=e
   . have q':H b=some (.own x):=by
      rcases he with z | z
      . exact absurd (hbe.trans z) hb
      . rw[hbe];exact z
     rw[q] at q';cases q'
     obtain⟨v,hv⟩:=heo
     exact⟨v,by rw[hbe];exact hv⟩
   . refine (ok b u q).stay (fun c v hc r=>k c v ?_ r) (fun c r=>by rw[zb (nown c b r)];exact r) fun c xs r=>by rw[zb (ntup c xs r)];exact r
     rcases hc with rfl | hc
     . exact hbe
     . rintro rfl
       rcases he with z | z
       . exact nown c b hc z
       . rw[hc] at z;cases z;exact hb rfl
end
structure Un (fs ex:List Addr)(H H':Hp)(h h':Heap):Prop where
 keep:∀b o,h.get? b=some o->H b=none->b∉fs->b∉ex->h'.get? b=some o
 slot:∀b o,h.get? b=some o->H b=none->b∈fs->b∉ex->∃sl,h'.get? b=some { o with slots:=sl }
 free:∀b o,h.get? b=some o->H b=none->b∉ex->H' b=none
 there:∀b o,h.get? b=some o->b∉ex->∃o',h'.get? b=some o'
 tups:∀b xs,H b=some (.tup xs)->H' b=some (.tup xs)
 frzs:∀b o u,H b=some (.frz o u)->H' b=some (.frz o u)
 tbls:∀b ps,H b=some (.tbl ps)->∃more,H' b=some (.tbl (ps++more))
section
variable {fs fs' ex ex':List Addr}{H H1 H2:Hp}{h h1 h2 h':Heap}{a x e:Addr}{o:HO}
theorem Un.any (u:Un fs ex H H1 h h1){b:Addr}{ob:Obj}(q:h.get? b=some ob)(n:H b=none)(hx:b∉ex):∃sl,h1.get? b=some { ob with slots:=sl }:=by
 by_cases hb:b∈fs
 . exact u.slot b ob q n hb hx
 . exact⟨ob.slots,u.keep b ob q n hb hx⟩
theorem Un.trans (a:Un fs ex H H1 h h1)(b:Un fs ex H1 H2 h1 h2):Un fs ex H H2 h h2 where
 keep:=fun c ob q n hc hx=>b.keep c ob (a.keep c ob q n hc hx) (a.free c ob q n hx) hc hx
 slot:=fun c ob q n hc hx=>by
  obtain⟨sl,e1⟩:=a.slot c ob q n hc hx
  obtain⟨sl',e2⟩:=b.slot c _ e1 (a.free c ob q n hx) hc hx
  exact⟨sl',e2⟩
 free:=fun c ob q n hx=>by
  obtain⟨o',e1⟩:=a.there c ob q hx
  exact b.free c o' e1 (a.free c ob q n hx) hx
 there:=fun c ob q hx=>by
  obtain⟨o',e1⟩:=a.there c ob q hx
  exact b.there c o' e1 hx
 tups:=fun c xs q=>b.tups c xs (a.tups c xs q)
 frzs:=fun c ob xs q=>b.frzs c ob xs (a.frzs c ob xs q)
 tbls:=fun c ps q=>by
  obtain⟨m1,e1⟩:=a.tbls c ps q
  obtain⟨m2,e2⟩:=b.tbls c _ e1
  exact⟨m1++m2,by rw[e2,Array.append_assoc]⟩
theorem Un.kept (k:∀b u,h.get? b=some u->h'.get? b=some u):Un fs ex H H h h':=
 ⟨fun b ob q _ _ _=>k b ob q,fun b ob q _ _ _=>⟨ob.slots,k b ob q⟩,fun _ _ _ n _=>n,fun b ob q _=>⟨ob,k b ob q⟩,fun _ _ q=>q,fun _ _ _ q=>q,fun _ ps q=>⟨#[],by rw[q];simp⟩⟩
theorem Un.refl:Un fs ex H H h h:=Un.kept fun _ _ q=>q
theorem Un.laid (k:∀b u,h.get? b=some u->h'.get? b=some u)(hp:h.objs.size<=a)(hn:H a=none):Un fs ex H (upd H a o) h h' where
 keep:=fun b u q _ _ _=>k b u q
 slot:=fun b u q _ _ _=>⟨u.slots,k b u q⟩
 free:=fun b u q n _=>by rw[zb (zh (zr (zU q) hp))];exact n
 there:=fun b u q _=>⟨u,k b u q⟩
 tups:=fun b xs q=>by rw[zb (zl q hn)];exact q
 frzs:=fun b u xs q=>by rw[zb (zl q hn)];exact q
 tbls:=fun b ps q=>⟨#[],by rw[zb (zl q hn),q];simp⟩
theorem Un.write (mu:Mut (H x))(he:e=x\/H e=some (.own x))(k:∀b u,b≠e->h.get? b=some u->h'.get? b=some u)(heo:∃u,h'.get? e=some u):Un fs ex H (upd H x o) h h':=by
 have hx:∀b,H b=none->b≠x:=fun b n z=>by subst z;rw[n] at mu;exact mu
 have hb:∀b,H b=none->b≠e:=fun b n z=>by
  subst z
  rcases he with r | r
  . exact hx b n r
  . rw[n] at r;cases r
 have hm:∀b u,H b=some u->¬ Mut (some u)->b≠x:=fun b u q nm z=>by subst z;rw[q] at mu;exact nm mu
 refine⟨fun b u q n _ _=>k b u (hb b n) q,fun b u q n _ _=>⟨u.slots,k b u (hb b n) q⟩,fun b u q n _=>by rw[zb (hx b n)];exact n,fun b u q _=>?_,
  fun b xs q=>by rw[zb (hm b _ q fun z=>z)];exact q,fun b u xs q=>by rw[zb (hm b _ q fun z=>z)];exact q,fun b ps q=>⟨#[],by rw[zb (hm b _ q fun z=>z),q];simp⟩⟩
 by_cases hbe:b=e
 . subst hbe;exact heo
 . exact⟨u,k b u hbe q⟩
end
noncomputable def trk (h:Heap)(H:Hp):List Addr:=(List.range h.objs.size).filter fun a=>(H a).isSome
noncomputable def zJz (h:Heap)(H:Hp):Heap:=PySem.W.hideAll h (trk h H)
theorem zJR (h:Heap)(H:Hp):(zJz h H).objs.size=h.objs.size:=PySem.W.hideAll_size _ _
theorem zKb {h:Heap}{H:Hp}{b:Addr}{o:Obj}(e:h.get? b=some o)(n:H b=none):(zJz h H).get? b=some o:=
 PySem.W.hideAll_get _ e fun hm=>by
  have q:(H b).isSome=true:=(zA2.mp hm).2
  rw[n] at q;simp at q
theorem zLy {h:Heap}{H:Hp}{b:Addr}{o:Obj}(e:(zJz h H).get? b=some o):h.get? b=some o/\H b=none:=by
 have e':h.get? b=some o:=PySem.W.of_hideAll (trk h H) e
 refine⟨e',?_⟩
 cases q:H b with
 | none=>rfl
 | some x=>
  have hm:b∈trk h H:=zA2.mpr ⟨zB9.mpr (zU e'),by simp[q]⟩
  have z:(zJz h H).get? b=none:=PySem.W.hideAll_none (trk h H) hm
  rw[z] at e;cases e
noncomputable def zEj (g h:Heap)(L:Addr):List (Addr×Obj):=(List.range h.objs.size).filterMap fun a=>if a=L\/(g.get? a).isSome=true then none else (h.get? a).map fun o=>(a,o)
theorem zGx {g h:Heap}{L a:Addr}{o:Obj}(h1:a≠L)(h2:g.get? a=none)(h3:h.get? a=some o):(a,o)∈zEj g h L:=
 List.mem_filterMap.mpr ⟨a,zB9.mpr (zU h3),by simp[h1,h2,h3]⟩
theorem zEp {g h:Heap}{L:Addr}{p:Addr×Obj}(hp:p∈zEj g h L):p.1≠L/\g.get? p.1=none/\h.get? p.1=some p.2:=by
 obtain⟨b,_,e⟩:=List.mem_filterMap.mp hp
 split at e
 . cases e
 . rename_i hn
   cases q:h.get? b with
   | none=>rw[q] at e;simp at e
   | some u=>
    rw[q] at e
    simp only[zBG,Option.some.injEq] at e
    subst e
    refine⟨fun z=>hn (.inl z),?_,q⟩
    show g.get? b=none
    cases r:g.get? b with
    | none=>rfl
    | some v=>exact (hn (.inr (by simp[r]))).elim
theorem zKU {g h:Heap}{L:Addr}:News g L h (zEj g h L):=fun p hp=>let ⟨a,b,c⟩:=zEp hp;⟨c,a,b⟩
end L2
namespace L2
open PySem PySem.Spec PyProof.Rows
structure Mod (K:PySem.W.Frag)(mg:Str->Option Value)(base:Heap):Prop where
 kin:K.In base
 glob:base.Ns mainGlobals mg
 blt:∃mb,base.Ns builtinsNs mb/\∀x:Str,x ≠ "__name__" -> mb x=bootBuiltins x
 nolimit:base.NoLimit
structure Cx where
 prog:Program
 w:World
 K:PySem.W.Frag
 mg:Str->Option Value
 base:Heap
 A:Around
 N:List Str
 s₀:Shared
 H₀:Hp
 env:Env
 outer:List Env
 stack:List Env
 ex:List Addr
 fn:Str->Bool
 calm:Bool
 pn:List (Addr×Obj)
 xe:Value->Shared->Prop
noncomputable def frs (l:List Env):List Addr:=l.filterMap (·.frame)
noncomputable abbrev Cx.fs (X:Cx):List Addr:=frs X.outer
noncomputable def Vis (sc:Scope)(x:Str):Prop:=sc.names.lookup x=some .local\/sc.names.lookup x=some .cell\/sc.names.lookup x=some .free
noncomputable def Loc (sc:Scope)(x:Str):Prop:=sc.names.lookup x=some .local\/sc.names.lookup x=some .cell
noncomputable def zJw (env:Env)(h:Heap)(m:Str->Option Value)(x:Str)(u:Value):Prop:=
 (env.kindOf x=some .local/\m x=some u)\/((env.kindOf x=some .cell\/env.kindOf x=some .free)/\∃c,env.cells.lookup x=some c/\h.IsCell c (some u))
structure Cx.Ok (X:Cx):Prop where
 mod:Mod X.K X.mg X.base
 kind:X.env.scope.kind = .function
 glob:X.env.globals=mainGlobals
 blt:X.env.builtins=builtinsNs
 above:X.s₀.heap.objs.size<=X.env.locals
 inj:∀x y c,X.env.cells.lookup x=some c->X.env.cells.lookup y=some c->x=y
 has:∀x,(X.env.kindOf x=some .cell\/X.env.kindOf x=some .free)->∃c,X.env.cells.lookup x=some c
 cab:∀x c,X.fn x=true->X.env.cells.lookup x=some c->X.s₀.heap.objs.size<=c
 hd:X.calm=true->X.A.handled=none
 frames:X.A.frames=some X.stack
 stk:X.stack=X.outer\/(X.stack=X.env::X.outer/\X.env.frame=some X.env.locals)
 exf:∀b∈X.ex,b≠X.env.locals/\∀x c,X.env.cells.lookup x=some c->c≠b
 bs:∀b o,X.base.get? b=some o->X.s₀.heap.get? b=some o/\X.H₀ b=none
 bsz:X.base.objs.size<=X.s₀.heap.objs.size
 noex:∀b o,X.base.get? b=some o->b∉X.ex
 exfs:∀b∈X.ex,b∉X.fs
 funs:X.s₀.heap.FunFrames X.base X.outer
 frf:∀b∈X.fs,X.H₀ b=none
structure Inv (X:Cx)(pins:List (Addr×Obj))(σ:List (Option V))(H:Hp)(s:Shared):Prop where
 ok:X.Ok
 os:s.os=X.s₀.os
 bare:AllBare s.gens
 base:Un X.fs X.ex X.H₀ H X.s₀.heap s.heap
 loc:∃m,s.heap.Ns X.env.locals m/\∀(i:Nat)(x:Str)(v:V),X.N[i]? = some x->σ[i]? = some (some v)->Vis X.env.scope x->∃u,zBn v u/\zJw X.env s.heap m x u
 cell:∀x c,X.env.cells.lookup x=some c->∃v,s.heap.IsCell c v
 free:H X.env.locals=none
 freeC:∀x c,X.env.cells.lookup x=some c->H c=none
 pin:∀p∈X.pn++pins,s.heap.get? p.1=some p.2/\H p.1=none/\p.1≠X.env.locals/\p.1∉X.fs/\∀v,p.2.data ≠ .cell v
 hok:HOk X.prog X.w H s.heap
 len:σ.length=X.N.length
section
variable {X:Cx}{pins:List (Addr×Obj)}{σ:List (Option V)}{H H':Hp}{s:Shared}{h':Heap}
theorem Cx.Ok.nofr (ok:X.Ok){b:Addr}{o:Obj}(e:X.base.get? b=some o):b∉X.fs:=fun hb=>by
 have:=(ok.funs.mem hb).1
 rw[e] at this;cases this
theorem Inv.bs (I:Inv X pins σ H s):∀b o,X.base.get? b=some o->s.heap.get? b=some o/\H b=none:=fun b o e=>
 ⟨I.base.keep b o (I.ok.bs b o e).1 (I.ok.bs b o e).2 (I.ok.nofr e) (I.ok.noex b o e),I.base.free b o (I.ok.bs b o e).1 (I.ok.bs b o e).2 (I.ok.noex b o e)⟩
theorem Inv.bk (I:Inv X pins σ H s):∀b o,X.base.get? b=some o->s.heap.get? b=some o:=fun b o e=>(I.bs b o e).1
theorem Inv.mod (I:Inv X pins σ H s):Mod X.K X.mg X.base:=I.ok.mod
theorem Inv.kIn (I:Inv X pins σ H s):X.K.In s.heap:=I.ok.mod.kin.keeps I.bk
theorem Inv.fr (I:Inv X pins σ H s):∃m,Fr X.base X.env.locals s.heap m:=
 let ⟨m,hn,_⟩:=I.loc
 ⟨m,hn,I.bk,zAf I.ok.bsz I.ok.above⟩
theorem Inv.lt (I:Inv X pins σ H s):X.env.locals<s.heap.objs.size:=let ⟨_,hn,_⟩:=I.loc;hn.lt
theorem Inv.sz (I:Inv X pins σ H s):X.s₀.heap.objs.size<=s.heap.objs.size:=zAf I.ok.above (zAl I.lt)
theorem Inv.nofs (I:Inv X pins σ H s){a:Addr}(h:s.heap.objs.size<=a):a∉X.fs:=fun hb=>by
 obtain⟨_,o,ho,_⟩:=I.ok.funs.mem hb
 exact absurd (zr (zU ho) (zAf I.sz h)) (zBe _)
theorem Inv.cne (I:Inv X pins σ H s):∀x c,X.env.cells.lookup x=some c->c≠X.env.locals:=fun x c e z=>by
 obtain⟨v,o,ho,hd⟩:=I.cell x c e
 obtain⟨m,⟨o',es,ep,ho',hd',_⟩,_⟩:=I.loc
 rw[z,ho'] at ho;cases ho;rw[hd'] at hd;cases hd
theorem Inv.funs (I:Inv X pins σ H s):s.heap.FunFrames X.base X.outer:=by
 have all:∀(l:List Env),(∀b∈frs l,b∈X.fs)->X.s₀.heap.FunFrames X.base l->s.heap.FunFrames X.base l:=by
  intro l
  induction l with
  | nil=>intro _ _;trivial
  | cons env r ih=>
   intro hs hl
   obtain⟨hk,⟨L,o,hf,hn,ho,hd⟩,hr⟩:=hl
   have hL:L∈X.fs:=hs L (by unfold frs;rw[zB2,hf];exact zY)
   obtain⟨sl,e⟩:=I.base.slot L o ho (I.ok.frf L hL) hL fun z=>I.ok.exfs L z hL
   exact⟨hk,⟨L,_,hf,hn,e,hd⟩,ih (fun b hb=>hs b (by unfold frs;rw[zB2,hf];exact zR _ hb)) hr⟩
 exact all X.outer (fun _ hb=>hb) I.ok.funs
theorem Inv.stack (I:Inv X pins σ H s):s.heap.FunFrames X.base X.stack:=by
 rcases I.ok.stk with e | ⟨e,hf⟩
 . rw[e];exact I.funs
 . rw[e]
   obtain⟨m,hn,_⟩:=I.loc
   refine .cons (by rw[I.ok.kind];decide) hf hn ?_ I.funs
   exact Heap.get?_none_of_le (zAf I.ok.bsz I.ok.above)
theorem Inv.stkSub (I:Inv X pins σ H s):∀b∈frs X.stack,b∈X.env.locals::X.fs:=fun b hb=>by
 rcases I.ok.stk with e | ⟨e,hf⟩
 . rw[e] at hb;exact zR _ hb
 . rw[e] at hb
   unfold frs at hb
   rw[zB2,hf] at hb
   exact hb
theorem Inv.stkFree (I:Inv X pins σ H s):∀b∈frs X.stack,H b=none:=fun b hb=>by
 rcases zT.mp (I.stkSub b hb) with e | hb
 . rw[e];exact I.free
 . obtain⟨_,o,ho,_⟩:=I.ok.funs.mem hb
   exact I.base.free b o ho (I.ok.frf b hb) fun z=>I.ok.exfs b z hb
theorem Inv.step {g':Array GenState}{t':Nat}{d':Drawn}{ch:List Addr}(I:Inv X pins σ H s)
 (hch:∀b∈ch,(b∈X.ex\/X.s₀.heap.objs.size<=b)/\b≠X.env.locals/\(∀x c,X.env.cells.lookup x=some c->c≠b)/\∀p∈X.pn++pins,p.1≠b)
 (keep:∀b o,b≠X.env.locals->b∉X.fs->b∉ch->s.heap.get? b=some o->H b=none->h'.get? b=some o)
 (slot:∀b o,b≠X.env.locals->b∈X.fs->b∉ch->s.heap.get? b=some o->H b=none->∃sl,h'.get? b=some { o with slots:=sl })(free:∀b o,b∉ch->s.heap.get? b=some o->H b=none->H' b=none)
 (there:∀b o,b∉ch->s.heap.get? b=some o->∃o',h'.get? b=some o')
 (tups:∀b xs,H b=some (.tup xs)->H' b=some (.tup xs))(frzs:∀b o u,H b=some (.frz o u)->H' b=some (.frz o u))(tbls:∀b ps,H b=some (.tbl ps)->∃more,H' b=some (.tbl (ps++more)))
 (ns:∀m,s.heap.Ns X.env.locals m->h'.Ns X.env.locals m)(hok:HOk X.prog X.w H' h')(hg:AllBare g') :
 Inv X pins σ H' { s with heap:=h',gens:=g',drawn:=d',toks:=t' }:=by
 have neL:∀b o,X.s₀.heap.get? b=some o->b≠X.env.locals:=fun b o e=>zh (zr (zU e) I.ok.above)
 have neC:∀b o,X.s₀.heap.get? b=some o->b∉X.ex->b∉ch:=fun b o e hx hb=>by
  rcases (hch b hb).1 with z | z
  . exact hx z
  . exact absurd (zr (zU e) z) (zBe _)
 have cellK:∀x c,X.env.cells.lookup x=some c->∀v,s.heap.IsCell c v->h'.IsCell c v:=fun x c e v ⟨o,ho,hd⟩=>by
  have nch:c∉ch:=fun z=>(hch c z).2.2.1 x c e rfl
  by_cases hc:c∈X.fs
  . obtain⟨sl,q⟩:=slot c o (I.cne x c e) hc nch ho (I.freeC x c e)
    exact⟨_,q,hd⟩
  . exact⟨o,keep c o (I.cne x c e) hc nch ho (I.freeC x c e),hd⟩
 refine⟨I.ok,I.os,hg,⟨fun b o e n hb hx=>?_,fun b o e n hb hx=>?_,fun b o e n hx=>?_,fun b o e hx=>?_,fun b xs e=>tups b xs (I.base.tups b xs e),fun b o xs e=>frzs b o xs (I.base.frzs b o xs e),fun b ps e=>?_⟩,?_,fun x c e=>?_,?_,fun x c e=>?_,fun p hp=>?_,hok,I.len⟩
 . exact keep b o (neL b o e) hb (neC b o e hx) (I.base.keep b o e n hb hx) (I.base.free b o e n hx)
 . obtain⟨sl,e1⟩:=I.base.slot b o e n hb hx
   obtain⟨sl',e2⟩:=slot b _ (neL b o e) hb (neC b o e hx) e1 (I.base.free b o e n hx)
   exact⟨sl',e2⟩
 . obtain⟨o',e1⟩:=I.base.there b o e hx
   exact free b o' (neC b o e hx) e1 (I.base.free b o e n hx)
 . obtain⟨o',e1⟩:=I.base.there b o e hx
   exact there b o' (neC b o e hx) e1
 . obtain⟨m1,e1⟩:=I.base.tbls b ps e
   obtain⟨m2,e2⟩:=tbls b _ e1
   exact⟨m1++m2,by rw[e2,Array.append_assoc]⟩
 . obtain⟨m,hn,hl⟩:=I.loc
   refine⟨m,ns m hn,fun i x v e1 e2 e3=>?_⟩
   obtain⟨u,r,l⟩:=hl i x v e1 e2 e3
   refine⟨u,r,?_⟩
   rcases l with l | ⟨k,c,e,z⟩
   . exact .inl l
   . exact .inr ⟨k,c,e,cellK x c e _ z⟩
 . obtain⟨v,z⟩:=I.cell x c e
   exact⟨v,cellK x c e v z⟩
 . obtain⟨m,⟨o,_,_,ho,_⟩,_⟩:=I.loc
   exact free _ o (fun z=>(hch _ z).2.1 rfl) ho I.free
 . obtain⟨v,o,ho,hd⟩:=I.cell x c e
   exact free c o (fun z=>(hch c z).2.2.1 x c e rfl) ho (I.freeC x c e)
 . obtain⟨e,n,ne,nf,d⟩:=I.pin p hp
   have nch:p.1∉ch:=fun z=>(hch p.1 z).2.2.2 p hp rfl
   exact⟨keep p.1 p.2 ne nf nch e n,free p.1 p.2 nch e n,ne,nf,d⟩
theorem Inv.un {t':Nat}(I:Inv X pins σ H s)(u:Un X.fs [] H H' s.heap h')(hok:HOk X.prog X.w H' h'):Inv X pins σ H' { s with heap:=h',toks:=t' }:=by
 obtain⟨m,⟨o,es,ep,ho,r⟩,_⟩:=id I.loc
 obtain⟨sl,hL⟩:=u.any ho I.free (by simp)
 exact I.step (g':=s.gens) (d':=s.drawn) (ch:=[]) (fun _ z=>nomatch z) (fun b o _ hb _ e n=>u.keep b o e n hb (by simp)) (fun b o _ hb _ e n=>u.slot b o e n hb (by simp)) (fun b o _ e n=>u.free b o e n (by simp)) (fun b o _ e=>u.there b o e (by simp)) u.tups u.frzs u.tbls (fun m' hm=>by
  obtain⟨o',es',ep',ho',r'⟩:=hm
  rw[ho] at ho';cases ho'
  exact⟨_,es',ep',hL,r'⟩) hok I.bare
theorem Inv.call {g':Array GenState}{t':Nat}{d':Drawn}{ch:List Addr}(I:Inv X pins σ H s)(u:Un (frs X.stack) ch H H' s.heap h')(hok:HOk X.prog X.w H' h')(hg:AllBare g')
 (hch:∀b∈ch,(b∈X.ex\/X.s₀.heap.objs.size<=b)/\b≠X.env.locals/\(∀x c,X.env.cells.lookup x=some c->c≠b)/\∀p∈X.pn++pins,p.1≠b) :
 Inv X pins σ H' { s with heap:=h',gens:=g',drawn:=d',toks:=t' }:=by
 obtain⟨m,⟨o,es,ep,ho,r⟩,_⟩:=id I.loc
 obtain⟨sl,hL⟩:=u.any ho I.free fun z=>(hch _ z).2.1 rfl
 exact I.step (ch:=ch) hch (fun b o hL hb hc e n=>u.keep b o e n (fun z=>(zT.mp (I.stkSub b z)).elim hL hb) hc) (fun b o _ _ hc e n=>u.any e n hc) (fun b o hc e n=>u.free b o e n hc) (fun b o hc e=>u.there b o e hc) u.tups u.frzs u.tbls (fun m' hm=>by
  obtain⟨o',es',ep',ho',r'⟩:=hm
  rw[ho] at ho';cases ho'
  exact⟨_,es',ep',hL,r'⟩) hok hg
theorem Inv.turned {t':Nat}{it:Addr}(I:Inv X pins σ H s)(k:∀b o,b≠it->s.heap.get? b=some o->h'.get? b=some o)(hn:H it=none)(hL:it≠X.env.locals)
 (h1:it∈X.ex\/X.s₀.heap.objs.size<=it)(h2:∀x c,X.env.cells.lookup x=some c->c≠it)(h3:∀p∈X.pn++pins,p.1≠it):Inv X pins σ H { s with heap:=h',toks:=t' }:=by
 have nit:∀b u,H b=some u->b≠it:=fun b u e z=>by rw[z,hn] at e;cases e
 refine I.step (g':=s.gens) (d':=s.drawn) (ch:=[it]) (fun b hb=>?_) (fun b o _ _ hc e _=>k b o (fun z=>hc (by simp[z])) e) (fun b o _ _ hc e _=>⟨o.slots,k b o (fun z=>hc (by simp[z])) e⟩) (fun _ _ _ _ n=>n)
  (fun b o hc e=>⟨o,k b o (fun z=>hc (by simp[z])) e⟩) (fun _ _ e=>e) (fun _ _ _ e=>e) (fun b ps e=>⟨#[],by rw[e];simp⟩) (fun m hm=>?_) (fun b u e=>?_) I.bare
 . have e:b=it:=by simpa using hb
   subst e
   exact⟨h1,hL,h2,h3⟩
 . obtain⟨o,es,ep,ho,r⟩:=hm
   exact⟨o,es,ep,k _ o (Ne.symm hL) ho,r⟩
 . refine (I.hok b u e).stay (fun c v hc q=>k c v ?_ q) (fun _ q=>q) fun _ _ q=>q
   rcases hc with z | z
   . rw[z];exact nit b u e
   . exact nit c _ z
theorem Inv.tok (I:Inv X pins σ H s)(t:Nat):Inv X pins σ H { s with toks:=t }:=I.un (h':=s.heap) (t':=t) Un.refl I.hok
theorem Inv.kept {t':Nat}(I:Inv X pins σ H s)(k:∀b u,s.heap.get? b=some u->h'.get? b=some u):Inv X pins σ H { s with heap:=h',toks:=t' }:=I.un (Un.kept k) (I.hok.kept k)
theorem Inv.laid {a:Addr}{o:HO}{t':Nat}(I:Inv X pins σ H s)(k:∀b u,s.heap.get? b=some u->h'.get? b=some u)(hp:s.heap.objs.size<=a)(new:zBP X.prog X.w (upd H a o) h' a o) :
 Inv X pins σ (upd H a o) { s with heap:=h',toks:=t' }:=I.un (Un.laid k hp (I.hok.fresh hp)) (I.hok.laid k hp new)
theorem Inv.write {x e:Addr}{o:HO}{t':Nat}(I:Inv X pins σ H s)(mu:Mut (H x))(he:e=x\/H e=some (.own x))(k:∀b u,b≠e->s.heap.get? b=some u->h'.get? b=some u)(heo:∃u,h'.get? e=some u)
 (new:zBP X.prog X.w (upd H x o) h' x o):Inv X pins σ (upd H x o) { s with heap:=h',toks:=t' }:=I.un (Un.write mu he k heo) (I.hok.write mu he k heo new)
theorem Inv.weak {σ':List (Option V)}(I:Inv X pins σ H s)(hl:σ'.length=σ.length)(w:∀(i:Nat) v,σ'[i]? = some (some v)->σ[i]? = some (some v)):Inv X pins σ' H s:=
 ⟨I.ok,I.os,I.bare,I.base,let ⟨m,hn,hl'⟩:=I.loc;⟨m,hn,fun i x v e1 e2 e3=>hl' i x v e1 (w i v e2) e3⟩,I.cell,I.free,I.freeC,I.pin,I.hok,hl.trans I.len⟩
theorem Inv.pins_of {pins':List (Addr×Obj)}(I:Inv X pins σ H s)(h:∀p∈pins',s.heap.get? p.1=some p.2/\H p.1=none/\p.1≠X.env.locals/\p.1∉X.fs/\∀v,p.2.data ≠ .cell v):Inv X pins' σ H s:=
 ⟨I.ok,I.os,I.bare,I.base,I.loc,I.cell,I.free,I.freeC,fun p hp=>(zK.mp hp).elim (fun z=>I.pin p (List.mem_append_left _ z)) (h p),I.hok,I.len⟩
theorem zHT {N:List Str}(hN:N.Nodup){i j:Nat}{x:Str}(a:N[i]? = some x)(b:N[j]? = some x):i=j:=by
 obtain⟨h1,e1⟩:=zL.mp a
 obtain⟨h2,e2⟩:=zL.mp b
 exact (List.getElem_inj hN).mp (e1.trans e2.symm)
theorem zIU {M:Model}{A:Around}{E:Value->Shared->Prop}{i:Nat}{x:Str}{v:V}{u:Value}{Q:Unit->Shared->Prop}(I:Inv X pins σ H s)(hN:X.N.Nodup)(hi:X.N[i]? = some x)(hx:Loc X.env.scope x)(r:zBn v u)
 (h:∀s',Inv X pins (σ.set i (some v)) H s'->(∃a,Heap.SameBut a s.heap s'.heap/\(a=X.env.locals\/X.env.cells.lookup x=some a))->Q () s')(hf:X.fn x=true\/X.env.scope.names.lookup x=some .local:=by first | exact .inl rfl | exact .inr rfl | assumption):wpAny M A (storeName X.env x u) Q E s:=by
 obtain⟨m,hn,hl⟩:=id I.loc
 have hcls:(X.env.scope.kind == .class || (X.env.scope.kind == .module && X.env.locals != X.env.globals))=false:=by rw[I.ok.kind];rfl
 have hiσ:i<σ.length:=by rw[I.len];exact (zL.mp hi).1
 have cne:=I.cne
 have tracked:∀{a:Addr}{h':Heap},(∃o,s.heap.get? a=some o/\H a=none)->Heap.SameBut a s.heap h'->HOk X.prog X.w H h':=fun {a h'} ha hs b ob e=>by
  obtain⟨_,_,hfree⟩:=ha
  refine (I.hok b ob e).stay (fun c w' hc q=>(hs.2 c ?_).trans q) (fun _ q=>q) fun _ _ q=>q
  rintro rfl
  rcases hc with rfl | hc
  . rw[hfree] at e;cases e
  . rw[hfree] at hc;cases hc
 rcases hx with hk | hk
 . refine wpAny_storeName_local hk hn (fun h' hn' hs=>?_) hcls
   obtain⟨oL,_,_,hoL,_⟩:=id hn
   refine h _ ⟨I.ok,I.os,I.bare,⟨fun b o e n hb hx=>?_,fun b o e n hb hx=>?_,I.base.free,fun b o e hx=>?_,I.base.tups,I.base.frzs,I.base.tbls⟩,⟨_,hn',fun j y v' e1 e2 e3=>?_⟩,fun y c e=>?_,I.free,I.freeC,fun p hp=>?_,tracked ⟨oL,hoL,I.free⟩ hs,by simpa using I.len⟩ ⟨_,hs,.inl rfl⟩
   . exact (hs.2 b (zh (zr (zU e) I.ok.above))).trans (I.base.keep b o e n hb hx)
   . obtain⟨sl,e1⟩:=I.base.slot b o e n hb hx
     exact⟨sl,(hs.2 b (zh (zr (zU e) I.ok.above))).trans e1⟩
   . obtain⟨o',e1⟩:=I.base.there b o e hx
     exact⟨o',(hs.2 b (zh (zr (zU e) I.ok.above))).trans e1⟩
   . by_cases hj:j=i
     . subst hj
       rw[hi] at e1;cases e1
       rw[List.getElem?_set_self hiσ] at e2
       cases e2
       exact⟨u,r,.inl ⟨hk,by simp⟩⟩
     . rw[List.getElem?_set_ne (Ne.symm hj)] at e2
       obtain⟨u',r',q⟩:=hl j y v' e1 e2 e3
       refine⟨u',r',?_⟩
       rcases q with ⟨k,e⟩ | ⟨k,c,e,z⟩
       . refine .inl ⟨k,?_⟩
         have:y≠x:=fun e=>hj (zHT hN e1 (e ▸ hi))
         simp[this,e]
       . exact .inr ⟨k,c,e,z.sameBut hs (cne y c e)⟩
   . obtain⟨w',z⟩:=I.cell y c e
     exact⟨w',z.sameBut hs (cne y c e)⟩
   . obtain⟨e,n,ne,nf,d⟩:=I.pin p hp
     exact⟨(hs.2 p.1 ne).trans e,n,ne,nf,d⟩
 . have hfn:X.fn x=true:=by
    rcases hf with z | z
    . exact z
    . rw[z] at hk;cases hk
   obtain⟨c,hc⟩:=I.ok.has x (.inl hk)
   obtain⟨w',z⟩:=I.cell x c hc
   refine wpAny_storeName_cell I.ok.kind hk hc z (fun h' hc' hs=>?_)
   obtain⟨oc,hoc,hocd⟩:=id z
   refine h { s with heap:=h' } ⟨I.ok,I.os,I.bare,⟨fun b o e n hb hx=>?_,fun b o e n hb hx=>?_,I.base.free,fun b o e hx=>?_,I.base.tups,I.base.frzs,I.base.tbls⟩,⟨m,hn.sameBut hs (Ne.symm (cne x c hc)),fun j y v' e1 e2 e3=>?_⟩,fun y c' e=>?_,I.free,I.freeC,fun p hp=>?_,tracked ⟨oc,hoc,I.freeC x c hc⟩ hs,by simpa using I.len⟩ ⟨c,hs,.inr hc⟩
   . exact (hs.2 b (zh (zr (zU e) (I.ok.cab x c hfn hc)))).trans (I.base.keep b o e n hb hx)
   . obtain⟨sl,e1⟩:=I.base.slot b o e n hb hx
     exact⟨sl,(hs.2 b (zh (zr (zU e) (I.ok.cab x c hfn hc)))).trans e1⟩
   . obtain⟨o',e1⟩:=I.base.there b o e hx
     exact⟨o',(hs.2 b (zh (zr (zU e) (I.ok.cab x c hfn hc)))).trans e1⟩
   . by_cases hj:j=i
     . subst hj
       rw[hi] at e1;cases e1
       rw[List.getElem?_set_self hiσ] at e2
       cases e2
       exact⟨u,r,.inr ⟨.inl hk,c,hc,hc'⟩⟩
     . rw[List.getElem?_set_ne (Ne.symm hj)] at e2
       obtain⟨u',r',q⟩:=hl j y v' e1 e2 e3
       refine⟨u',r',?_⟩
       rcases q with q | ⟨k,c',e,z'⟩
       . exact .inl q
       . refine .inr ⟨k,c',e,z'.sameBut hs ?_⟩
         rintro rfl
         exact hj (zHT hN e1 (I.ok.inj _ _ _ e hc ▸ hi))
   . by_cases hcc:c'=c
     . subst hcc;exact⟨_,hc'⟩
     . obtain⟨w2,z2⟩:=I.cell y c' e
       exact⟨w2,z2.sameBut hs hcc⟩
   . obtain⟨e,n,ne,nf,d⟩:=I.pin p hp
     refine⟨(hs.2 p.1 ?_).trans e,n,ne,nf,d⟩
     intro q
     rw[q,hoc] at e
     have q':oc=p.2:=zf e
     exact d w' (by rw[<-q'];exact hocd)
theorem zD3 {M:Model}{A:Around}{E:Value->Shared->Prop}{i:Nat}{x:Str}{v:V}{u:Value}{Q:Unit->Shared->Prop}(I:Inv X pins σ H s)(hN:X.N.Nodup)(hi:X.N[i]? = some x)(hx:Loc X.env.scope x)(r:zBn v u)
 (h:∀s',Inv X pins (σ.set i (some v)) H s'->Q () s')(hf:X.fn x=true\/X.env.scope.names.lookup x=some .local:=by first | exact .inl rfl | exact .inr rfl | assumption):wpAny M A (storeName X.env x u) Q E s:=
 zIU I hN hi hx r (fun s' I' _=>h s' I') hf
theorem Inv.call' {s':Shared}{ch:List Addr}(I:Inv X pins σ H s)(ho:s'.os=s.os)(u:Un (frs X.stack) ch H H' s.heap s'.heap)(hok:HOk X.prog X.w H' s'.heap)(hg:AllBare s'.gens)
 (hch:∀b∈ch,(b∈X.ex\/X.s₀.heap.objs.size<=b)/\b≠X.env.locals/\(∀x c,X.env.cells.lookup x=some c->c≠b)/\∀p∈X.pn++pins,p.1≠b):Inv X pins σ H' s':=by
 obtain⟨h',g',d',t',o'⟩:=s'
 have e:o'=s.os:=ho
 subst e
 exact I.call (g':=g') (t':=t') (d':=d') u hok hg hch
end
noncomputable abbrev XK:=Value->Option Addr->Hp->Prop
noncomputable abbrev St:=List (Option V)
noncomputable abbrev VK:=V->Hp->Prop
noncomputable abbrev TE:=St->Hp->VK->Prop
noncomputable abbrev TT:=St->Hp->(Bool->Hp->Prop)->Prop
noncomputable abbrev TA:=St->Hp->(List V->Hp->Prop)->Prop
structure zJ2 where
 nx:St->Hp->Prop
 rt:VK
 bk:St->Hp->Prop:=fun _ _=>False
 ct:St->Hp->Prop:=fun _ _=>False
noncomputable abbrev TS:=zJ2->St->Hp->Prop
noncomputable def EP (X:Cx)(pins:List (Addr×Obj))(σ:St)(Q:VK)(u:Value)(s':Shared):Prop:=∃v H',Inv X pins σ H' s'/\zBn v u/\Q v H'
noncomputable def TP (X:Cx)(pins:List (Addr×Obj))(σ:St)(Q:Bool->Hp->Prop)(b:Bool)(s':Shared):Prop:=∃H',Inv X pins σ H' s'/\Q b H'
noncomputable def AP (X:Cx)(pins:List (Addr×Obj))(σ:St)(Q:List V->Hp->Prop)(us:List Value)(s':Shared):Prop:=∃vs H',Inv X pins σ H' s'/\zBB vs us/\Q vs H'
noncomputable def SP (X:Cx)(pins:List (Addr×Obj))(D:zJ2)(f:Flow)(s':Shared):Prop:=
 match f with
 | .next=>∃ σ' H',Inv X pins σ' H' s'/\D.nx σ' H'
 | .brk=>∃ σ' H',Inv X pins σ' H' s'/\D.bk σ' H'
 | .cont=>∃ σ' H',Inv X pins σ' H' s'/\D.ct σ' H'
 | .ret u=>∃v σ' H',Inv X pins σ' H' s'/\zBn v u/\D.rt v H'
noncomputable def PE (X:Cx)(e:Expr)(t:TE):Prop:=
 ∀(pins:List (Addr×Obj))(s:Shared)(σ:St)(H:Hp)(Q:VK),Inv X pins σ H s->t σ H Q->wpAny (model X.prog X.w) X.A (eval e X.env) (EP X pins σ Q) X.xe s
noncomputable def PT (X:Cx)(e:Expr)(t:TT):Prop:=
 ∀(pins:List (Addr×Obj))(s:Shared)(σ:St)(H:Hp)(Q:Bool->Hp->Prop),Inv X pins σ H s->t σ H Q->wpAny (model X.prog X.w) X.A (isTrue e X.env (eval e X.env)) (TP X pins σ Q) X.xe s
noncomputable def PW (X:Cx)(e:Expr)(t:TT):Prop:=
 ∀(whole:Sem Value)(pins:List (Addr×Obj))(s:Shared)(σ:St)(H:Hp)(Q:Bool->Hp->Prop),Inv X pins σ H s->t σ H Q->wpAny (model X.prog X.w) X.A (isTrue e X.env whole) (TP X pins σ Q) X.xe s
theorem PW.pt {X:Cx}{e:Expr}{t:TT}(h:PW X e t):PT X e t:=h _
noncomputable def PA (X:Cx)(es:List Expr)(t:TA):Prop:=
 ∀(pos:Pos)(pins:List (Addr×Obj))(s:Shared)(σ:St)(H:Hp)(Q:List V->Hp->Prop),Inv X pins σ H s->t σ H Q->wpAny (model X.prog X.w) X.A (spliced (backTo pos (starEach es X.env))) (AP X pins σ Q) X.xe s
noncomputable def PS (X:Cx)(st:Stmt)(t:TS):Prop:=
 ∀(pins:List (Addr×Obj))(s:Shared)(σ:St)(H:Hp)(D:zJ2),Inv X pins σ H s->t D σ H->wpAny (model X.prog X.w) X.A (exec st X.env) (SP X pins D) X.xe s
noncomputable def PSs (X:Cx)(st:List Stmt)(t:TS):Prop:=
 ∀(pins:List (Addr×Obj))(s:Shared)(σ:St)(H:Hp)(D:zJ2),Inv X pins σ H s->t D σ H->wpAny (model X.prog X.w) X.A (execs st X.env) (SP X pins D) X.xe s
theorem thn {α:Type}{t:Sem α}{Q Q':α->Shared->Prop}{M:Model}{A:Around}{E:Value->Shared->Prop}{s:Shared}(h:wpAny M A t Q E s)(hQ:∀a s,Q a s->Q' a s):wpAny M A t Q' E s:=zAO h hQ fun _ _ x=>x
end L2
namespace L2
open PySem PySem.Spec PyProof.Rows
section
variable {X:Cx}
noncomputable def tVar (i:Nat):TE:=fun σ H Q=>∃v,σ[i]? = some (some v)/\Q v H
noncomputable def tC (v:V):TE:=fun _ H Q=>Q v H
theorem pe_var {i:Nat}{x:Str}{pos:Pos}(hN:X.N[i]? = some x)(hv:Vis X.env.scope x)(hd:(x==("__debug__" : Str))=false:=by decide) (hcd:(x==("__classdict__" : Str))=false:=by decide):PE X (.Name x pos) (tVar i):=by
 intro pins s σ H Q I h
 obtain⟨v,e,h⟩:=h
 obtain⟨m,hn,hl⟩:=I.loc
 obtain⟨u,r,l⟩:=hl i x v hN e hv
 have fin:EP X pins σ Q u s:=⟨v,H,I,r,h⟩
 rcases l with ⟨hk,hm⟩ | ⟨hk,c,hc,hcell⟩
 . exact wpAny_Name (wpAny_loadName_local I.ok.kind hk hn hm fin) hd
 . rcases hk with hk | hk
   . exact wpAny_Name (wpAny_loadName_cell I.ok.kind hk hc hcell fin) hd
   . exact wpAny_Name (wpAny_loadName_free I.ok.kind hk hc hcell fin hcd) hd
theorem ze {i j pos}:PE X (.Constant (.int i) j pos) (tC (.int i)):=fun _ _ _ H _ I h=>wpAny_Constant_int ⟨.int i,H,I.tok _,⟨_,rfl⟩,h⟩
theorem zEJ {b j pos}:PE X (.Constant (.bool b) j pos) (tC (.bl b)):=fun _ _ _ H _ I h=>Constant_bool ⟨.bl b,H,I,rfl,h⟩
theorem zCT {j pos}:PE X (.Constant .none j pos) (tC .non):=fun _ _ _ H _ I h=>Constant_none ⟨.non,H,I,rfl,h⟩
theorem zHO {x j pos}:PE X (.Constant (.str x) j pos) (tC (.str x)):=fun _ _ _ H _ I h=>Calls.Constant_str ⟨.str x,H,I.tok _,⟨_,rfl⟩,h⟩
noncomputable def Gl (X:Cx)(x:Str):Prop:=X.env.kindOf x=some .globalImplicit
theorem zES {E:Value->Shared->Prop}{pins:List (Addr×Obj)}{s:Shared}{σ:St}{H:Hp}{x:Str}{u:Value}{pos:Pos}{Q:Value->Shared->Prop}(I:Inv X pins σ H s)(hg:Gl X x)(hm:X.mg x=some u)(h:Q u s)
 (hd:(x==("__debug__" : Str))=false:=by decide):wpAny (model X.prog X.w) X.A (eval (.Name x pos) X.env) Q E s:=
 Calls.Name_function_global I.ok.kind hg (Calls.loadGlobal_global (by rw[I.ok.glob];exact I.mod.glob.keeps I.bk) hm h) hd
theorem zCx {E:Value->Shared->Prop}{pins:List (Addr×Obj)}{s:Shared}{σ:St}{H:Hp}{x:Str}{u:Value}{pos:Pos}{Q:Value->Shared->Prop}(I:Inv X pins σ H s)(hg:Gl X x)(hm:X.mg x=none)(hv:bootBuiltins x=some u)(h:Q u s)
 (hn:x ≠ "__name__" := by decide) (hd:(x==("__debug__" : Str))=false:=by decide):wpAny (model X.prog X.w) X.A (eval (.Name x pos) X.env) Q E s:=by
 obtain⟨mb,h1,h2⟩:=I.mod.blt
 exact Calls.Name_function_global I.ok.kind hg (Calls.loadGlobal_builtin (by rw[I.ok.glob];exact I.mod.glob.keeps I.bk) hm (by rw[I.ok.blt];exact h1.keeps I.bk) ((h2 x hn).trans hv) h) hd
theorem zLn {x:Str}{v:V}{u:Value}{pos:Pos}(hg:Gl X x)(hm:X.mg x=some u)(r:zBn v u)(hd:(x==("__debug__" : Str))=false:=by decide):PE X (.Name x pos) (tC v):=
 fun _ _ _ H _ I h=>zES I hg hm ⟨v,H,I,r,h⟩ hd
variable {a b:Expr}{ta tb:TE}{pos:Pos}
noncomputable def PC (X:Cx)(op:CmpOp)(a b:Expr)(t:TE):Prop:=
 ∀(pins:List (Addr×Obj))(s:Shared)(σ:St)(H:Hp)(Q:VK),Inv X pins σ H s->t σ H Q ->
  wpAny (model X.prog X.w) X.A (eval a X.env) (fun v s₁=>wpAny (model X.prog X.w) X.A (eval b X.env) (fun u s₂=>wpAny (model X.prog X.w) X.A (compareOp op v u) (EP X pins σ Q) X.xe s₂) X.xe s₁) X.xe s
noncomputable def tB (t:TE):TT:=fun σ H Q=>t σ H fun x H1=>∃c,x = .bl c/\Q c H1
theorem pt_cmp {op:CmpOp}{t:TE}(h:PC X op a b t)(h1:behindInMarks op b=false:=by first | exact nobehind _ (by decide) (by decide) | rfl):PT X (.Compare a [op] [b] pos) (tB t):=by
 intro pins s σ H Q I hw
 refine wpAny_isTrue_Compare1 (thn (h pins s σ H _ I hw) fun v s1 h1=>thn h1 fun u s2 h2=>thn h2 fun c s3 ⟨x,H1,I1,r1,q1⟩=>?_) h1
 obtain⟨d,rfl,q⟩:=q1
 cases r1
 exact zA9 ⟨H1,I1,q⟩
theorem zCb {e:Expr}{t:TE}(h:PE X e t)(he:∀whole,isTrue e X.env whole=(do let v <-whole;standAt e.pos;holding [v] (truthy v)):=by intro _;rfl):PT X e (tB t):=by
 intro pins s σ H Q I hw
 refine isTrue_plain (thn (h pins s σ H _ I hw) fun v s1 ⟨x,H1,I1,r1,q1⟩=>?_) (he _)
 obtain⟨d,rfl,q⟩:=q1
 cases r1
 exact zA9 ⟨H1,I1,q⟩
variable {tA tB':TT}{rest:List Expr}
noncomputable def tAnd (t u:TT):TT:=fun σ H Q=>t σ H fun c H1=>if c=true then u σ H1 Q else Q false H1
noncomputable def tOr (t u:TT):TT:=fun σ H Q=>t σ H fun c H1=>if c=true then Q true H1 else u σ H1 Q
noncomputable def tNot (t:TT):TT:=fun σ H Q=>t σ H fun c H1=>Q (!c) H1
theorem zCg (ha:PT X a tA):PW X (.BoolOp .And [a] pos) tA:=by
 intro wh pins s σ H Q I h
 refine isTrue_and (thn (ha pins s σ H Q I h) fun c s1 e=>?_)
 cases c with
 | true=>exact isTrue_and_nil e
 | false=>exact e
theorem zEz (ha:PT X a tA):PW X (.BoolOp .Or [a] pos) tA:=by
 intro wh pins s σ H Q I h
 refine isTrue_or (thn (ha pins s σ H Q I h) fun c s1 e=>?_)
 cases c with
 | false=>exact isTrue_or_nil e
 | true=>exact e
theorem zDG (ha:PT X a tA)(hb:PW X (.BoolOp .And (b::rest) pos) tB'):PW X (.BoolOp .And (a::b::rest) pos) (tAnd tA tB'):=by
 intro wh pins s σ H Q I h
 refine isTrue_and (thn (ha pins s σ H _ I h) fun c s1 ⟨H1,I1,q1⟩=>?_)
 cases c with
 | true=>exact hb wh pins s1 σ H1 Q I1 q1
 | false=>exact⟨H1,I1,q1⟩
theorem zFt (ha:PT X a tA)(hb:PW X (.BoolOp .Or (b::rest) pos) tB'):PW X (.BoolOp .Or (a::b::rest) pos) (tOr tA tB'):=by
 intro wh pins s σ H Q I h
 refine isTrue_or (thn (ha pins s σ H _ I h) fun c s1 ⟨H1,I1,q1⟩=>?_)
 cases c with
 | true=>exact⟨H1,I1,q1⟩
 | false=>exact hb wh pins s1 σ H1 Q I1 q1
theorem zCw (ha:PT X a tA):PT X (.UnaryOp .Not a pos) (tNot tA):=by
 intro pins s σ H Q I h
 exact isTrue_not (ha pins s σ H (fun c H1=>Q (!c) H1) I h)
noncomputable def tAndV (ta tb:TE):TE:=fun σ H Q=>ta σ H fun x H1=>∃c,x = .bl c/\if c=true then tb σ H1 Q else Q (.bl false) H1
noncomputable def tNotV (ta:TE):TE:=fun σ H Q=>ta σ H fun x H1=>∃c,x = .bl c/\Q (.bl (!c)) H1
theorem zEI {op} {t:TE}(h:PE X a t):PE X (.BoolOp op [a] pos) t:=fun pins s σ H Q I hw=>BoolOp_one (h pins s σ H Q I hw)
theorem zDW (ha:PE X a ta)(hb:PE X (.BoolOp .And (b::rest) pos) tb):PE X (.BoolOp .And (a::b::rest) pos) (tAndV ta tb):=by
 intro pins s σ H Q I h
 refine BoolOp_and (thn (ha pins s σ H _ I h) fun v s1 ⟨x,H1,I1,r1,q1⟩=>?_)
 obtain⟨c,rfl,q1⟩:=q1
 cases r1
 refine zA9 ?_
 cases c with
 | true=>exact hb pins s1 σ H1 Q I1 q1
 | false=>exact⟨.bl false,H1,I1,rfl,q1⟩
theorem pe_not (ha:PE X a ta):PE X (.UnaryOp .Not a pos) (tNotV ta):=by
 intro pins s σ H Q I h
 refine UnaryOp_ (thn (ha pins s σ H _ I h) fun v s1 ⟨x,H1,I1,r1,q1⟩=>?_)
 obtain⟨c,rfl,q1⟩:=q1
 cases r1
 exact not_of (zA9 ⟨.bl (!c),H1,I1,rfl,q1⟩)
noncomputable def tIf (t:TT)(ta tb:TE):TE:=fun σ H Q=>t σ H fun c H1=>if c=true then ta σ H1 Q else tb σ H1 Q
theorem zKP {c:Expr}(hc:PT X c tA)(ha:PE X a ta)(hb:PE X b tb):PE X (.IfExp c a b pos) (tIf tA ta tb):=by
 intro pins s σ H Q I h
 refine wpAny_IfExp (thn (hc pins s σ H _ I h) fun d s1 ⟨H1,I1,q1⟩=>?_)
 cases d with
 | true=>exact ha pins s1 σ H1 Q I1 q1
 | false=>exact hb pins s1 σ H1 Q I1 q1
end
end L2
namespace L2
open PySem PySem.Spec PyProof.Rows
noncomputable def SqL (K:PySem.W.Frag)(H:Hp)(a:Addr)(xs:List V):Prop:=
 Rd H a (.lst xs) \/
  ∃(o:Obj)(its:Array Value)(n:Nat),K.lookup a=some o/\o.cls = .type "list" /\ o.dict=none/\o.data = .seq its n/\its.size<=sizeLine/\zBB xs its.toList
noncomputable def SqT (K:PySem.W.Frag)(H:Hp)(a:Addr)(xs:List V):Prop:=
 Rd H a (.tup xs) \/
  ∃(o:Obj)(its:Array Value)(n:Nat),K.lookup a=some o/\o.cls = .type "tuple" /\ o.data = .seq its n/\its.size<=sizeLine/\zBB xs its.toList
noncomputable def absV:Value->Option V
 | .none=>some .non
 | .bool b=>some (.bl b)
 | .int i _=>some (.int i)
 | .str x _=>some (.str x)
 | .bytes b _=>some (.byt b)
 | .float b _=>some (.flt b)
 | .ref a=>some (.ref a)
 | .type n=>some (.ty n)
 | _=>none
theorem zBn.abs {x:V}{u:Value}(r:zBn x u):absV u=some x:=by
 cases x with
 | non=>cases r;rfl
 | bl _=>cases r;rfl
 | int _=>obtain⟨t,rfl⟩:=r;rfl
 | str _=>obtain⟨t,rfl⟩:=r;rfl
 | byt _=>obtain⟨t,rfl⟩:=r;rfl
 | flt _=>obtain⟨t,rfl⟩:=r;rfl
 | ref _=>cases r;rfl
 | ty _=>cases r;rfl
theorem zBn.inj {x y:V}{u:Value}(r:zBn x u)(q:zBn y u):x=y:=zf (r.abs.symm.trans q.abs)
theorem zBB.inj:∀{xs ys:List V}{us:List Value},zBB xs us->zBB ys us->xs=ys
 | _,_,_,.nil,.nil=>rfl
 | _,_,_,.cons r t,.cons r' t'=>by rw[r.inj r',zBB.inj t t']
section
variable {X:Cx}{pins:List (Addr×Obj)}{σ:St}{H:Hp}{s:Shared}{a:Addr}{xs ys:List V}
theorem SqL.of {K:PySem.W.Frag}(h:H a=some (.lst xs)):SqL K H a xs:=.inl (.inl h)
theorem SqT.of {K:PySem.W.Frag}(h:H a=some (.tup xs)):SqT K H a xs:=.inl (.inl h)
theorem Inv.list (I:Inv X pins σ H s)(h:SqL X.K H a xs):∃its:List Value,zBB xs its/\PlainL s.heap a its.toArray/\xs.length<=sizeLine:=by
 rcases h with h | ⟨o,its,n,hk,hc,hd,hs,hz,r⟩
 . obtain⟨z,its,n,r,e⟩:=h.ok I.hok
   exact⟨its,r,⟨_,n,e,rfl,rfl,rfl⟩,z⟩
 . refine⟨its.toList,r,⟨o,n,I.kIn a o hk,hc,hd,by simpa using hs⟩,?_⟩
   have e:=r.length
   simp only[Array.length_toList] at e
   omega
theorem Inv.tuple (I:Inv X pins σ H s)(h:SqT X.K H a xs):∃its:List Value,zBB xs its/\IsTup s.heap a its.toArray/\xs.length<=sizeLine:=by
 rcases h with h | ⟨o,its,n,hk,hc,hs,hz,r⟩
 . obtain⟨⟨z,_⟩,its,r,p⟩:=h.ok I.hok
   exact⟨its,r,p,z⟩
 . refine⟨its.toList,r,⟨o,I.kIn a o hk,hc,n,by simpa using hs⟩,?_⟩
   have e:=r.length
   simp only[Array.length_toList] at e
   omega
theorem Inv.list_inj (I:Inv X pins σ H s)(h:SqL X.K H a xs)(h':SqL X.K H a ys):xs=ys:=by
 obtain⟨its,r,⟨o,n,e,_,_,d⟩,_⟩:=I.list h
 obtain⟨its',r',⟨o',n',e',_,_,d'⟩,_⟩:=I.list h'
 rw[e] at e';cases e'
 rw[d] at d'
 injection d' with d1 _
 have:its=its':=by simpa using congrArg Array.toList d1
 subst this
 exact r.inj r'
theorem Inv.tuple_inj (I:Inv X pins σ H s)(h:SqT X.K H a xs)(h':SqT X.K H a ys):xs=ys:=by
 obtain⟨its,r,⟨o,e,_,n,d⟩,_⟩:=I.tuple h
 obtain⟨its',r',⟨o',e',_,n',d'⟩,_⟩:=I.tuple h'
 rw[e] at e';cases e'
 rw[d] at d'
 injection d' with d1 _
 have:its=its':=by simpa using congrArg Array.toList d1
 subst this
 exact r.inj r'
end
noncomputable abbrev Cx.wish (X:Cx)(E:Value->Shared->Prop):Cx:={ X with xe:=E }
noncomputable abbrev Cx.nox (X:Cx):Cx:=X.wish fun _ _=>False
theorem Cx.Ok.wish {X:Cx}(ok:X.Ok)(E:Value->Shared->Prop):(X.wish E).Ok:=
 ⟨ok.mod,ok.kind,ok.glob,ok.blt,ok.above,ok.inj,ok.has,ok.cab,ok.hd,ok.frames,ok.stk,ok.exf,ok.bs,ok.bsz,ok.noex,ok.exfs,ok.funs,ok.frf⟩
theorem Cx.Ok.unwish {X:Cx}{E:Value->Shared->Prop}(ok:(X.wish E).Ok):X.Ok:=
 ⟨ok.mod,ok.kind,ok.glob,ok.blt,ok.above,ok.inj,ok.has,ok.cab,ok.hd,ok.frames,ok.stk,ok.exf,ok.bs,ok.bsz,ok.noex,ok.exfs,ok.funs,ok.frf⟩
section
variable {X:Cx}{pins:List (Addr×Obj)}{σ:St}{H:Hp}{s:Shared}{E:Value->Shared->Prop}
theorem Inv.wish (I:Inv X pins σ H s)(E:Value->Shared->Prop):Inv (X.wish E) pins σ H s:=⟨I.ok.wish E,I.os,I.bare,I.base,I.loc,I.cell,I.free,I.freeC,I.pin,I.hok,I.len⟩
theorem Inv.unwish (I:Inv (X.wish E) pins σ H s):Inv X pins σ H s:=⟨I.ok.unwish,I.os,I.bare,I.base,I.loc,I.cell,I.free,I.freeC,I.pin,I.hok,I.len⟩
theorem SP.unwish {D:zJ2}{f:Flow}{s':Shared}(h:SP (X.wish E) pins D f s'):SP X pins D f s':=by
 cases f with
 | next=>obtain⟨σ',H',I,q⟩:=h;exact⟨σ',H',I.unwish,q⟩
 | brk=>obtain⟨σ',H',I,q⟩:=h;exact⟨σ',H',I.unwish,q⟩
 | cont=>obtain⟨σ',H',I,q⟩:=h;exact⟨σ',H',I.unwish,q⟩
 | ret u=>obtain⟨v,σ',H',I,r,q⟩:=h;exact⟨v,σ',H',I.unwish,r,q⟩
theorem PSs.nox {st:List Stmt}{t:TS}(h:PSs X.nox st t):PSs X st t:=fun pins s σ H D I hw=>
 zAO (h pins s σ H D (I.wish _) hw) (fun _ _ q=>q.unwish) fun _ _ z=>False.elim z
end
section
variable {X:Cx}{st:Stmt}{rest:List Stmt}{t u:TS}{e:Expr}{te:TE}{pos:Pos}
noncomputable def tNext:TS:=fun D σ H=>D.nx σ H
noncomputable def tSeq (t u:TS):TS:=fun D σ H=>t { D with nx:=u D } σ H
theorem zAh:PSs X [] tNext:=fun _ _ σ H _ I h=>wpAny_execs_nil ⟨σ,H,I,h⟩
theorem zV (h1:PS X st t)(h2:PSs X rest u):PSs X (st::rest) (tSeq t u):=by
 intro pins s σ H D I h
 refine wpAny_execs_cons (thn (h1 pins s σ H { D with nx:=u D } I h) fun f s1 q=>?_)
 cases f with
 | next=>
  obtain⟨σ',H',I',q⟩:=q
  exact h2 pins s1 σ' H' D I' q
 | ret v=>exact q
 | brk=>exact q
 | cont=>exact q
theorem zm (h1:PS X st t):PSs X [st] t:=by
 intro pins s σ H D I h
 refine wpAny_execs_cons (thn (h1 pins s σ H D I h) fun f s1 q=>?_)
 cases f with
 | next=>exact wpAny_execs_nil q
 | ret v=>exact q
 | brk=>exact q
 | cont=>exact q
theorem Inv.quiet {pins:List (Addr×Obj)}{σ:St}{H:Hp}{s:Shared}(I:Inv X pins σ H s):interactive X.env=false:=by simp[interactive,I.ok.kind]
noncomputable def tDrop (te:TE):TS:=fun D σ H=>te σ H fun _ H1=>D.nx σ H1
theorem zCS (he:PE X e te)(hs:swapsWith e none pos.line X.env=pure false:=by rfl):PS X (.Expr e pos) (tDrop te):=by
 intro pins s σ H D I h
 exact wpAny_Expr_any (thn (he pins s σ H _ I h) fun v s1 ⟨x,H1,I1,r1,q1⟩=>⟨σ,H1,I1,q1⟩) I.quiet hs
noncomputable def tRet (te:TE):TS:=fun D σ H=>te σ H D.rt
theorem zAK (he:PE X e te):PS X (.Return (some e) pos) (tRet te):=by
 intro pins s σ H D I h
 exact wpAny_Return_some (thn (he pins s σ H _ I h) fun v s1 ⟨x,H1,I1,r1,q1⟩=>⟨x,σ,H1,I1,r1,q1⟩)
noncomputable def tIfS (c:TT)(t u:TS):TS:=fun D σ H=>c σ H fun b H1=>if b=true then t D σ H1 else u D σ H1
theorem zBr {c:Expr}{a b:List Stmt}{tc:TT}(hc:PT X c tc)(ha:PSs X a t)(hb:PSs X b u):PS X (.If c a b pos) (tIfS tc t u):=by
 intro pins s σ H D I h
 refine wpAny_If (thn (hc pins s σ H _ I h) fun d s1 ⟨H1,I1,q1⟩=>?_)
 cases d with
 | true=>exact ha pins s1 σ H1 D I1 q1
 | false=>exact hb pins s1 σ H1 D I1 q1
end
noncomputable abbrev TG:=V->St->Hp->(St->Hp->Prop)->Prop
noncomputable abbrev TGs:=List V->St->Hp->(St->Hp->Prop)->Prop
noncomputable def PG (X:Cx)(target:Expr)(t:TG):Prop:=
 ∀(pins:List (Addr×Obj))(s:Shared)(σ:St)(H:Hp)(v:V)(u:Value)(Q:St->Hp->Prop),Inv X pins σ H s->zBn v u->t v σ H Q ->
  wpAny (model X.prog X.w) X.A (assign target X.env u) (fun _ s'=>∃ σ' H',Inv X pins σ' H' s'/\Q σ' H') X.xe s
noncomputable def PGs (X:Cx)(ts:List Expr)(t:TGs):Prop:=
 ∀(pins:List (Addr×Obj))(s:Shared)(σ:St)(H:Hp)(vs:List V)(us:List Value)(Q:St->Hp->Prop),Inv X pins σ H s->zBB vs us->t vs σ H Q ->
  wpAny (model X.prog X.w) X.A (assignInOrder ((assignEach ts X.env).map (·.2)) us) (fun _ s'=>∃ σ' H',Inv X pins σ' H' s'/\Q σ' H') X.xe s
noncomputable abbrev TSet:=V->V->V->Hp->(Hp->Prop)->Prop
noncomputable def PSet (X:Cx)(t:TSet):Prop:=
 ∀(pins:List (Addr×Obj))(s:Shared)(σ:St)(H:Hp)(o i v:V)(ov iv u:Value)(Q:Hp->Prop),Inv X pins σ H s->zBn o ov->zBn i iv->zBn v u->t o i v H Q ->
  wpAny (model X.prog X.w) X.A (setItem ov iv u) (fun _ s'=>∃H',Inv X pins σ H' s'/\Q H') X.xe s
section
variable {X:Cx}{pos:Pos}
noncomputable def zMA (i:Nat):TG:=fun v σ H Q=>Q (σ.set i (some v)) H
theorem zAI {i:Nat}{x:Str}(hN:X.N.Nodup)(hi:X.N[i]? = some x)(hx:Loc X.env.scope x)(hf:X.fn x=true\/X.env.scope.names.lookup x=some .local:=by first | exact .inl rfl | exact .inr rfl | assumption):PG X (.Name x pos) (zMA i):=by
 intro pins s σ H v u Q I r h
 exact wpAny_assign_Name (zD3 I hN hi hx r (fun s' I'=>⟨_,H,I',h⟩) hf)
noncomputable def gNil:TGs:=fun vs σ H Q=>vs=[]/\Q σ H
noncomputable def gCons (t:TG)(u:TGs):TGs:=fun vs σ H Q=>∃v r,vs=v::r/\t v σ H fun σ' H'=>u r σ' H' Q
theorem zEH:PGs X [] gNil:=by
 intro pins s σ H vs us Q I r h
 obtain⟨e,h⟩:=h
 subst e
 cases r
 exact assignInOrder_nil ⟨σ,H,I,h⟩
theorem zBs {e:Expr}{es:List Expr}{t:TG}{u:TGs}(h1:PG X e t)(h2:PGs X es u)
 (hs:(assignEach (e::es) X.env).map (·.2)=assign e X.env::(assignEach es X.env).map (·.2):=by rfl):PGs X (e::es) (gCons t u):=by
 intro pins s σ H vs us Q I r h
 obtain⟨v,vr,e1,h⟩:=h
 subst e1
 cases r with
 | cons r rr=>
  rw[hs]
  refine assignInOrder_cons (thn (h1 pins s σ H _ _ _ I r h) fun _ s1 ⟨σ1,H1,I1,q1⟩=>?_)
  exact h2 pins s1 σ1 H1 _ _ Q I1 rr q1
noncomputable def gTup (K:PySem.W.Frag)(n:Nat)(t:TGs):TG:=fun v σ H Q=>∃a xs,v = .ref a/\SqT K H a xs/\xs.length=n/\t xs σ H Q
theorem zFy {es:List Expr}{k:Nat}{t:TGs}{n:Nat}(hc:X.calm=true)(h:PGs X es t)
 (hn:(assignEach es X.env).length=n:=by rfl)(hst:(assignEach es X.env).findIdx? (·.1)=none:=by rfl):PG X (.Tuple es k pos) (gTup X.K n t):=by
 intro pins s σ H v u Q I r hw
 obtain⟨a,xs,e1,hq,hl,hw⟩:=hw
 subst e1
 cases r
 obtain⟨its,rv,ht,hz⟩:=I.tuple hq
 refine assign_Tuple_tuple (I.ok.hd hc) ht (by simp[hn,<-hl,rv.length]) hst fun h' hx=>?_
 have I1:Inv X pins σ H { s with heap:=h' }:=I.kept (t':=s.toks) fun b o e=>hx b o (zh (zU e)) e
 exact h pins _ σ H xs _ Q I1 (by simpa using rv) hw
noncomputable def gSub (to ti:TE)(t:TSet):TG:=fun v σ H Q=>to σ H fun o H1=>ti σ H1 fun i H2=>t o i v H2 fun H3=>Q σ H3
theorem zHN {o i:Expr}{to ti:TE}{t:TSet}(ho:PE X o to)(hi:PE X i ti)(hs:PSet X t)
 (ha:∀v,assign (.Subscript o i pos) X.env v=(do
  let ov <-holding [v] (eval o X.env)
  let iv <-holding [v,ov] (eval i X.env)
  standAt pos
  holding [v,ov,iv] (setItem ov iv v)
  release [v,ov,iv] []):=by intro _;rfl):PG X (.Subscript o i pos) (gSub to ti t):=by
 intro pins s σ H v u Q I r h
 rw[ha]
 refine zA (zw (thn (ho pins s σ H _ I h) fun ov s1 ⟨x,H1,I1,r1,q1⟩=>?_))
 refine zA (zw (thn (hi pins s1 σ H1 _ I1 q1) fun iv s2 ⟨y,H2,I2,r2,q2⟩=>?_))
 refine zA (wpAny_standAt (zA (zw (thn (hs pins s2 σ H2 x y v ov iv u _ I2 r1 r2 r q2) fun _ s3 ⟨H3,I3,q3⟩=>?_))))
 exact wpAny_release ⟨σ,H3,I3,q3⟩
noncomputable def tAsg (te:TE)(g:TG):TS:=fun D σ H=>te σ H fun x H1=>g x σ H1 D.nx
theorem zHL {tg e:Expr}{te:TE}{g:TG}(he:PE X e te)(hg:PG X tg g)(hs:swapsWithSole [tg] e pos.line X.env=pure false:=by rfl)(hw:swappedStores [tg] e X.env=pure none:=by rfl)
 (h1:(assignEach [tg] X.env).map (·.2)=[assign tg X.env]:=by rfl):PS X (.Assign [tg] e pos) (tAsg te g):=by
 intro pins s σ H D I h
 refine wpAny_Assign_stores (thn (he pins s σ H _ I h) fun v s1 ⟨x,H1,I1,r1,q1⟩=>?_) hs hw
 rw[h1]
 exact thn (hg pins s1 σ H1 x v _ I1 r1 q1) fun _ s2 q=>q
theorem zAW {i:Nat}{x:Str}{e:Expr}{te:TE}{pos':Pos}(hN:X.N.Nodup)(hi:X.N[i]? = some x)(hx:Loc X.env.scope x)(he:PE X e te)(hs:swapsWith e (some (.Name x pos')) pos.line X.env=pure false:=by rfl)(hf:X.fn x=true\/X.env.scope.names.lookup x=some .local:=by first | exact .inl rfl | exact .inr rfl | assumption) :
 PS X (.Assign [.Name x pos'] e pos) (tAsg te (zMA i)):=by
 intro pins s σ H D I h
 refine wpAny_Assign_Name (thn (he pins s σ H _ I h) fun v s1 ⟨y,H1,I1,r1,q1⟩=>?_) hs
 exact zD3 I1 hN hi hx r1 (fun s2 I2=>⟨_,H1,I2,q1⟩) hf
end
section
variable {X:Cx}{pos:Pos}
noncomputable def tWhile (c:TT)(tb:TS):TS:=fun D σ H=>∃W:Nat->St->Hp->Prop,(∃m,W m σ H)/\∀m σ H,W m σ H ->
 c σ H fun b H1=>if b=true then ∃N:St->Hp->Prop,(∀ σ' H',N σ' H'->∃m',m'<m/\W m' σ' H')/\tb { D with nx:=N,ct:=N,bk:=D.nx } σ H1 else D.nx σ H1
theorem zD6 {c:Expr}{body:List Stmt}{tc:TT}{tb:TS}(hp:PassesOwn (model X.prog X.w) X.A X.env X.xe)(hc:PT X c tc)(hb:PSs X body tb):PS X (.While c body [] pos) (tWhile tc tb):=by
 intro pins s σ H D I h
 obtain⟨W,⟨m0,w0⟩,turn⟩:=h
 refine wpAny_While (codeAny_whileLoop (fun n s'=>∃ σ' H',Inv X pins σ' H' s'/\W n σ' H') ?_ m0 ⟨σ,H,I,w0⟩)
 rintro n s1 ⟨σ1,H1,I1,w1⟩
 refine wpAny_passesOwn hp (thn (hc pins s1 σ1 H1 _ I1 (turn n σ1 H1 w1)) fun b s2 ⟨H2,I2,q2⟩=>?_)
 cases b with
 | true=>
  obtain⟨N,hN,q2⟩:=q2
  rw[if_pos rfl]
  refine wpAny_passesOwn hp (thn (hb pins s2 σ1 H2 _ I2 q2) fun f s3 q3=>?_)
  cases f with
  | next=>
   obtain⟨σ3,H3,I3,n3⟩:=q3
   obtain⟨m',hm,w3⟩:=hN σ3 H3 n3
   exact⟨m',hm,σ3,H3,I3,w3⟩
  | cont=>
   obtain⟨σ3,H3,I3,n3⟩:=q3
   obtain⟨m',hm,w3⟩:=hN σ3 H3 n3
   exact⟨m',hm,σ3,H3,I3,w3⟩
  | brk=>exact q3
  | ret v=>exact q3
 | false=>
  rw[if_neg zg]
  exact wpAny_execs_nil ⟨σ1,H2,I2,q2⟩
end
structure It where
 go:Nat->Hp->Prop
 yld:Nat->Hp->V->Hp->Prop
 stop:Nat->Hp->Prop
noncomputable def zJ1 (X:Cx)(pins:List (Addr×Obj))(H:Hp)(b:Addr):Prop:=
 H b=none/\b≠X.env.locals/\b∉X.fs/\(b∈X.ex\/X.s₀.heap.objs.size<=b)/\(∀x c,X.env.cells.lookup x=some c->c≠b)/\∀p∈X.pn++pins,p.1≠b
theorem Inv.fpOk {X:Cx}{pins:List (Addr×Obj)}{σ:St}{H H':Hp}{s:Shared}{b:Addr}(I:Inv X pins σ H s)(hb:s.heap.objs.size<=b)(hn:H' b=none):zJ1 X pins H' b:=by
 refine⟨hn,Nat.ne_of_gt (zr I.lt hb),I.nofs hb,.inr (zAf I.sz hb),fun x c e z=>?_,fun p hp z=>?_⟩
 . obtain⟨v,q⟩:=I.cell x c e
   exact absurd (zr q.lt (by rw[z];exact hb)) (zBe _)
 . exact absurd (zr (zU (I.pin p hp).1) (by rw[z];exact hb)) (zBe _)
structure Turn (P:Program)(w:World)(K:PySem.W.Frag)(tg:Expr)(J:It)(fp:List Addr)(it:Addr)(tn:Nat->Heap->Prop):Prop where
 mem:it∈fp
 obj:∀i h,tn i h->∀b∈fp,∃o,h.get? b=some o/\∀v,o.data ≠ .cell v
 keep:∀i h h',tn i h->(∀b∈fp,∀o,h.get? b=some o->h'.get? b=some o)->tn i h'
 item:∀(X:Cx),X.prog=P->X.w=w->X.K=K->X.calm=true->∀(i:Nat)(pins:List (Addr×Obj))(s:Shared)(σ:St)(H:Hp)(E:Value->Shared->Prop),Inv X pins σ H s->(∀b∈fp,zJ1 X pins H b)->tn i s.heap->J.go i H ->
  wpAny (model P w) X.A (pyNext (.ref it)) (fun r s1=>∃u,r=some u /\
   wpAny (model P w) X.A (letOwnedTupleGo tg (.ref it) u) (fun _ s2=>∃x H',Inv X pins σ H' s2/\zBn x u/\J.yld i H x H'/\tn (i+1) s2.heap/\∀b∈fp,H' b=none) E s1) E s
 done:∀(X:Cx),X.prog=P->X.w=w->X.K=K->X.calm=true->∀(i:Nat)(pins:List (Addr×Obj))(s:Shared)(σ:St)(H:Hp)(E:Value->Shared->Prop),Inv X pins σ H s->(∀b∈fp,zJ1 X pins H b)->tn i s.heap->J.stop i H ->
  wpAny (model P w) X.A (pyNext (.ref it)) (fun r s1=>r=none/\Inv X pins σ H s1) E s
 self:∀(A:Around)(i:Nat)(s:Shared)(Q:Value->Shared->Prop)(E:Value->Shared->Prop),tn i s.heap->Q (.ref it) s->wpAny (model P w) A (pyIter (.ref it)) Q E s
noncomputable abbrev TI:=St->Hp->(It->Hp->Prop)->Prop
noncomputable def PIE (X:Cx)(pins:List (Addr×Obj))(σ:St)(tg:Expr)(R:It->Hp->Prop)(itv:Value)(s2:Shared):Prop:=
 ∃(it:Addr)(fp:List Addr)(tn:Nat->Heap->Prop)(J:It)(H':Hp),itv = .ref it/\Inv X pins σ H' s2/\Turn X.prog X.w X.K tg J fp it tn/\tn 0 s2.heap/\(∀b∈fp,zJ1 X pins H' b)/\R J H'
noncomputable def PI (X:Cx)(tg iter:Expr)(wi:TI):Prop:=
 ∀(pins:List (Addr×Obj))(s:Shared)(σ:St)(H:Hp)(R:It->Hp->Prop),Inv X pins σ H s->wi σ H R ->
  wpAny (model X.prog X.w) X.A (eval iter X.env) (fun v s1=>wpAny (model X.prog X.w) X.A (pyIter v) (PIE X pins σ tg R) X.xe s1) X.xe s
theorem zL9 {M:Model}{A:Around}{E:Value->Shared->Prop}{s:Shared}{tg:Expr}{it:Addr}{u:Value}{o:Obj}{n:String}{vs:Array Value}{Q:Unit->Shared->Prop}(ho:s.heap.get? it=some o)(hc:o.cls = .type n)(hd:o.data = .fields vs)
 (hn:["enumerate", "zip", "dict_itemiterator", "dict_reverseitemiterator", "odict_iterator", "itertools.zip_longest", "itertools.pairwise"].contains n=false) (hQ:Q () s):wpAny M A (letOwnedTupleGo tg (.ref it) u) Q E s:=by
 unfold letOwnedTupleGo
 cases tg <;> first
  | exact zB hQ
  | (cases u <;> first
   | exact zB hQ
   | (refine zA (wpAny_load ho ?_)
      rw[hc,hd]
      show wpAny M A (if (["enumerate", "zip", "dict_itemiterator", "dict_reverseitemiterator", "odict_iterator", "itertools.zip_longest", "itertools.pairwise"].contains n && vs[0]? == some (rawInt _))=true then _ else _) Q E s
      rw[if_neg (by intro h;rw[hn,Bool.false_and] at h;cases h)]
      exact zB hQ))
noncomputable def Itl (K:PySem.W.Frag)(a:Addr):It:=
 ⟨fun i H=>∃xs x,SqL K H a xs/\xs[i]? = some x,fun i H x H'=>H'=H/\∀xs,SqL K H a xs->xs[i]? = some x,fun i H=>∃xs,SqL K H a xs/\xs.length<=i⟩
noncomputable def Itt (K:PySem.W.Frag)(a:Addr):It:=
 ⟨fun i H=>∃xs x,SqT K H a xs/\xs[i]? = some x,fun i H x H'=>H'=H/\∀xs,SqT K H a xs->xs[i]? = some x,fun i H=>∃xs,SqT K H a xs/\xs.length<=i⟩
noncomputable def Itr (lo:Int)(n:Nat):It:=⟨fun i _=>i<n,fun i H x H'=>H'=H/\x = .int (lo+i),fun i _=>n<=i⟩
theorem zIP {P:Program}{w:World}{K:PySem.W.Frag}{tg:Expr}(a it:Addr):Turn P w K tg (Itl K a) [it] it (fun i h=>h.IsListIter it a i) where
 mem:=by simp
 obj:=fun i h st b hb=>by
  have e:b=it:=by simpa using hb
  subst e
  obtain⟨o,e,c,d⟩:=st
  exact⟨o,e,fun v z=>by rw[d] at z;cases z⟩
 keep:=fun i h h' st k=>st.at fun o e=>k it (by simp) o e
 item:=by
  intro X hP hw hK hc i pins s σ H E I hf st hg
  subst hP hw hK
  obtain⟨xs,x,hq,hx⟩:=hg
  obtain⟨its,rv,p,hz⟩:=I.list hq
  obtain⟨u,hu,ru⟩:=rv.get hx
  obtain⟨f0,f1,f2,f3,f4,f5⟩:=hf it (by simp)
  refine wpAny_pyNext_list_item st p.isList (x:=u) (by simpa using hu) fun h' st' sb=>?_
  have I1:Inv X pins σ H { s with heap:=h' }:=I.turned (t':=s.toks) (fun b o hb e=>(sb.2 b hb).trans e) f0 f1 f3 f4 f5
  obtain⟨o,e,c,d⟩:=id st'
  exact⟨u,rfl,zL9 (s:={ s with heap:=h' }) e c d (by decide) ⟨x,H,I1,ru,⟨rfl,fun ys hy=>by rw[I.list_inj hy hq];exact hx⟩,st',fun b hb=>(hf b hb).1⟩⟩
 done:=by
  intro X hP hw hK hc i pins s σ H E I hf st hg
  subst hP hw hK
  obtain⟨xs,hq,hx⟩:=hg
  obtain⟨its,rv,p,hz⟩:=I.list hq
  obtain⟨f0,f1,f2,f3,f4,f5⟩:=hf it (by simp)
  have hl:=rv.length
  exact wpAny_pyNext_list_end (I.ok.hd hc) st p.isList (by simp;omega) fun h' eb=>⟨rfl,I.turned (t':=s.toks) (fun b o hb e=>eb b o hb e) f0 f1 f3 f4 f5⟩
 self:=fun _ _ _ _ _ st h=>wpAny_pyIter_listiter st h
theorem zHm {P:Program}{w:World}{K:PySem.W.Frag}{tg:Expr}(a it:Addr):Turn P w K tg (Itt K a) [it] it (fun i h=>h.IsTupleIter it a i) where
 mem:=by simp
 obj:=fun i h st b hb=>by
  have e:b=it:=by simpa using hb
  subst e
  obtain⟨o,e,c,d⟩:=st
  exact⟨o,e,fun v z=>by rw[d] at z;cases z⟩
 keep:=fun i h h' st k=>st.at fun o e=>k it (by simp) o e
 item:=by
  intro X hP hw hK hc i pins s σ H E I hf st hg
  subst hP hw hK
  obtain⟨xs,x,hq,hx⟩:=hg
  obtain⟨its,rv,p,hz⟩:=I.tuple hq
  obtain⟨u,hu,ru⟩:=rv.get hx
  obtain⟨f0,f1,f2,f3,f4,f5⟩:=hf it (by simp)
  refine wpAny_pyNext_tuple_item st (show s.heap.IsTuple a its.toArray from p) (x:=u) (by simpa using hu) fun h' st' sb=>?_
  have I1:Inv X pins σ H { s with heap:=h' }:=I.turned (t':=s.toks) (fun b o hb e=>(sb.2 b hb).trans e) f0 f1 f3 f4 f5
  obtain⟨o,e,c,d⟩:=id st'
  exact⟨u,rfl,zL9 (s:={ s with heap:=h' }) e c d (by decide) ⟨x,H,I1,ru,⟨rfl,fun ys hy=>by rw[I.tuple_inj hy hq];exact hx⟩,st',fun b hb=>(hf b hb).1⟩⟩
 done:=by
  intro X hP hw hK hc i pins s σ H E I hf st hg
  subst hP hw hK
  obtain⟨xs,hq,hx⟩:=hg
  obtain⟨its,rv,p,hz⟩:=I.tuple hq
  obtain⟨f0,f1,f2,f3,f4,f5⟩:=hf it (by simp)
  have hl:=rv.length
  exact wpAny_pyNext_tuple_end (I.ok.hd hc) st (show s.heap.IsTuple a its.toArray from p) (by simp;omega) fun h' eb=>⟨rfl,I.turned (t':=s.toks) (fun b o hb e=>eb b o hb e) f0 f1 f3 f4 f5⟩
 self:=fun _ _ _ _ _ st h=>wpAny_pyIter_tupleiter st h
theorem zHn {P:Program}{w:World}{K:PySem.W.Frag}{tg:Expr}(it:Addr)(lo:Int)(n:Nat):Turn P w K tg (Itr lo n) [it] it (fun i h=>IsRangeIter h it (lo+(i:Nat)*1) ((n:Int)-(i:Nat)) 1) where
 mem:=by simp
 obj:=fun i h st b hb=>by
  have e:b=it:=by simpa using hb
  subst e
  exact⟨_,st,fun v z=>by
   have z':Data.fields _=Data.cell v:=z
   cases z'⟩
 keep:=fun i h h' st k=>k it (by simp) _ st
 item:=by
  intro X hP hw hK hc i pins s σ H E I hf st hg
  subst hP hw hK
  obtain⟨f0,f1,f2,f3,f4,f5⟩:=hf it (by simp)
  have W:=Walks.range (prog:=X.prog) (w:=X.w) (I.ok.hd hc) it lo 1 n
  refine W.item i s _ _ hg st fun v h' tk hv st' kk=>?_
  obtain⟨t,rfl⟩:=hv
  have I1:Inv X pins σ H { s with heap:=h',toks:=tk }:=I.turned (fun b o hb e=>kk b o (by simpa using hb) e) f0 f1 f3 f4 f5
  refine⟨_,rfl,zL9 (s:={ s with heap:=h',toks:=tk }) (n := "range_iterator") st' rfl rfl (by decide) ⟨.int (lo+i),H,I1,⟨t,?_⟩,⟨rfl,rfl⟩,st',fun b hb=>(hf b hb).1⟩⟩
  rw[Int.mul_one]
 done:=by
  intro X hP hw hK hc i pins s σ H E I hf st hg
  subst hP hw hK
  obtain⟨f0,f1,f2,f3,f4,f5⟩:=hf it (by simp)
  exact wpAny_pyNext_range_end (I.ok.hd hc) st (by have:n<=i:=hg;omega) fun h' eb=>⟨rfl,I.turned (t':=s.toks) (fun b o hb e=>eb b o hb e) f0 f1 f3 f4 f5⟩
 self:=fun _ _ _ _ _ st h=>wpAny_pyIter_rangeiter st h
end L2
namespace L2
open PySem PySem.Spec PyProof.Rows
section
variable {X:Cx}{tg:Expr}
noncomputable def iList (K:PySem.W.Frag)(tl:TE):TI:=fun σ H R=>tl σ H fun x H1=>∃a,x = .ref a/\(∃xs,SqL K H1 a xs)/\R (Itl K a) H1
noncomputable def iTup (K:PySem.W.Frag)(tl:TE):TI:=fun σ H R=>tl σ H fun x H1=>∃a,x = .ref a/\(∃xs,SqT K H1 a xs)/\R (Itt K a) H1
theorem zC1 {l:Expr}{tl:TE}(hl:PE X l tl):PI X tg l (iList X.K tl):=by
 intro pins s σ H R I h
 refine thn (hl pins s σ H _ I h) fun v s1 ⟨x,H1,I1,r1,q1⟩=>?_
 obtain⟨a,e,⟨xs,hq⟩,q⟩:=q1
 subst e
 cases r1
 obtain⟨its,rv,p,hz⟩:=I1.list hq
 refine wpAny_pyIter_list p.isList ?_
 refine⟨s1.heap.objs.size,[s1.heap.objs.size],_,_,H1,rfl,I1.kept (t':=s1.toks) fun b o e=>zF _ e,zIP a _,⟨_,zN _ rfl,rfl,rfl⟩,fun b hb=>?_,q⟩
 have e:b=s1.heap.objs.size:=by simpa using hb
 subst e
 exact I1.fpOk (zH _) (I1.hok.fresh (zH _))
theorem zCM {l:Expr}{tl:TE}(hl:PE X l tl):PI X tg l (iTup X.K tl):=by
 intro pins s σ H R I h
 refine thn (hl pins s σ H _ I h) fun v s1 ⟨x,H1,I1,r1,q1⟩=>?_
 obtain⟨a,e,⟨xs,hq⟩,q⟩:=q1
 subst e
 cases r1
 obtain⟨its,rv,p,hz⟩:=I1.tuple hq
 refine wpAny_pyIter_tuple (show s1.heap.IsTuple a its.toArray from p) ?_
 refine⟨s1.heap.objs.size,[s1.heap.objs.size],_,_,H1,rfl,I1.kept (t':=s1.toks) fun b o e=>zF _ e,zHm a _,⟨_,zN _ rfl,rfl,rfl⟩,fun b hb=>?_,q⟩
 have e:b=s1.heap.objs.size:=by simpa using hb
 subst e
 exact I1.fpOk (zH _) (I1.hok.fresh (zH _))
theorem zHJ {pins:List (Addr×Obj)}{σ:St}{H:Hp}{s:Shared}{R:It->Hp->Prop}{E:Value->Shared->Prop}{lo hi:Int}{t u v:Tok}{tk:Nat}(I:Inv X pins σ H s)(h1 : -(2 ^ 62)<=lo)(h2:lo<2 ^ 62)(h3 : -(2 ^ 62)<=hi)(h4:hi<2 ^ 62)
 (q:R (Itr lo (hi-lo).toNat) H):wpAny (model X.prog X.w) X.A (pyIter (.ref s.heap.objs.size)) (PIE X pins σ tg R) E { s with heap:=s.heap.push { cls:=.type "range",data:=.fields #[.int lo t,.int hi u,.int 1 v] },toks:=tk }:=by
 refine wpAny_pyIter_range (IsRange.new ..) (small_one h1 h2 h3 h4) ?_
 have I1:Inv X pins σ H { s with heap:=s.heap.push { cls:=.type "range",data:=.fields #[.int lo t,.int hi u,.int 1 v] },toks:=tk }:=I.kept fun b o e=>zF _ e
 refine⟨(s.heap.push { cls:=.type "range",data:=.fields #[.int lo t,.int hi u,.int 1 v] }).objs.size,[(s.heap.push { cls:=.type "range",data:=.fields #[.int lo t,.int hi u,.int 1 v] }).objs.size],_,_,H,rfl,
  I1.kept (t':=tk) fun b o e=>zF _ e,zHn _ lo (hi-lo).toNat,?_,fun b hb=>?_,q⟩
 . have e1:lo+((0:Nat):Int)*1=lo:=by simp
   have e2:(((hi-lo).toNat:Nat):Int)-((0:Nat):Int)=Builtin.Range.rangeSize lo hi 1:=by rw[rangeSize_one];split <;> omega
   show IsRangeIter _ _ (lo+((0:Nat):Int)*1) ((((hi-lo).toNat:Nat):Int)-((0:Nat):Int)) 1
   rw[e1,e2]
   exact zN _ rfl
 . have e:b=(s.heap.push { cls:=.type "range",data:=.fields #[.int lo t,.int hi u,.int 1 v] }).objs.size:=by simpa using hb
   subst e
   exact I1.fpOk (zH _) (I1.hok.fresh (zH _))
noncomputable def iRng1 (ta:TA):TI:=fun σ H R=>ta σ H fun vs H1=>∃j:Int,vs=[.int j] /\ -(2 ^ 62)<=j/\j<2 ^ 62/\R (Itr 0 j.toNat) H1
noncomputable def iRng2 (ta:TA):TI:=fun σ H R=>ta σ H fun vs H1=>∃i j:Int,vs=[.int i,.int j]/\(-(2 ^ 62)<=i/\i<2 ^ 62 /\ -(2 ^ 62)<=j/\j<2 ^ 62)/\R (Itr i (j-i).toNat) H1
theorem zBJ {a:Expr}{ta:TA}{p pos:Pos}(hg:Gl X "range") (hm:X.mg "range" = none) (ha:PA X [a] ta)(hs:starEach [a] X.env=[(false,eval a X.env)]:=by rfl):PI X tg (.Call (.Name "range" p) [a] [] pos) (iRng1 ta):=by
 intro pins s σ H R I h
 refine Call_ (zCx I hg hm boot_range (PyProof.Rows.callWith_type1 (thn (ha pos pins s σ H _ I h) fun us s1 ⟨vs,H1,I1,r1,q1⟩=>?_) hs rfl))
 obtain⟨j,e,q1,q2,q⟩:=q1
 subst e
 cases r1 with
 | cons r rr=>
  cases rr
  obtain⟨t,rfl⟩:=r
  exact call_range_1 (zHJ I1 (by omega) (by omega) q1 q2 (by simpa using q))
theorem zFx {a b:Expr}{ta:TA}{p pos:Pos}(hg:Gl X "range") (hm:X.mg "range" = none) (ha:PA X [a,b] ta)(hs:starEach [a,b] X.env=[(false,eval a X.env),(false,eval b X.env)]:=by rfl)(hs2:starEach [b] X.env=[(false,eval b X.env)]:=by rfl) :
 PI X tg (.Call (.Name "range" p) [a,b] [] pos) (iRng2 ta):=by
 intro pins s σ H R I h
 refine Call_ (zCx I hg hm boot_range (PyProof.Rows.callWith_type1 (thn (ha pos pins s σ H _ I h) fun us s1 ⟨vs,H1,I1,r1,q1⟩=>?_) (by rw[hs,hs2]) (by rw[hs2];rfl)))
 obtain⟨i,j,e,⟨q1,q2,q3,q4⟩,q⟩:=q1
 subst e
 cases r1 with
 | cons r rr=>
  cases rr with
  | cons r' rr=>
   cases rr
   obtain⟨t,rfl⟩:=r
   obtain⟨t',rfl⟩:=r'
   exact call_range_2 (zHJ I1 q1 q2 q3 q4 q)
noncomputable def tFor (wi:TI)(g:TG)(tb:TS):TS:=fun D σ H=>wi σ H fun J H1=>∃W:Nat->Nat->St->Hp->Prop,(∃m,W 0 m σ H1)/\∀i m σ H,W i m σ H ->
 (J.stop i H/\D.nx σ H)\/(J.go i H/\∃N:St->Hp->Prop,(∀ σ' H',N σ' H'->∃m',m'<m/\W (i+1) m' σ' H')/\∀x H',J.yld i H x H'->g x σ H' fun σ2 H2=>tb { D with nx:=N,ct:=N,bk:=D.nx } σ2 H2)
noncomputable def zFv (fp:List Addr)(h:Heap):List (Addr×Obj):=fp.filterMap fun b=>(h.get? b).map fun o=>(b,o)
theorem zC9 {fp:List Addr}{h:Heap}{b:Addr}{o:Obj}(hb:b∈fp)(e:h.get? b=some o):(b,o)∈zFv fp h:=List.mem_filterMap.mpr ⟨b,hb,by rw[e];rfl⟩
theorem zI6 {fp:List Addr}{h:Heap}{p:Addr×Obj}(hp:p∈zFv fp h):p.1∈fp/\h.get? p.1=some p.2:=by
 obtain⟨b,hb,e⟩:=List.mem_filterMap.mp hp
 cases q:h.get? b with
 | none=>rw[q] at e;cases e
 | some o=>
  rw[q] at e
  have e':(b,o)=p:=zf e
  subst e'
  exact⟨hb,q⟩
theorem Inv.pinned {pins:List (Addr×Obj)}{σ:St}{H:Hp}{s:Shared}{fp:List Addr}(I:Inv X pins σ H s)(hf:∀b∈fp,zJ1 X pins H b)(ho:∀b∈fp,∃o,s.heap.get? b=some o/\∀v,o.data ≠ .cell v):Inv X (pins++zFv fp s.heap) σ H s:=
 I.pins_of fun p hp=>(zK.mp hp).elim (fun z=>I.pin p (zAB _ z)) fun z=>by
  obtain⟨hb,e⟩:=zI6 z
  obtain⟨f0,f1,f2,_⟩:=hf p.1 hb
  obtain⟨o,e',d⟩:=ho p.1 hb
  rw[e] at e';cases e'
  exact⟨e,f0,f1,f2,d⟩
theorem Inv.unpinned {pins pl:List (Addr×Obj)}{σ:St}{H:Hp}{s:Shared}(I:Inv X (pins++pl) σ H s):Inv X pins σ H s:=I.pins_of fun p hp=>I.pin p (zAB _ (List.mem_append_left _ hp))
theorem zCc {iter:Expr}{body:List Stmt}{wi:TI}{g:TG}{tb:TS}{pos:Pos}(hp:PassesOwn (model X.prog X.w) X.A X.env X.xe)(hc:X.calm=true)(hi:PI X tg iter wi)(hg:PG X tg g)(hb:PSs X body tb)
 (hs:∀x,foldedSetIterable iter X.env x=pure x:=by intro _;rfl):PS X (.For tg iter body [] pos) (tFor wi g tb):=by
 intro pins s σ H D I h
 refine wpAny_For (thn (hi pins s σ H _ I h) fun v s1 h1=>thn h1 fun itv s2 h2=>?_) hs
 obtain⟨it,fp,tn,J,H2,e,I2,T,st2,f2,W,⟨m0,w0⟩,turn⟩:=h2
 subst e
 have stat:∀{H':Hp},(∀b∈fp,H' b=none)->∀b∈fp,zJ1 X pins H' b:=fun hn b hb=>⟨hn b hb,(f2 b hb).2⟩
 refine codeAny_forLoop_any (fun n s'=>∃i σ' H',Inv X pins σ' H' s'/\tn i s'.heap/\(∀b∈fp,H' b=none)/\W i n σ' H') ?_ m0 ⟨0,σ,H2,I2,st2,fun b hb=>(f2 b hb).1,w0⟩
 rintro n s3 ⟨i,σ3,H3,I3,st3,fr3,w3⟩
 rcases turn i n σ3 H3 w3 with ⟨stop,qn⟩ | ⟨go,N,hN,step⟩
 . refine wpAny_passesOwn hp (thn (T.done X rfl rfl rfl hc i pins s3 σ3 H3 X.xe I3 (stat fr3) st3 stop) fun r s4 ⟨hr,I4⟩=>?_)
   subst hr
   exact wpAny_execs_nil ⟨σ3,H3,I4,qn⟩
 . refine wpAny_passesOwn hp (thn (T.item X rfl rfl rfl hc i pins s3 σ3 H3 X.xe I3 (stat fr3) st3 go) fun r s4 ⟨u,hr,h4⟩=>?_)
   subst hr
   refine wpAny_passesOwn hp (thn h4 fun _ s5 ⟨x,H5,I5,r5,y5,st5,fr5⟩=>?_)
   have I5':=I5.pinned (stat fr5) (T.obj _ _ st5)
   refine wpAny_passesOwn hp (thn (hg _ s5 σ3 H5 x u _ I5' r5 (step x H5 y5)) fun _ s6 ⟨σ6,H6,I6,q6⟩=>?_)
   refine wpAny_passesOwn hp (thn (hb _ s6 σ6 H6 _ I6 q6) fun f s7 q7=>?_)
   have again:∀{σ7:St}{H7:Hp},Inv X (pins++zFv fp s5.heap) σ7 H7 s7->N σ7 H7->∃m,m<n/\∃i σ' H',Inv X pins σ' H' s7/\tn i s7.heap/\(∀b∈fp,H' b=none)/\W i m σ' H':=fun {σ7 H7} I7 n7=>by
    obtain⟨m',hm,w7⟩:=hN σ7 H7 n7
    refine⟨m',hm,i+1,σ7,H7,I7.unpinned,T.keep _ _ _ st5 fun b hb o e=>(I7.pin (b,o) (zAB _ (zAB _ (zC9 hb e)))).1,fun b hb=>?_,w7⟩
    obtain⟨o,e,d⟩:=T.obj _ _ st5 b hb
    exact (I7.pin (b,o) (zAB _ (zAB _ (zC9 hb e)))).2.1
   cases f with
   | next=>obtain⟨σ7,H7,I7,n7⟩:=q7;exact again I7 n7
   | cont=>obtain⟨σ7,H7,I7,n7⟩:=q7;exact again I7 n7
   | brk=>obtain⟨σ7,H7,I7,q7⟩:=q7;exact⟨σ7,H7,I7.unpinned,q7⟩
   | ret v=>obtain⟨x7,σ7,H7,I7,r7,q7⟩:=q7;exact⟨x7,σ7,H7,I7.unpinned,r7,q7⟩
end
theorem zKf {K:PySem.W.Frag}{a:Addr}{xs:List V}{g:TG}{tb:TS}{D:zJ2}{σ:St}{H:Hp}(Pv:Nat->St->Hp->Prop)(h0:Pv 0 σ H)(hl:∀i σ H,i<=xs.length->Pv i σ H->SqL K H a xs)
 (hs:∀i x σ H,xs[i]? = some x->Pv i σ H->g x σ H fun σ2 H2=>tb { D with nx:=Pv (i+1),ct:=Pv (i+1),bk:=D.nx } σ2 H2)(hd:∀ σ H,Pv xs.length σ H->D.nx σ H) :
 ∃W:Nat->Nat->St->Hp->Prop,(∃m,W 0 m σ H)/\∀i m σ H,W i m σ H ->
  ((Itl K a).stop i H/\D.nx σ H)\/((Itl K a).go i H/\∃N:St->Hp->Prop,(∀ σ' H',N σ' H'->∃m',m'<m/\W (i+1) m' σ' H')/\∀x H',(Itl K a).yld i H x H'->g x σ H' fun σ2 H2=>tb { D with nx:=N,ct:=N,bk:=D.nx } σ2 H2):=by
 refine⟨fun i m σ H=>m=xs.length-i/\i<=xs.length/\Pv i σ H,⟨xs.length,by simp,zi _,h0⟩,?_⟩
 rintro i m σ H ⟨rfl,hi,p⟩
 have q:=hl i σ H hi p
 by_cases hlt:i<xs.length
 . refine .inr ⟨⟨xs,xs[i],q,by simp[hlt]⟩,Pv (i+1),fun σ' H' p'=>⟨xs.length-(i+1),by omega,rfl,hlt,p'⟩,fun x H' y=>?_⟩
   obtain⟨e,y⟩:=y
   subst e
   exact hs i x σ _ (y xs q) p
 . have e:i=xs.length:=by omega
   subst e
   exact .inl ⟨⟨xs,q,zH _⟩,hd σ H p⟩
theorem zDL {K:PySem.W.Frag}{a:Addr}{xs:List V}{g:TG}{tb:TS}{D:zJ2}{σ:St}{H:Hp}(Pv:Nat->St->Hp->Prop)(h0:Pv 0 σ H)(hl:∀i σ H,i<=xs.length->Pv i σ H->SqT K H a xs)
 (hs:∀i x σ H,xs[i]? = some x->Pv i σ H->g x σ H fun σ2 H2=>tb { D with nx:=Pv (i+1),ct:=Pv (i+1),bk:=D.nx } σ2 H2)(hd:∀ σ H,Pv xs.length σ H->D.nx σ H) :
 ∃W:Nat->Nat->St->Hp->Prop,(∃m,W 0 m σ H)/\∀i m σ H,W i m σ H ->
  ((Itt K a).stop i H/\D.nx σ H)\/((Itt K a).go i H/\∃N:St->Hp->Prop,(∀ σ' H',N σ' H'->∃m',m'<m/\W (i+1) m' σ' H')/\∀x H',(Itt K a).yld i H x H'->g x σ H' fun σ2 H2=>tb { D with nx:=N,ct:=N,bk:=D.nx } σ2 H2):=by
 refine⟨fun i m σ H=>m=xs.length-i/\i<=xs.length/\Pv i σ H,⟨xs.length,by simp,zi _,h0⟩,?_⟩
 rintro i m σ H ⟨rfl,hi,p⟩
 have q:=hl i σ H hi p
 by_cases hlt:i<xs.length
 . refine .inr ⟨⟨xs,xs[i],q,by simp[hlt]⟩,Pv (i+1),fun σ' H' p'=>⟨xs.length-(i+1),by omega,rfl,hlt,p'⟩,fun x H' y=>?_⟩
   obtain⟨e,y⟩:=y
   subst e
   exact hs i x σ _ (y xs q) p
 . have e:i=xs.length:=by omega
   subst e
   exact .inl ⟨⟨xs,q,zH _⟩,hd σ H p⟩
theorem zCl {lo:Int}{n:Nat}{g:TG}{tb:TS}{D:zJ2}{σ:St}{H:Hp}(Pv:Nat->St->Hp->Prop)(h0:Pv 0 σ H)
 (hs:∀i σ H,i<n->Pv i σ H->g (.int (lo+i)) σ H fun σ2 H2=>tb { D with nx:=Pv (i+1),ct:=Pv (i+1),bk:=D.nx } σ2 H2)(hd:∀ σ H,Pv n σ H->D.nx σ H) :
 ∃W:Nat->Nat->St->Hp->Prop,(∃m,W 0 m σ H)/\∀i m σ H,W i m σ H ->
  ((Itr lo n).stop i H/\D.nx σ H)\/((Itr lo n).go i H/\∃N:St->Hp->Prop,(∀ σ' H',N σ' H'->∃m',m'<m/\W (i+1) m' σ' H')/\∀x H',(Itr lo n).yld i H x H'->g x σ H' fun σ2 H2=>tb { D with nx:=N,ct:=N,bk:=D.nx } σ2 H2):=by
 refine⟨fun i m σ H=>m=n-i/\i<=n/\Pv i σ H,⟨n,by simp,zi _,h0⟩,?_⟩
 rintro i m σ H ⟨rfl,hi,p⟩
 by_cases hlt:i<n
 . refine .inr ⟨hlt,Pv (i+1),fun σ' H' p'=>⟨n-(i+1),by omega,rfl,hlt,p'⟩,fun x H' y=>?_⟩
   obtain⟨e,y⟩:=y
   subst e y
   exact hs i σ _ hlt p
 . have e:i=n:=by omega
   subst e
   exact .inl ⟨zH _,hd σ H p⟩
end L2
namespace L2
open PySem PySem.Spec PyProof.Rows
noncomputable abbrev R2:=V->V->Hp->VK->Prop
noncomputable def OpR (X:Cx)(f:Value->Value->Sem Value)(r:R2):Prop:=
 ∀(pins:List (Addr×Obj))(s:Shared)(σ:St)(H:Hp)(x y:V)(v u:Value)(Q:VK),Inv X pins σ H s->zBn x v->zBn y u->r x y H Q ->
  wpAny (model X.prog X.w) X.A (f v u) (EP X pins σ Q) X.xe s
noncomputable def zDN (X:Cx)(f:Value)(r:List V->Hp->VK->Prop):Prop:=
 ∀(pins:List (Addr×Obj))(s:Shared)(σ:St)(H:Hp)(xs:List V)(us:List Value)(Q:VK),Inv X pins σ H s->zBB xs us->r xs H Q ->
  wpAny (model X.prog X.w) X.A (call f us) (EP X pins σ Q) X.xe s
noncomputable def TruR (X:Cx)(r:V->Hp->(Bool->Hp->Prop)->Prop):Prop:=
 ∀(pins:List (Addr×Obj))(s:Shared)(σ:St)(H:Hp)(x:V)(v:Value)(Q:Bool->Hp->Prop),Inv X pins σ H s->zBn x v->r x H Q ->
  wpAny (model X.prog X.w) X.A (truthy v) (TP X pins σ Q) X.xe s
noncomputable def tOp (r:R2)(ta tb:TE):TE:=fun σ H Q=>ta σ H fun x H1=>tb σ H1 fun y H2=>r x y H2 Q
noncomputable def rI (C:Int->Int->Prop)(g:Int->Int->V):R2:=fun x y H Q=>∃i j,x = .int i/\y = .int j/\C i j/\Q (g i j) H
noncomputable def rI0 (g:Int->Int->V):R2:=fun x y H Q=>∃i j,x = .int i/\y = .int j/\Q (g i j) H
section
variable {X:Cx}{a b c:Expr}{ta tb tc:TE}{pos:Pos}
theorem binT (ha:PE X a ta)(hb:PE X b tb){pins:List (Addr×Obj)}{s:Shared}{σ:St}{H:Hp}{R:V->V->Hp->Prop}(I:Inv X pins σ H s)
 (h:ta σ H fun x H1=>tb σ H1 fun y H2=>R x y H2){Q:Value->Shared->Prop}{f:Value->Value->Sem Value}
 (hf:∀v u s2 x y H2,Inv X pins σ H2 s2->zBn x v->zBn y u->R x y H2->wpAny (model X.prog X.w) X.A (f v u) Q X.xe s2) :
 wpAny (model X.prog X.w) X.A (eval a X.env) (fun v s₁=>wpAny (model X.prog X.w) X.A (eval b X.env) (fun u s₂=>wpAny (model X.prog X.w) X.A (f v u) Q X.xe s₂) X.xe s₁) X.xe s:=by
 refine thn (ha pins s σ H _ I h) fun v s1 ⟨x,H1,I1,r1,q1⟩=>?_
 refine thn (hb pins s1 σ H1 _ I1 q1) fun u s2 ⟨y,H2,I2,r2,q2⟩=>?_
 exact hf v u s2 x y H2 I2 r1 r2 q2
theorem zBD {op:Operator}{r:R2}(ho:OpR X (binaryOp op) r)(ha:PE X a ta)(hb:PE X b tb):PE X (.BinOp a op b pos) (tOp r ta tb):=by
 intro pins s σ H Q I h
 exact wpAny_BinOp (binT ha hb I h fun v u s2 x y H2 I2 rx ry q=>ho pins s2 σ H2 x y v u Q I2 rx ry q)
theorem opI {f:Value->Value->Sem Value}{C:Int->Int->Prop}{g:Int->Int->Int}
 (rule:∀(i j:Int)(t u:Tok)(s:Shared)(Q:Value->Shared->Prop)(E:Value->Shared->Prop),C i j->Q (.int (g i j) s.toks) { s with toks:=s.toks+1 }->wpAny (model X.prog X.w) X.A (f (.int i t) (.int j u)) Q E s) :
 OpR X f (rI C fun i j=>.int (g i j)):=by
 intro pins s σ H x y v u Q I rx ry h
 obtain⟨i,j,rfl,rfl,hc,q⟩:=h
 obtain⟨t,rfl⟩:=rx
 obtain⟨t',rfl⟩:=ry
 exact rule i j t t' s _ _ hc ⟨.int (g i j),H,I.tok _,⟨_,rfl⟩,q⟩
theorem opI0 {f:Value->Value->Sem Value}{g:Int->Int->Int}
 (rule:∀(i j:Int)(t u:Tok)(s:Shared)(Q:Value->Shared->Prop)(E:Value->Shared->Prop),Q (.int (g i j) s.toks) { s with toks:=s.toks+1 }->wpAny (model X.prog X.w) X.A (f (.int i t) (.int j u)) Q E s) :
 OpR X f (rI0 fun i j=>.int (g i j)):=by
 intro pins s σ H x y v u Q I rx ry h
 obtain⟨i,j,rfl,rfl,q⟩:=h
 obtain⟨t,rfl⟩:=rx
 obtain⟨t',rfl⟩:=ry
 exact rule i j t t' s _ _ ⟨.int (g i j),H,I.tok _,⟨_,rfl⟩,q⟩
theorem opB0 {f:Value->Value->Sem Value}{g:Int->Int->Bool}
 (rule:∀(i j:Int)(t u:Tok)(s:Shared)(Q:Value->Shared->Prop)(E:Value->Shared->Prop),Q (.bool (g i j)) s->wpAny (model X.prog X.w) X.A (f (.int i t) (.int j u)) Q E s) :
 OpR X f (rI0 fun i j=>.bl (g i j)):=by
 intro pins s σ H x y v u Q I rx ry h
 obtain⟨i,j,rfl,rfl,q⟩:=h
 obtain⟨t,rfl⟩:=rx
 obtain⟨t',rfl⟩:=ry
 exact rule i j t t' s _ _ ⟨.bl (g i j),H,I,rfl,q⟩
noncomputable def CDiv (i j:Int):Prop:=0<j/\j<1073741824
noncomputable def CPow (i j:Int):Prop:=0<=j/\j<=1000000/\i.natAbs<2 ^ 64
noncomputable def CMul (i j:Int):Prop:=(-(2 ^ 64)<i/\i<2 ^ 64)\/(-(2 ^ 64)<j/\j<2 ^ 64)
theorem CMul.ok {i j:Int}(h:CMul i j):IntMulOk i j:=by
 rcases h with ⟨h1,h2⟩ | ⟨h1,h2⟩
 . exact .of_left (intBits_le_64 h1 h2)
 . exact .of_right (intBits_le_64 h1 h2)
theorem zCe:OpR X (binaryOp .Add) (rI0 fun i j=>.int (i+j)):=opI0 fun _ _ _ _ _ _ _ q=>add_int q
theorem zHQ:OpR X (binaryOp .Sub) (rI0 fun i j=>.int (i-j)):=opI0 fun _ _ _ _ _ _ _ q=>sub_int q
theorem zF1:OpR X (binaryOp .Mult) (rI CMul fun i j=>.int (i*j)):=opI fun _ _ _ _ _ _ _ hc q=>mul_int q hc.ok
theorem zFO:OpR X (binaryOp .FloorDiv) (rI CDiv fun i j=>.int (i/j)):=opI fun i j _ _ _ _ _ hc q=>by
 have h1:(0:Int)<j:=hc.1
 have h2:j<1073741824:=hc.2
 exact floordiv_int (by omega) (by rw[Int.fdiv_eq_ediv_of_nonneg i (by omega)];exact q) (.inl (PyProof.noPylong_small (by omega)))
theorem zEM:OpR X (binaryOp .Mod) (rI (fun _ j=>0<j) fun i j=>.int (i%j)):=opI fun i j _ _ _ _ _ hc q=>by
 have h1:(0:Int)<j:=hc
 exact mod_int' (by omega) (by rw[Int.fmod_eq_emod_of_nonneg i (by omega)];exact q)
theorem op_pow:OpR X (binaryOp .Pow) (rI CPow fun i j=>.int (i ^ j.toNat)):=opI fun _ _ _ _ _ _ _ hc q=>pow_int_small hc.1 hc.2.1 hc.2.2 q
end
noncomputable def scal:V->V->Bool
 | .non,.non=>true | .non,.int _=>true | .int _,.non=>true | .non,.bl _=>true | .bl _,.non=>true | .non,.str _=>true | .str _,.non=>true
 | .int _,.int _=>true | .bl _,.bl _=>true | .str _,.str _=>true | .byt _,.byt _=>true
 | .int _,.str _=>true | .str _,.int _=>true | .bl _,.str _=>true | .str _,.bl _=>true
 | _,_=>false
noncomputable def rEq:R2:=fun x y H Q=>scal x y=true/\Q (.bl (decide (x=y))) H
noncomputable def rNe:R2:=fun x y H Q=>scal x y=true/\Q (.bl (!decide (x=y))) H
theorem zJc {i j:Int}:decide (V.int i=V.int j)=(i==j):=by
 rw[Bool.eq_iff_iff]
 simp
theorem zLK {i j:Bool}:decide (V.bl i=V.bl j)=(i==j):=by
 rw[Bool.eq_iff_iff]
 simp
theorem zJb {i j:Str}:decide (V.str i=V.str j)=(i==j):=by
 rw[Bool.eq_iff_iff]
 simp
theorem zJd {i j:Array UInt8}:decide (V.byt i=V.byt j)=(i.toList==j.toList):=by
 rw[Bool.eq_iff_iff]
 cases i
 cases j
 simp
section
variable {X:Cx}{a b c:Expr}{ta tb tc:TE}{pos:Pos}
theorem zA6 {pins:List (Addr×Obj)}{σ:St}{H:Hp}{s:Shared}{Q:VK}{k k':Bool}(I:Inv X pins σ H s)(q:Q (.bl k) H)(e:k=k'):EP X pins σ Q (.bool k') s:=by
 subst e
 exact⟨.bl k,H,I,rfl,q⟩
theorem zDC:OpR X (compareOp .Eq) rEq:=by
 intro pins s σ H x y v u Q I rx ry h
 obtain⟨hs,q⟩:=h
 cases x with
 | non=>
  cases rx
  cases y with
  | non=>cases ry;exact PySem.EqNone.eq_none_none (zA6 I q (by simp))
  | bl j=>cases ry;exact PySem.EqNone.eq_none_bool (zA6 I q (by simp))
  | int j=>obtain⟨t',rfl⟩:=ry;exact PySem.EqNone.eq_none_int (zA6 I q (by simp))
  | str j=>obtain⟨t',rfl⟩:=ry;exact PySem.EqNone.eq_none_str (zA6 I q (by simp))
  | _=>exact absurd (show false=true from hs) zg
 | bl i=>
  cases rx
  cases y with
  | non=>cases ry;exact PySem.EqNone.eq_bool_none (zA6 I q (by simp))
  | bl j=>cases ry;exact eq_bool (zA6 I q zLK)
  | str j=>obtain⟨t',rfl⟩:=ry;exact PySem.EqMixed.eq_bool_str (zA6 I q (by simp))
  | _=>exact absurd (show false=true from hs) zg
 | int i=>
  obtain⟨t,rfl⟩:=rx
  cases y with
  | non=>cases ry;exact PySem.EqNone.eq_int_none (zA6 I q (by simp))
  | int j=>obtain⟨t',rfl⟩:=ry;exact eq_int (zA6 I q zJc)
  | str j=>obtain⟨t',rfl⟩:=ry;exact PySem.EqMixed.eq_int_str (zA6 I q (by simp))
  | _=>exact absurd (show false=true from hs) zg
 | str i=>
  obtain⟨t,rfl⟩:=rx
  cases y with
  | non=>cases ry;exact PySem.EqNone.eq_str_none (zA6 I q (by simp))
  | bl j=>cases ry;exact PySem.EqMixed.eq_str_bool (zA6 I q (by simp))
  | int j=>obtain⟨t',rfl⟩:=ry;exact PySem.EqMixed.eq_str_int (zA6 I q (by simp))
  | str j=>obtain⟨t',rfl⟩:=ry;exact eq_str (zA6 I q zJb)
  | _=>exact absurd (show false=true from hs) zg
 | byt i=>
  obtain⟨t,rfl⟩:=rx
  cases y with
  | byt j=>obtain⟨t',rfl⟩:=ry;exact PySem.W.eq_bytes (zA6 I q zJd)
  | _=>exact absurd (show false=true from hs) zg
 | _=>cases y <;> exact absurd (show false=true from hs) zg
theorem op_ne:OpR X (compareOp .NotEq) rNe:=by
 intro pins s σ H x y v u Q I rx ry h
 obtain⟨hs,q⟩:=h
 cases x with
 | non=>
  cases rx
  cases y with
  | non=>cases ry;exact PySem.EqNone.ne_none_none (zA6 I q (by simp))
  | bl j=>cases ry;exact PySem.EqNone.ne_none_bool (zA6 I q (by simp))
  | int j=>obtain⟨t',rfl⟩:=ry;exact PySem.EqNone.ne_none_int (zA6 I q (by simp))
  | str j=>obtain⟨t',rfl⟩:=ry;exact PySem.EqNone.ne_none_str (zA6 I q (by simp))
  | _=>exact absurd (show false=true from hs) zg
 | bl i=>
  cases rx
  cases y with
  | non=>cases ry;exact PySem.EqNone.ne_bool_none (zA6 I q (by simp))
  | bl j=>cases ry;exact ne_bool (zA6 I q (congrArg not zLK))
  | str j=>obtain⟨t',rfl⟩:=ry;exact PySem.EqMixed.ne_bool_str (zA6 I q (by simp))
  | _=>exact absurd (show false=true from hs) zg
 | int i=>
  obtain⟨t,rfl⟩:=rx
  cases y with
  | non=>cases ry;exact PySem.EqNone.ne_int_none (zA6 I q (by simp))
  | int j=>obtain⟨t',rfl⟩:=ry;exact ne_int (zA6 I q (congrArg not zJc))
  | str j=>obtain⟨t',rfl⟩:=ry;exact PySem.EqMixed.ne_int_str (zA6 I q (by simp))
  | _=>exact absurd (show false=true from hs) zg
 | str i=>
  obtain⟨t,rfl⟩:=rx
  cases y with
  | non=>cases ry;exact PySem.EqNone.ne_str_none (zA6 I q (by simp))
  | bl j=>cases ry;exact PySem.EqMixed.ne_str_bool (zA6 I q (by simp))
  | int j=>obtain⟨t',rfl⟩:=ry;exact PySem.EqMixed.ne_str_int (zA6 I q (by simp))
  | str j=>obtain⟨t',rfl⟩:=ry;exact ne_str (zA6 I q (congrArg not zJb))
  | _=>exact absurd (show false=true from hs) zg
 | byt i=>
  obtain⟨t,rfl⟩:=rx
  cases y with
  | byt j=>obtain⟨t',rfl⟩:=ry;exact PySem.W.ne_bytes (zA6 I q (congrArg not zJd))
  | _=>exact absurd (show false=true from hs) zg
 | _=>cases y <;> exact absurd (show false=true from hs) zg
theorem zIz:OpR X (compareOp .Lt) (rI0 fun i j=>.bl (decide (i<j))):=opB0 fun _ _ _ _ _ _ _ q=>lt_int q
theorem zI0:OpR X (compareOp .LtE) (rI0 fun i j=>.bl (decide (i<=j))):=opB0 fun _ _ _ _ _ _ _ q=>le_int q
theorem zFN:OpR X (compareOp .Gt) (rI0 fun i j=>.bl (decide (j<i))):=opB0 fun _ _ _ _ _ _ _ q=>gt_int q
theorem op_ge:OpR X (compareOp .GtE) (rI0 fun i j=>.bl (decide (j<=i))):=opB0 fun _ _ _ _ _ _ _ q=>ge_int q
theorem zHR:OpR X (compareOp .Is) (fun x y H Q=>y = .non/\Q (.bl (decide (x = .non))) H):=by
 intro pins s σ H x y v u Q I rx ry h
 obtain⟨rfl,q⟩:=h
 cases ry
 refine is_none_gen (zA6 I q ?_)
 cases x <;> first
  | (cases rx;rfl)
  | (obtain⟨t,rfl⟩:=rx;rfl)
theorem zGt:OpR X (compareOp .IsNot) (fun x y H Q=>y = .non/\Q (.bl (!decide (x = .non))) H):=by
 intro pins s σ H x y v u Q I rx ry h
 obtain⟨rfl,q⟩:=h
 cases ry
 refine isnot_none_gen (zA6 I q ?_)
 cases x <;> first
  | (cases rx;rfl)
  | (obtain⟨t,rfl⟩:=rx;rfl)
theorem zAZ (b:Expr){op:CmpOp}(h:op ≠ .In:=by decide)(h2:op ≠ .NotIn:=by decide):behindInMarks op b=false:=by
 have e1:(op==CmpOp.In)=false:=by cases op <;> first | rfl | exact absurd rfl h
 have e2:(op==CmpOp.NotIn)=false:=by cases op <;> first | rfl | exact absurd rfl h2
 cases b <;> simp[behindInMarks,e1,e2]
theorem zCr {op:CmpOp}{r:R2}(ho:OpR X (compareOp op) r)(ha:PE X a ta)(hb:PE X b tb)(hm:behindInMarks op b=false):PE X (.Compare a [op] [b] pos) (tOp r ta tb):=by
 intro pins s σ H Q I h
 exact wpAny_Compare1 (binT ha hb I h fun v u s2 x y H2 I2 rx ry q=>ho pins s2 σ H2 x y v u Q I2 rx ry q) hm
noncomputable def tTest (t:TE):TT:=fun σ H Q=>t σ H fun x H'=>∃k,x = .bl k/\Q k H'
theorem zAG {op:CmpOp}{r:R2}(ho:OpR X (compareOp op) r)(ha:PE X a ta)(hb:PE X b tb)(hm:behindInMarks op b=false):PT X (.Compare a [op] [b] pos) (tTest (tOp r ta tb)):=by
 intro pins s σ H Q I h
 refine wpAny_isTrue_Compare1 (thn (ha pins s σ H _ I h) fun v s1 ⟨x,H1,I1,r1,q1⟩=>thn (hb pins s1 σ H1 _ I1 q1) fun u s2 ⟨y,H2,I2,r2,q2⟩=>
  thn (ho pins s2 σ H2 x y v u _ I2 r1 r2 q2) fun c s3 ⟨z,H3,I3,r3,k,e,q3⟩=>?_) hm
 subst e
 cases r3
 exact zA9 ⟨H3,I3,q3⟩
noncomputable def TruV (K:PySem.W.Frag)(x:V)(H:Hp)(k:Bool):Prop:=
 match x with
 | .non=>k=false
 | .bl b=>k=b
 | .int i=>k=(i != 0)
 | .str y=>y.length<=sizeLine/\k=((y.length:Int) != 0)
 | .byt y=>y.size<=sizeLine/\k=((y.size:Int) != 0)
 | .ref p=>(∃xs,SqL K H p xs/\k = !xs.isEmpty)\/(∃xs,SqT K H p xs/\k = !xs.isEmpty)\/∃kvs,H p=some (.dK kvs)/\k = !kvs.isEmpty
 | _=>False
theorem zH7 {κ:Type}{kvs:List (κ×V)}{vs:List (κ×Value)}(r:KV kvs vs):(!vs.isEmpty) = !kvs.isEmpty:=by
 cases r <;> rfl
theorem zE7 {xs:List V}{its:List Value}(r:zBB xs its):(!its.toArray.isEmpty) = !xs.isEmpty:=by
 cases r <;> simp
theorem zF6:(sizeLine:Nat)<2 ^ 63:=by rw[sizeLine_eq];decide
theorem tru_ok:TruR X (fun x H Q=>∃k,TruV X.K x H k/\Q k H):=by
 intro pins s σ H x v Q I rx h
 obtain⟨k,e,q⟩:=h
 have hl:=zF6
 have hs:sizeLine=16777216:=sizeLine_eq
 cases x with
 | non=>
  cases rx
  have e':k=false:=e
  subst e'
  exact truthy_none ⟨H,I,q⟩
 | bl b=>
  cases rx
  have e':k=b:=e
  subst e'
  exact zA9 ⟨H,I,q⟩
 | int i=>
  obtain⟨t,rfl⟩:=rx
  have e':k=(i != 0):=e
  subst e'
  exact PySem.P.truthy_int ⟨H,I,q⟩
 | str y=>
  obtain⟨t,rfl⟩:=rx
  obtain⟨hy,e'⟩:y.length<=sizeLine/\k=((y.length:Int) != 0):=e
  subst e'
  exact PySem.P.truthy_str (by omega) ⟨H,I.tok _,q⟩
 | byt y=>
  obtain⟨t,rfl⟩:=rx
  obtain⟨hy,e'⟩:y.size<=sizeLine/\k=((y.size:Int) != 0):=e
  subst e'
  exact PySem.W.truthy_bytes (by omega) ⟨H,I.tok _,q⟩
 | ref p=>
  cases rx
  have e':(∃xs,SqL X.K H p xs/\k = !xs.isEmpty)\/(∃xs,SqT X.K H p xs/\k = !xs.isEmpty)\/∃kvs,H p=some (.dK kvs)/\k = !kvs.isEmpty:=e
  rcases e' with ⟨xs,hx,e'⟩ | ⟨xs,hx,e'⟩ | ⟨kvs,hx,e'⟩
  . subst e'
    obtain⟨its,r,pl,hz⟩:=I.list hx
    have hlen:=r.length
    exact wpAny_truthy_list pl.isList (by simp only[zS];omega) ⟨H,I.tok _,by rw[zE7 r];exact q⟩
  . subst e'
    obtain⟨its,r,pl,hz⟩:=I.tuple hx
    have hlen:=r.length
    exact truthy_tuple pl (by simp only[zS];omega) ⟨H,I.tok _,by rw[zE7 r];exact q⟩
  . subst e'
    obtain⟨hz,hS,vs,r,m⟩:kvs.length<=sizeLine/\(p==sysModules)=false/\∃vs,KV kvs vs/\s.heap.DictOf (zA7 X.prog X.w) p vs:=I.hok p _ hx
    have hlen:kvs.length=vs.length:=Paired.length r
    exact wpAny_truthy_dict hS m (by omega) ⟨H,I.tok _,by rw[zH7 r];exact q⟩
 | _=>exact (show False from e).elim
theorem zKN (ha:PE X a ta)(he:∀whole,isTrue a X.env whole=(do let v <-whole;standAt a.pos;holding [v] (truthy v))) :
 PT X a (fun σ H Q=>ta σ H fun x H'=>∃k,TruV X.K x H' k/\Q k H'):=by
 intro pins s σ H Q I h
 exact isTrue_plain (thn (ha pins s σ H _ I h) fun v s1 ⟨x,H1,I1,r1,q1⟩=>tru_ok pins s1 σ H1 x v Q I1 r1 q1) (he _)
theorem zDB {x:V}{us:List Value}(r:zBB [x] us):∃u,us=[u]/\zBn x u:=by
 cases r with
 | cons r1 r2=>cases r2;exact⟨_,rfl,r1⟩
theorem vals2 {x y:V}{us:List Value}(r:zBB [x,y] us):∃u w',us=[u,w']/\zBn x u/\zBn y w':=by
 cases r with
 | cons r1 r2=>
  cases r2 with
  | cons r3 r4=>cases r4;exact⟨_,_,rfl,r1,r3⟩
theorem zGT (hc:X.calm=true):zDN X (.builtin "min") (fun xs H Q=>∃i j,xs=[.int i,.int j]/\Q (.int (if j<i then j else i)) H):=by
 intro pins s σ H xs us Q I r h
 obtain⟨i,j,rfl,q⟩:=h
 obtain⟨u,w',rfl,⟨t,rfl⟩,⟨t',rfl⟩⟩:=vals2 r
 refine min_two_ints (I.ok.hd hc) fun h' tk k=>⟨_,H,I.kept k,?_,q⟩
 by_cases hj:j<i
 . rw[if_pos hj,if_pos hj];exact⟨_,rfl⟩
 . rw[if_neg hj,if_neg hj];exact⟨_,rfl⟩
end
end L2
namespace L2
open PySem PySem.Spec PyProof.Rows
structure ObjM (h:Heap)(x dx C:Addr)(mA:Str->Option Value):Prop where
 obj:h.get? x=some (PySem.W.instObj C dx)
 ns:h.Ns1 dx mA
 ne:dx≠x
theorem zJF {h:Heap}{dx:Addr}{mA:Str->Option Value}(n:h.Ns1 dx mA):∃od,h.get? dx=some od/\∀name,PySem.W.lookIn name od=some (mA name):=by
 obtain⟨o,es,ep,ho,hd,hk,_,hm⟩:=n
 refine⟨o,ho,fun name=>?_⟩
 have e:=hm name
 unfold nsFind findBy at e
 rw[<-Array.find?_toList] at e
 unfold PySem.W.lookIn
 rw[hd]
 dsimp only
 split
 . rename_i y q
   rw[q] at e
   exact congrArg some e
 . rename_i q
   rw[q] at e
   have a:es.toList.any (·.refKey)=false:=by
    rw[List.any_eq_false]
    intro y hy
    obtain⟨z,t,hkey⟩:=hk y (Array.mem_toList_iff.mp hy)
    simp[DictEntry.refKey,hkey]
   have a':¬ es.toList.any (·.refKey)=true:=by rw[a];exact zg
   rw[if_neg a']
   exact congrArg some e
theorem ObjM.look {h:Heap}{x dx C:Addr}{mA:Str->Option Value}(I:ObjM h x dx C mA):∃od,PySem.W.InstAt h x (PySem.W.instObj C dx) C (some od)/\∀name,PySem.W.lookIn name od=some (mA name):=
 let ⟨od,ho,hl⟩:=zJF I.ns
 ⟨od,⟨I.obj,rfl,rfl,ho⟩,hl⟩
section
variable {prog:Program}{w:World}{A:Around}{E:Value->Shared->Prop}{s:Shared}{K:PySem.W.Frag}{x dx C f:Addr}{mA:Str->Option Value}{name:Str}{v:Value}
end
noncomputable def zIN (f:Str)(v:V):List (Str×V)->List (Str×V)
 | []=>[(f,v)]
 | (g,x)::r=>if g=f then (g,v)::r else (g,x)::zIN f v r
theorem zEO (f g:Str)(v:V):∀fs:List (Str×V),(zIN f v fs).lookup g=if g=f then some v else fs.lookup g
 | []=>by
  show List.lookup g [(f,v)]=_
  by_cases h:g=f
  . have hb:(g==f)=true:=beq_iff_eq.mpr h
    simp only[List.lookup,hb,if_pos h]
  . have hb:(g==f)=false:=beq_eq_false_iff_ne.mpr h
    simp only[List.lookup,hb,if_neg h]
 | (k,x)::r=>by
  have ih:=zEO f g v r
  rw[show zIN f v ((k,x)::r)=(if k=f then (k,v)::r else (k,x)::zIN f v r) from rfl]
  by_cases hk:k=f
  . rw[if_pos hk]
    by_cases h:g=k
    . have hb:(g==k)=true:=beq_iff_eq.mpr h
      simp only[List.lookup,hb,if_pos (h.trans hk)]
    . have hb:(g==k)=false:=beq_eq_false_iff_ne.mpr h
      simp only[List.lookup,hb,if_neg (fun e:g=f=>h (e.trans hk.symm))]
  . rw[if_neg hk]
    by_cases h:g=k
    . have hb:(g==k)=true:=beq_iff_eq.mpr h
      simp only[List.lookup,hb,if_neg (fun e:g=f=>hk (h.symm.trans e))]
    . have hb:(g==k)=false:=beq_eq_false_iff_ne.mpr h
      simp only[List.lookup,hb]
      exact ih
theorem zEU (f:Str)(v:V):∀fs:List (Str×V),f∈(zIN f v fs).map (·.1)/\∀g,g∈fs.map (·.1)->g∈(zIN f v fs).map (·.1)
 | []=>⟨by simp[zIN],fun g h=>by simp at h⟩
 | (k,x)::r=>by
  obtain⟨i1,i2⟩:=zEU f v r
  rw[show zIN f v ((k,x)::r)=(if k=f then (k,v)::r else (k,x)::zIN f v r) from rfl]
  by_cases hk:k=f
  . rw[if_pos hk]
    subst hk
    exact⟨by simp,fun g h=>by simpa using h⟩
  . rw[if_neg hk]
    refine⟨?_,fun g h=>?_⟩
    . rw[zAV]
      exact zR _ i1
    . rw[zAV] at h ⊢
      rcases zT.mp h with e | e
      . exact zT.mpr (.inl e)
      . exact zR _ (i2 g e)
theorem zFc.some_of {v:V}{o:Option Value}(r:zFc (some v) o):∃u,o=some u/\zBn v u:=by
 cases o with
 | none=>exact (show False from r).elim
 | some u=>exact⟨u,rfl,r⟩
section
variable {P:Program}{w:World}{H H':Hp}{h h':Heap}{a C dx:Addr}{fs fs':List (Str×V)}
theorem zL6 (hok:HOk P w H h)(e:H a=some (.ins C dx fs)):∃mA,ObjM h a dx C mA/\(∀f,zFc (fs.lookup f) (mA f))/\PySem.Within mA (fs.map (·.1))/\fs.length<=1000/\H dx=some (.own a):=by
 obtain⟨d,z,ne,ob,mA,n,r,q⟩:=(show zBP P w H h a (.ins C dx fs) from hok a _ e)
 exact⟨mA,⟨ob,n,ne⟩,r,q,z,d⟩
end
structure Cls (K:PySem.W.Frag)(C:Addr):Prop where
 pg:PySem.W.plainGet K C Str.empty=true
 hd:PySem.W.hasDictIn K C=true
 po:PySem.W.plainOver K C=true
 sa:PySem.W.findIn K (.ref C) "__setattr__" = some (some (.builtin "object.__setattr__"))
theorem Cls.get {K:PySem.W.Frag}{C:Addr}(c:Cls K C)(f:Str):PySem.W.plainGet K C f=true:=c.pg
section
variable {X:Cx}{pins:List (Addr×Obj)}{σ:St}{H:Hp}{s:Shared}{a C dx:Addr}{fs:List (Str×V)}{f:Str}{v:V}{A:Around}{E:Value->Shared->Prop}
end
section
variable {X:Cx}{o e value:Expr}{f:Str}{pos pos' tpos:Pos}{ta tv:TE}
end
section
variable {X:Cx}{pins:List (Addr×Obj)}{σ:St}{H:Hp}{s:Shared}{A:Around}{E:Value->Shared->Prop}{Q:Value->Shared->Prop}{c:Value}{b:Bool}
inductive zIJ (K:PySem.W.Frag)(H:Hp):V->Value->Prop where
 | non:zIJ K H .non (.type "NoneType")
 | bl (x:Bool):zIJ K H (.bl x) (.type "bool")
 | int (i:Int):zIJ K H (.int i) (.type "int")
 | str (x:Str):zIJ K H (.str x) (.type "str")
 | flt (x:UInt64):zIJ K H (.flt x) (.type "float")
 | lst {a:Addr}{xs:List V}(e:H a=some (.lst xs)):zIJ K H (.ref a) (.type "list")
 | frz {a:Addr}{o:Obj}{xs:List V}(e:H a=some (.frz o (.lst xs))):zIJ K H (.ref a) (.type "list")
 | tup {a:Addr}{xs:List V}(e:H a=some (.tup xs)):zIJ K H (.ref a) (.type "tuple")
 | dK {a:Addr}{kvs:List (Key×V)}(e:H a=some (.dK kvs)):zIJ K H (.ref a) (.type "dict")
 | dT {a:Addr}{kvs:List (List Key×V)}(e:H a=some (.dT kvs)):zIJ K H (.ref a) (.type "dict")
 | ins {a C dx:Addr}{fs:List (Str×V)}(e:H a=some (.ins C dx fs))(cl:Cls K C)(ha:PySem.W.findIn K (.ref C) "__class__" = some (some (.builtin "object.__class__")))
  (hn:PySem.W.specialIn K (.builtin "object.__class__") "__get__" = some (some (.builtin "getset_descriptor.__get__"))) (htk:PySem.W.takesIn K (.builtin "object.__class__")=some true)
  (hm:PySem.W.mroIn K C (.type "object")=some true):zIJ K H (.ref a) (.ref C)
theorem zJO {x:V}{u t:Value}(I:Inv X pins σ H s)(rx:zBn x u)(ty:zIJ X.K H x t)(e:PySem.W.kitOne X.K t c=some b)(h:∀tk,Q (.bool b) { s with toks:=tk }) :
 wpAny (model X.prog X.w) A (call (.builtin "isinstance") [u,c]) Q E s:=by
 cases ty with
 | non=>cases (show u=Value.none from rx);exact PySem.W.kia_one PySem.W.kitx_none I.kIn True.intro e (fun z=>nomatch z) h
 | bl y=>cases (show u=Value.bool y from rx);exact PySem.W.kia_one PySem.W.kitx_bool I.kIn True.intro e (fun z=>nomatch z) h
 | int i=>obtain⟨t,q⟩:=(show ∃t,u=Value.int i t from rx);cases q;exact PySem.W.kia_one PySem.W.kitx_int I.kIn True.intro e (fun z=>nomatch z) h
 | str y=>obtain⟨t,q⟩:=(show ∃t,u=Value.str y t from rx);cases q;exact PySem.W.kia_one PySem.W.kitx_str I.kIn True.intro e (fun z=>nomatch z) h
 | flt y=>obtain⟨t,q⟩:=(show ∃t,u=Value.float y t from rx);cases q;exact PySem.W.kia_one PySem.W.kitx_float I.kIn True.intro e (fun z=>nomatch z) h
 | @lst a xs ea=>
  cases (show u=Value.ref a from rx)
  obtain⟨_,_,n,_,h1⟩:=(show zBP X.prog X.w H s.heap a (.lst xs) from I.hok a _ ea)
  exact PySem.W.kia_one PySem.W.kitx_list I.kIn ⟨_,h1,rfl⟩ e (fun z=>nomatch z) h
 | @frz a ob xs ea=>
  cases (show u=Value.ref a from rx)
  obtain⟨_,_,_,n,_,h1⟩:=(show zBP X.prog X.w H s.heap a (.frz ob (.lst xs)) from I.hok a _ ea)
  exact PySem.W.kia_one PySem.W.kitx_list I.kIn ⟨_,h1,rfl⟩ e (fun z=>nomatch z) h
 | @tup a xs ea=>
  cases (show u=Value.ref a from rx)
  obtain⟨_,_,_,p⟩:=(show zBP X.prog X.w H s.heap a (.tup xs) from I.hok a _ ea)
  obtain⟨o,h1,h2,_⟩:=p
  exact PySem.W.kia_one PySem.W.kitx_tuple I.kIn ⟨o,h1,h2⟩ e (fun z=>nomatch z) h
 | @dK a kvs ea=>
  cases (show u=Value.ref a from rx)
  obtain⟨_,_,vs,_,p⟩:=(show zBP X.prog X.w H s.heap a (.dK kvs) from I.hok a _ ea)
  obtain⟨o,es,ep,h1,h2,_⟩:=p
  exact PySem.W.kia_one PySem.W.kitx_dict I.kIn ⟨o,h1,h2.1⟩ e (fun z=>nomatch z) h
 | @dT a kvs ea=>
  cases (show u=Value.ref a from rx)
  obtain⟨_,_,xs,_,o,es,ep,h1,h2,_⟩:=(show zBP X.prog X.w H s.heap a (.dT kvs) from I.hok a _ ea)
  exact PySem.W.kia_one PySem.W.kitx_dict I.kIn ⟨o,h1,h2.1⟩ e (fun z=>nomatch z) h
 | @ins a C dx fs ea cl ha hn htk hm=>
  cases (show u=Value.ref a from rx)
  obtain⟨mA,O,_⟩:=zL6 I.hok ea
  obtain⟨od,J,_⟩:=O.look
  exact PySem.W.kia_one (PySem.W.kitx_own (cl.get _) cl.hd ha hn htk hm) I.kIn J e (fun z=>nomatch z) h
end
end L2
namespace L2
open PySem PySem.Spec PyProof.Rows
structure zDF (k:Nat)(A:Around):Prop where
 hd:A.handled=none
 dp:A.depth+3*k+5<recursionLimit
 un:A.units+16*k+200<cLine
 gd:A.guards=some []
theorem zDF.mono {j k:Nat}{A:Around}(r:zDF k A)(h:j<=k):zDF j A:=⟨r.hd,by have:=r.dp;omega,by have:=r.un;omega,r.gd⟩
theorem zDF.deeper {k:Nat}{A:Around}(r:zDF (k+1) A)(env:Env):zDF k (A.deeper env):=
 ⟨r.hd,by have:=r.dp;show A.depth+1+3*k+5<_;omega,by have:=r.un;show A.units+3+16*k+200<_;omega,r.gd⟩
theorem zDF.in1 {k:Nat}{A:Around}(r:zDF (k+1) A):zDF k A.in1:=
 ⟨r.hd,by have:=r.dp;show A.depth+3*k+5<_;omega,by have:=r.un;show A.units+1+16*k+200<_;omega,r.gd⟩
theorem zH3 {A:Around}{C:Addr}{us:List Value}{kw:List (Str×Value)}:(A.under (.builtin "type.__call__" ⟨.ref C::us,kw⟩)).depth=A.depth+1:=by
 first | rfl | simp[Around.under,Code.weight,Code.isCreation,Code.isGuard,Code.isCaller,Code.frames,Code.isFrame,guardIds]
theorem zH2 {A:Around}{C:Addr}{us:List Value}{kw:List (Str×Value)}:(A.under (.builtin "type.__call__" ⟨.ref C::us,kw⟩)).units=A.units+1:=by
 first | rfl | simp[Around.under,Code.cUnits,Code.frames,Code.isFrame]
theorem zDF.make {k:Nat}{A:Around}(r:zDF (k+1) A)(C:Addr)(us:List Value)(kw:List (Str×Value)):zDF k (A.under (.builtin "type.__call__" ⟨.ref C::us,kw⟩)):=
 ⟨r.hd,by have:=r.dp;rw[zH3];omega,by have:=r.un;rw[zH2];omega,by first | exact r.gd | (simp[Around.under,Code.guards,Code.isGuard,guardIds,pushGuards];exact r.gd)⟩
theorem zDF.depth {k:Nat}{A:Around}(r:zDF k A):A.depth<recursionLimit:=by have:=r.dp;omega
theorem zDF.units {k:Nat}{A:Around}(r:zDF k A):A.units+64<cLine:=by have:=r.un;omega
theorem zDF.units0 {k:Nat}{A:Around}(r:zDF k A):A.units<cLine:=by have:=r.un;omega
noncomputable def tNil:TA:=fun _ H Q=>Q [] H
noncomputable def zLX (ta:TE)(tr:TA):TA:=fun σ H Q=>ta σ H fun x H1=>tr σ H1 fun xs H2=>Q (x::xs) H2
section
variable {X:Cx}{e:Expr}{es:List Expr}{te:TE}{t:TA}{pos:Pos}
theorem zO:PA X [] tNil:=fun _ _ _ _ H Q I h=>Calls.spliced_nil ⟨[],H,I,.nil,h⟩
theorem zG (ha:PE X e te)(hr:PA X es t)(hs:starEach (e::es) X.env=(false,eval e X.env)::starEach es X.env:=by rfl):PA X (e::es) (zLX te t):=by
 intro pos pins s σ H Q I h
 rw[hs]
 show wpAny _ _ (spliced ((false,eval e X.env)::backTo pos (starEach es X.env))) _ _ s
 refine Calls.spliced_cons (thn (ha pins s σ H _ I h) fun u s1 ⟨x,H1,I1,r1,q1⟩=>?_)
 exact thn (hr pos pins s1 σ H1 _ I1 q1) fun us s2 ⟨xs,H2,I2,r2,q2⟩=>⟨x::xs,H2,I2,.cons r1 r2,q2⟩
noncomputable def tTup (t:TA):TE:=fun σ H Q=>t σ H fun xs H1=>xs.length<=sizeLine/\∀p,H1 p=none->Q (.ref p) (upd H1 p (.tup xs))
noncomputable def tLst (t:TA):TE:=fun σ H Q=>t σ H fun xs H1=>xs.length<=sizeLine/\∀p,H1 p=none->Q (.ref p) (upd H1 p (.lst xs))
theorem zBk {x1} (h:PA X es t):PE X (.Tuple es x1 pos) (tTup t):=by
 intro pins s σ H Q I hq
 refine wpAny_Tuple_spliced (thn (h pos pins s σ H _ I hq) fun us s1 ⟨xs,H1,I1,r,z,q⟩=>⟨by rw[<-r.length];exact z,?_⟩)
 have hf:H1 s1.heap.objs.size=none:=I1.hok.fresh (zH _)
 refine⟨.ref s1.heap.objs.size,upd H1 s1.heap.objs.size (.tup xs),I1.laid (t':=s1.toks) (fun b u e=>zF _ e) (zH _) ?_,rfl,q _ hf⟩
 exact⟨⟨z,_,zN _ rfl,rfl⟩,us,r,⟨_,zN _ rfl,rfl,_,rfl⟩⟩
theorem zCN (h:PA X es t):PE X (.List es pos) (tLst t):=by
 intro pins s σ H Q I hq
 refine wpAny_List_spliced (thn (h pos pins s σ H _ I hq) fun us s1 ⟨xs,H1,I1,r,z,q⟩=>⟨by rw[<-r.length];exact z,?_⟩)
 have hf:H1 s1.heap.objs.size=none:=I1.hok.fresh (zH _)
 refine⟨.ref s1.heap.objs.size,upd H1 s1.heap.objs.size (.lst xs),I1.laid (t':=s1.toks) (fun b u e=>zF _ e) (zH _) ?_,rfl,q _ hf⟩
 exact⟨z,us,0,r,zN _ rfl⟩
end
noncomputable abbrev Sp:=List V->Hp->VK->XK->Prop
noncomputable abbrev CXT:=List Env->Hp->Shared->XK->Value->Shared->Prop
structure zMO (P:Program)(w:World)(K:PySem.W.Frag)(mg:Str->Option Value)(base:Heap)(A:Around)(outer:List Env)(s:Shared)(H:Hp):Prop where
 frames:A.frames=some outer
 mod:Mod K mg base
 bs:∀b o,base.get? b=some o->s.heap.get? b=some o/\H b=none
 bsz:base.objs.size<=s.heap.objs.size
 funs:s.heap.FunFrames base outer
 frf:∀b∈frs outer,H b=none
 hok:HOk P w H s.heap
 bare:AllBare s.gens
noncomputable def CE (outer:List Env)(P:Program)(w:World)(H:Hp)(s:Shared)(Q:VK)(u:Value)(s':Shared):Prop:=
 ∃v H',s'.os=s.os/\AllBare s'.gens/\Un (frs outer) [] H H' s.heap s'.heap/\HOk P w H' s'.heap/\zBn v u/\Q v H'
noncomputable def CR (CX:CXT)(outer:List Env)(P:Program)(w:World)(H:Hp)(s:Shared)(Q:VK)(E:XK)(r:Result)(s':Shared):Prop:=
 match r with
 | .ok (.ret u)=>CE outer P w H s Q u s'
 | .ok _=>False
 | .error e=>CX outer H s E e s'
structure zAi (P:Program)(w:World)(K:PySem.W.Frag)(mg:Str->Option Value)(base:Heap)(CX:CXT)(k:Nat)(f:Addr)(fd:FuncData)(ps:List Str)(sp:Sp):Prop where
 len:∀vs H Q E,sp vs H Q E->vs.length=ps.length
 run:∀(A:Around)(outer:List Env)(s:Shared)(H:Hp)(args:Args)(us:List Value)(vs:List V)(Q:VK)(E:XK),zDF k A->zMO P w K mg base A outer s H->BindsTo s fd args (ps.zip us)->zBB vs us->sp vs H Q E ->
  codeAny (model P w) A (.call (.ref f) args) (CR CX outer P w H s Q E) s
theorem zAi.mono {P:Program}{w:World}{K:PySem.W.Frag}{mg:Str->Option Value}{base:Heap}{CX:CXT}{j k:Nat}{f:Addr}{fd:FuncData}{ps:List Str}{sp:Sp}(F:zAi P w K mg base CX j f fd ps sp)(h:j<=k) :
 zAi P w K mg base CX k f fd ps sp:=⟨F.len,fun A outer s H args us vs Q E hr=>F.run A outer s H args us vs Q E (hr.mono h)⟩
theorem zAi.imp {P:Program}{w:World}{K:PySem.W.Frag}{mg:Str->Option Value}{base:Heap}{CX:CXT}{k:Nat}{f:Addr}{fd:FuncData}{ps:List Str}{sp sp':Sp}(F:zAi P w K mg base CX k f fd ps sp)
 (h:∀vs H Q E,sp' vs H Q E->sp vs H Q E):zAi P w K mg base CX k f fd ps sp':=
 ⟨fun vs H Q E q=>F.len vs H Q E (h _ _ _ _ q),fun A outer s H args us vs Q E hr he hb hv hs=>F.run A outer s H args us vs Q E hr he hb hv (h _ _ _ _ hs)⟩
theorem zMO.make {P:Program}{w:World}{K:PySem.W.Frag}{mg:Str->Option Value}{base:Heap}{A:Around}{outer:List Env}{s:Shared}{H:Hp}(e:zMO P w K mg base A outer s H)(C:Addr)(us:List Value)(kw:List (Str×Value)) :
 zMO P w K mg base (A.under (.builtin "type.__call__" ⟨.ref C::us,kw⟩)) outer s H:=⟨by first | exact e.frames | (simpa [Around.under,Code.envs,Code.isFrame,pushEnvs] using e.frames),e.mod,e.bs,e.bsz,e.funs,e.frf,e.hok,e.bare⟩
section
variable {X:Cx}{pins:List (Addr×Obj)}{σ:St}{H:Hp}{s s':Shared}
theorem Inv.env0 (I:Inv X pins σ H s):zMO X.prog X.w X.K X.mg X.base X.A X.stack s H:=
 ⟨I.ok.frames,I.ok.mod,I.bs,zAf I.ok.bsz I.sz,I.stack,I.stkFree,I.hok,I.bare⟩
theorem Inv.after {Q:VK}{u:Value}(I:Inv X pins σ H s)(h:CE X.stack X.prog X.w H s Q u s'):EP X pins σ Q u s':=by
 obtain⟨v,H',os,bare,un,hok,r,q⟩:=h
 obtain⟨hh,g,d,t,os'⟩:=s'
 obtain rfl:os'=s.os:=os
 exact⟨v,H',I.call (h':=hh) (g':=g) (d':=d) (t':=t) (ch:=[]) un hok bare (fun b z=>absurd z (by simp)),r,q⟩
end
noncomputable def tCall (sp:Sp)(dvs:List V)(E:XK)(t:TA):TE:=fun σ H Q=>t σ H fun vs H1=>sp (vs++dvs) H1 Q E
noncomputable def zAA (K:PySem.W.Frag)(fd:FuncData)(ps:List Str)(ds:List Value):Prop:=
 ∀(s:Shared)(us:List Value),K.In s.heap->(us++ds).length=ps.length->BindsTo s fd ⟨us,[]⟩ (ps.zip (us++ds))
theorem zAA.all {K:PySem.W.Frag}{fd:FuncData}{ps:List Str}(h:∀us:List Value,us.length=ps.length->bindArgs fd ⟨us,[]⟩=pure (ps.zip us)):zAA K fd ps []:=fun s us _ hl=>by
 rw[zq] at hl ⊢
 exact .of_eq (h us hl)
noncomputable def zHk (CX:CXT)(X:Cx)(E:XK):Prop:=∀(pins:List (Addr×Obj))(σ:St)(H:Hp)(s:Shared)(e:Value)(s':Shared),Inv X pins σ H s->CX X.stack H s E e s'->X.xe e s'
section
variable {X:Cx}{CX:CXT}{k:Nat}{f C:Addr}{fd:FuncData}{ps:List Str}{sp:Sp}{dvs:List V}{ds:List Value}{E:XK}{x m:Str}{p pos apos:Pos}{e o:Expr}{es:List Expr}{ta:TE}{t:TA}
theorem run_fn {pins:List (Addr×Obj)}{σ:St}{H:Hp}{s:Shared}{Q:VK}{us:List Value}{vs:List V}(F:zAi X.prog X.w X.K X.mg X.base CX k f fd ps sp)(hr:zDF k X.A)(hb:zAA X.K fd ps ds)(hd:zBB dvs ds)(hx:zHk CX X E)
 (I:Inv X pins σ H s)(r:zBB vs us)(h:sp (vs++dvs) H Q E):wpAny (model X.prog X.w) X.A (call (.ref f) us) (EP X pins σ Q) X.xe s:=by
 have r2:zBB (vs++dvs) (us++ds):=r.append hd
 have hl:(us++ds).length=ps.length:=by rw[<-r2.length];exact F.len _ _ _ _ h
 refine zA5 (codeAny_mono (F.run X.A X.stack s H ⟨us,[]⟩ (us++ds) (vs++dvs) Q E hr I.env0 (hb s us I.kIn hl) r2 h) fun r s' hq=>?_)
 cases r with
 | error e=>exact hx pins σ H s e s' I hq
 | ok fl=>
  cases fl with
  | ret u=>exact I.after hq
  | next=>exact False.elim hq
  | brk=>exact False.elim hq
  | cont=>exact False.elim hq
theorem zp (F:zAi X.prog X.w X.K X.mg X.base CX k f fd ps sp)(hr:zDF k X.A)(hg:Gl X x)(hm:X.mg x=some (.ref f))(hk:PySem.W.keepIn X.K (.ref f)=true)(hb:zAA X.K fd ps ds)(hd:zBB dvs ds)(hx:zHk CX X E)
 (ha:PA X (e::es) t)(hdb:(x==("__debug__" : Str))=false:=by decide) (he:starEach (e::es) X.env=(false,eval e X.env)::starEach es X.env:=by rfl)(hpl:(backTo pos (starEach es X.env)).any (·.1)=false:=by rfl) :
 PE X (.Call (.Name x p) (e::es) [] pos) (tCall sp dvs E t):=by
 intro pins s σ H Q I h
 refine zAv (zES I hg hm ?_ hdb)
 refine PySem.W.callWith_K (h₀:=X.base) I.ok.mod.kin hk (thn (ha pos pins s σ H _ I h) fun us s1 ⟨vs,H1,I1,r,q⟩=>⟨I1.kIn,?_⟩) he hpl
 exact run_fn F hr hb hd hx I1 r q
end
section
variable {X:Cx}{CX:CXT}{k:Nat}{f C:Addr}{fd:FuncData}{ps ks:List Str}{sp:Sp}{E:XK}{x m:Str}{p pos apos kpos:Pos}{e o:Expr}{es:List Expr}{kws:List Keyword}{te ta:TE}{t tk:TA}{nm:Option Str}
variable {g:List Value->List Value->List Value}{gV:List V->List V->List V}
end
structure zAH (N P:List Str)(sc:Scope):Prop where
 kind:sc.kind = .function
 co:sc.isCoroutine=false
 gen:sc.isGenerator=false
 nd:N.Nodup
 pre:N.take P.length=P
 par:∀x∈P,sc.names.lookup x=some .local\/sc.names.lookup x=some .cell
 nofree:∀y∈sc.names,y.2 ≠ .free
theorem zGU {kindOf:Str->Option NameKind}{x:Str}:∀{binds:List (Str×Value)}{m:Str->Option Value},(∀v,(x,v)∉binds)->bindL kindOf binds m x=m x
 | [],_,_=>rfl
 | (n,v)::r,m,h=>by
  unfold bindL
  rw[zGU fun w hw=>h w (zR _ hw)]
  split
  . have:x≠n:=by rintro rfl;exact h v zY
    simp[this]
  . rfl
theorem zGW {kindOf:Str->Option NameKind}{x:Str}:∀{binds:List (Str×Value)}{m:Str->Option Value},(∀v,(x,v)∉binds)->bindC kindOf binds m x=m x
 | [],_,_=>rfl
 | (n,v)::r,m,h=>by
  unfold bindC
  rw[zGW fun w hw=>h w (zR _ hw)]
  split
  . rfl
  . have:x≠n:=by rintro rfl;exact h v zY
    simp[this]
theorem zGV {kindOf:Str->Option NameKind}{x:Str}{v:Value}:∀{P:List Str}{vs:List Value}{i:Nat}{m:Str->Option Value},P.Nodup->P[i]? = some x->vs[i]? = some v->kindOf x=some .local ->
 bindL kindOf (P.zip vs) m x=some v
 | [],_,_,_,_,h,_,_=>by simp at h
 | _::_,[],_,_,_,_,h,_=>by simp at h
 | p::P,w::vs,0,m,nd,h1,h2,hk=>by
  simp at h1 h2;subst h1;subst h2
  show bindL kindOf ((p,w)::P.zip vs) m p=_
  unfold bindL
  rw[zGU fun v hv=>(zAj.mp nd).1 (List.of_mem_zip hv).1,if_pos hk]
  simp
 | p::P,w::vs,i+1,m,nd,h1,h2,hk=>by
  show bindL kindOf ((p,w)::P.zip vs) m x=_
  unfold bindL
  exact zGV (i:=i) (zAj.mp nd).2 (by simpa using h1) (by simpa using h2) hk
theorem zGX {kindOf:Str->Option NameKind}{x:Str}{v:Value}:∀{P:List Str}{vs:List Value}{i:Nat}{m:Str->Option Value},P.Nodup->P[i]? = some x->vs[i]? = some v->kindOf x≠some .local ->
 bindC kindOf (P.zip vs) m x=some v
 | [],_,_,_,_,h,_,_=>by simp at h
 | _::_,[],_,_,_,_,h,_=>by simp at h
 | p::P,w::vs,0,m,nd,h1,h2,hk=>by
  simp at h1 h2;subst h1;subst h2
  show bindC kindOf ((p,w)::P.zip vs) m p=_
  unfold bindC
  rw[zGW fun v hv=>(zAj.mp nd).1 (List.of_mem_zip hv).1,if_neg hk]
  simp
 | p::P,w::vs,i+1,m,nd,h1,h2,hk=>by
  show bindC kindOf ((p,w)::P.zip vs) m x=_
  unfold bindC
  exact zGX (i:=i) (zAj.mp nd).2 (by simpa using h1) (by simpa using h2) hk
noncomputable def start (N:List Str)(vs:List V):St:=vs.map some++List.replicate (N.length-vs.length) none
noncomputable def zIE (CX:CXT)(P:Program)(w:World)(K:PySem.W.Frag)(mg:Str->Option Value)(base:Heap)(N:List Str)(qual:Str)(scope:Scope)(f:Addr)(cd:Value)(A:Around)(outer:List Env)(s:Shared)(H:Hp)(E:XK):Cx where
 prog:=P
 w:=w
 K:=K
 mg:=mg
 base:=base
 A:=A.deeper (envOfC qual scope s.heap.objs.size f cd)
 N:=N
 s₀:=s
 H₀:=H
 env:=envOfC qual scope s.heap.objs.size f cd
 outer:=outer
 stack:=envOfC qual scope s.heap.objs.size f cd::outer
 ex:=[]
 calm:=true
 fn:=fun _=>true
 pn:=[]
 xe:=fun e s'=>wpAny (model P w) (A.deeper (envOfC qual scope s.heap.objs.size f cd)) (leaving (envOfC qual scope s.heap.objs.size f cd) e) (fun _ s''=>CX outer H s E e s'') (fun e' s''=>CX outer H s E e' s'') s'
theorem zHi {sc:Scope}{n:Nat}{x:Str}(h:sc.names.lookup x=some .cell):∃c,(cellsFrom n sc.names []).lookup x=some c:=by
 have q:=PySem.W.cellsFrom_some sc.names n [] (.inl h)
 exact Option.isSome_iff_exists.mp q
theorem zJP {CX:CXT}{P:Program}{w:World}{K:PySem.W.Frag}{mg:Str->Option Value}{base:Heap}{N ps:List Str}{qual:Str}{scope:Scope}{f:Addr}{cd:Value}{A:Around}{outer:List Env}{s s1:Shared}{H:Hp}{E:XK}{us:List Value}{vs:List V}
 (S:zAH N ps scope)(hd:A.handled=none)(e0:zMO P w K mg base A outer s H)(hl:vs.length=ps.length)(r:zBB vs us)
 (x:InCallC s s.heap.objs.size (bindL (envOfC qual scope s.heap.objs.size f cd).kindOf (ps.zip us) fun _=>none) (cellsFrom (s.heap.objs.size+1) scope.names []) (bindC (envOfC qual scope s.heap.objs.size f cd).kindOf (ps.zip us) fun _=>none) s1) :
 Inv (zIE CX P w K mg base N qual scope f cd A outer s H E) [] (start N vs) H s1:=by
 have hpl:ps.length<=N.length:=by have:=congrArg List.length S.pre;rw[zt] at this;omega
 obtain⟨h1,tk,rfl,hk⟩:=x.done
 have noA:∀b:Addr,b∉(zIE CX P w K mg base N qual scope f cd A outer s H E).ex:=fun b z=>absurd (show b∈([]:List Addr) from z) (by simp)
 refine⟨⟨e0.mod,S.kind,rfl,rfl,zH _,fun y z c h1 h2=>?_,fun y hy=>?_,fun y c _ h=>?_,fun _=>hd,Around.frames_deeper e0.frames,.inr ⟨rfl,rfl⟩,fun b z=>absurd z (noA b),e0.bs,e0.bsz,fun b _ _=>noA b,fun b z=>absurd z (noA b),e0.funs,e0.frf⟩,
  rfl,e0.bare,Un.kept hk,⟨_,x.toInCall.ns,fun i y v h1 h2 h3=>?_⟩,fun y c h=>⟨_,x.cell y c h⟩,e0.hok.fresh (zH _),fun y c h=>?_,fun p hp=>absurd (show p∈([]:List (Addr×Obj)) from hp) (by simp),e0.hok.kept hk,?_⟩
 . exact name_of_addr x.apart (PySem.mem_of_lookup h1) (PySem.mem_of_lookup h2)
 . have hy:scope.names.lookup y=some .cell\/scope.names.lookup y=some .free:=hy
   rcases hy with hy | hy
   . exact zHi hy
   . exact absurd rfl (S.nofree _ (PySem.mem_of_lookup hy))
 . exact zAl (x.above y c (PySem.mem_of_lookup h))
 . have hi:i<vs.length:=by
    unfold start at h2
    by_cases hi:i<vs.length
    . exact hi
    . rw[zk (by simpa using hi)] at h2
      rw[List.getElem?_replicate] at h2
      split at h2 <;> cases h2
   have ha:vs[i]? = some v:=by
    unfold start at h2
    rw[zj (by simpa using hi),zQ] at h2
    cases e:vs[i]? with
    | none=>rw[e] at h2;cases h2
    | some a=>rw[e] at h2;cases h2;rfl
   obtain⟨u,hu,rv⟩:=r.get ha
   have hp:ps[i]? = some y:=by
    rw[<-S.pre,List.getElem?_take_of_lt (by omega)];exact h1
   have ndP:ps.Nodup:=by rw[<-S.pre];exact S.nd.sublist (List.take_sublist _ _)
   refine⟨u,rv,?_⟩
   rcases S.par y (zW hp) with k | k
   . exact .inl ⟨k,zGV ndP hp hu k⟩
   . obtain⟨c,e⟩:=zHi (n:=s.heap.objs.size+1) k
     refine .inr ⟨.inl k,c,e,?_⟩
     have q:=x.cell y c e
     rw[zGX ndP hp hu (by show scope.names.lookup y≠_;rw[k];decide)] at q
     exact q
 . exact e0.hok.fresh (zAl (x.above y c (PySem.mem_of_lookup h)))
 . unfold start
   show _=N.length
   rw[zC,zD,zAw]
   omega
theorem zME {CX:CXT}{P:Program}{w:World}{K:PySem.W.Frag}{mg:Str->Option Value}{base:Heap}{k:Nat}{f:Addr}{name qual:Str}{params:Arguments}{body:List Stmt}{scope:Scope}{dV kV doc pm cdv ct oc:Value}{an od:Option Addr}
 {osl:Array (Option Value)}{N ps:List Str}{sp:Sp}(lk:K.lookup f=some ⟨oc,od,.func (PySem.W.fnOf name qual params body scope dV kV doc pm an cdv ct),osl⟩)(hcd:PySem.W.codeIn K cdv qual=true)(S:zAH N ps scope)
 (len:∀vs H Q E,sp vs H Q E->vs.length=ps.length)
 (hbody:∀(A:Around)(outer:List Env)(s:Shared)(H:Hp)(vs:List V)(Q:VK)(E:XK),zDF k (A.deeper (envOfC qual scope s.heap.objs.size f cdv))->sp vs H Q E ->
  ∃t,PSs (zIE CX P w K mg base N qual scope f cdv A outer s H E) body t/\t { nx:=fun _ H'=>Q .non H',rt:=Q } (start N vs) H) :
 zAi P w K mg base CX (k+1) f (PySem.W.fnOf name qual params body scope dV kV doc pm an cdv ct) ps sp:=by
 refine⟨len,fun A outer s H args us vs Q E hr e0 hb r hsp=>?_⟩
 have hl:=len _ _ _ _ hsp
 have KX:K.In s.heap:=e0.mod.kin.keeps fun b o e=>(e0.bs b o e).1
 have lim:s.heap.NoLimit:=e0.mod.nolimit.keeps fun b o e=>(e0.bs b o e).1
 have hkind:∀y∈ps.zip us,scope.names.lookup y.1=some .local\/(scope.names.lookup y.1=some .cell/\((cellsFrom (s.heap.objs.size+1) scope.names []).lookup y.1).isSome=true):=fun ⟨n,v⟩ hy=>by
  rcases S.par n (List.of_mem_zip hy).1 with q | q
  . exact .inl q
  . exact .inr ⟨q,PySem.W.cellsFrom_some _ _ _ (.inl q)⟩
 refine codeAny_call_function hr.depth (KX _ _ lk) rfl S.co S.gen rfl (PySem.W.codeRec_of KX hcd) (hb _ _ _ _ ?_)
 refine wpAny_newFunctionEnv_cells S.kind hkind fun env he s1 x=>?_
 subst he
 refine⟨lim.keeps x.toInCall.keep,codeAny_func ?_⟩
 obtain⟨t,ht,hq⟩:=hbody A outer s H vs Q E (hr.deeper _) hsp
 have I:Inv (zIE CX P w K mg base N qual scope f cdv A outer s H E) [] (start N vs) H s1:=zJP S hr.hd e0 hl r x
 refine zAO (ht [] s1 (start N vs) H _ I hq) (fun fl s' hs=>?_) fun e s' hs=>hs
 have fin:∀{σ':St}{H':Hp}{v:V}{u:Value},Inv (zIE CX P w K mg base N qual scope f cdv A outer s H E) [] σ' H' s'->zBn v u->Q v H'->CE outer P w H s Q u s':=
  fun {σ' H' v u} J rv q=>⟨v,H',J.os,J.bare,J.base,J.hok,rv,q⟩
 cases fl with
 | ret u=>
  obtain⟨v,σ',H',J,rv,q⟩:=hs
  exact fin J rv q
 | next=>
  obtain⟨σ',H',J,q⟩:=hs
  exact fin (v:=V.non) (u:=Value.none) J rfl q
 | brk=>
  obtain⟨_,_,_,q⟩:=hs
  exact False.elim q
 | cont=>
  obtain⟨_,_,_,q⟩:=hs
  exact False.elim q
end L2
namespace L2
open PySem PySem.Spec PyProof.Rows
section
variable {X:Cx}{x:Str}{p pos:Pos}{e:Expr}{es:List Expr}{t:TA}{id T:String}{r:List V->Hp->VK->Prop}
noncomputable def tCB (r:List V->Hp->VK->Prop)(t:TA):TE:=fun σ H Q=>t σ H fun vs H1=>r vs H1 Q
theorem zAD (hc:zDN X (.builtin id) r)(hg:Gl X x)(hm:X.mg x=none)(hv:bootBuiltins x=some (.builtin id))(ha:PA X (e::es) t)(hn:x ≠ "__name__" := by decide) (hdb:(x==("__debug__" : Str))=false:=by decide)
 (he:starEach (e::es) X.env=(false,eval e X.env)::starEach es X.env:=by rfl)(hpl:(backTo pos (starEach es X.env)).any (·.1)=false:=by rfl):PE X (.Call (.Name x p) (e::es) [] pos) (tCB r t):=by
 intro pins s σ H Q I h
 refine zAv (zCx I hg hm hv ?_ hn hdb)
 exact PyProof.Rows.callWith_builtin1 (thn (ha pos pins s σ H _ I h) fun us s1 ⟨vs,H1,I1,r1,q1⟩=>hc pins s1 σ H1 vs us Q I1 r1 q1) he hpl
theorem zAu (hc:zDN X (.type T) r)(hg:Gl X x)(hm:X.mg x=none)(hv:bootBuiltins x=some (.type T))(ha:PA X (e::es) t)(hn:x ≠ "__name__" := by decide) (hdb:(x==("__debug__" : Str))=false:=by decide)
 (he:starEach (e::es) X.env=(false,eval e X.env)::starEach es X.env:=by rfl)(hpl:(backTo pos (starEach es X.env)).any (·.1)=false:=by rfl):PE X (.Call (.Name x p) (e::es) [] pos) (tCB r t):=by
 intro pins s σ H Q I h
 refine zAv (zCx I hg hm hv ?_ hn hdb)
 exact PyProof.Rows.callWith_type1 (thn (ha pos pins s σ H _ I h) fun us s1 ⟨vs,H1,I1,r1,q1⟩=>hc pins s1 σ H1 vs us Q I1 r1 q1) he hpl
end
end L2
namespace L2
open PySem PySem.Spec PyProof.Rows
section
variable {κ:Type} [DecidableEq κ]
noncomputable def zCQ (kvs:List (κ×V))(k:κ):Option V:=(kvs.find? fun kv=>decide (kv.1=k)).map (·.2)
noncomputable def zDH (kvs:List (κ×V))(k:κ)(v:V):List (κ×V):=
 if (kvs.any fun kv=>decide (kv.1=k))=true then kvs.map (fun kv=>if kv.1=k then (kv.1,v) else kv) else kvs++[(k,v)]
noncomputable def zCW (kvs:List (κ×V))(k:κ):List (κ×V):=kvs.filter fun kv=>decide (kv.1≠k)
theorem zHB {k:κ}:zCQ ([]:List (κ×V)) k=none:=rfl
theorem zBb {p:κ×V}{r:List (κ×V)}{k:κ}(e:p.1=k):zCQ (p::r) k=some p.2:=by simp[zCQ,List.find?_cons,e]
theorem zBS {p:κ×V}{r:List (κ×V)}{k:κ}(e:¬ p.1=k):zCQ (p::r) k=zCQ r k:=by simp[zCQ,List.find?_cons,e]
theorem zCF (k:κ):∀kvs:List (κ×V),(kvs.any fun kv=>decide (kv.1=k))=(zCQ kvs k).isSome
 | []=>rfl
 | p::r=>by
  rw[List.any_cons]
  by_cases e:p.1=k
  . simp only[zBb e,zP e,Bool.true_or,Option.isSome_some]
  . rw[zBS e,zZ e,Bool.false_or];exact zCF k r
theorem zHC (k j:κ)(y:V):∀kvs:List (κ×V),zCQ (kvs.map fun kv=>if kv.1=k then (kv.1,y) else kv) j=(zCQ kvs j).map fun x=>if j=k then y else x
 | []=>rfl
 | p::r=>by
  have ih:=zHC k j y r
  rw[zAV]
  by_cases h:p.1=k
  . rw[if_pos h]
    by_cases e:p.1=j
    . rw[zBb (p:=(p.1,y)) e,zBb e,zBG,if_pos (e.symm.trans h)]
    . rw[zBS (p:=(p.1,y)) e,zBS e,ih]
  . rw[if_neg h]
    by_cases e:p.1=j
    . rw[zBb (p:=p) e,zBb e,zBG,if_neg (fun z=>h (e.trans z))]
    . rw[zBS (p:=p) e,zBS e,ih]
theorem zFf (k j:κ)(y:V):∀kvs:List (κ×V),zCQ kvs k=none->zCQ (kvs++[(k,y)]) j=if j=k then some y else zCQ kvs j
 | [],_=>by
  by_cases e:k=j
  . rw[if_pos e.symm];exact zBb (p:=(k,y)) e
  . rw[if_neg (fun z=>e z.symm)];exact zBS (p:=(k,y)) e
 | p::r,hn=>by
  rw[List.cons_append]
  have hk:¬ p.1=k:=fun z=>by rw[zBb z] at hn;cases hn
  rw[zBS hk] at hn
  have ih:=zFf k j y r hn
  by_cases e:p.1=j
  . rw[zBb e,zBb e,if_neg (fun z=>hk (e.trans z))]
  . rw[zBS e,zBS e,ih]
theorem zDR (kvs:List (κ×V))(k j:κ)(y:V):zCQ (zDH kvs k y) j=if j=k then some y else zCQ kvs j:=by
 unfold zDH
 by_cases a:(kvs.any fun kv=>decide (kv.1=k))=true
 . rw[if_pos a,zHC]
   rw[zCF] at a
   by_cases e:j=k
   . obtain⟨x,hx⟩:=Option.isSome_iff_exists.mp a
     rw[if_pos e,e,hx,zBG,if_pos rfl]
   . rw[if_neg e]
     cases zCQ kvs j with
     | none=>rfl
     | some x=>rw[zBG,if_neg e]
 . rw[if_neg a]
   refine zFf k j y kvs ?_
   rw[zCF] at a
   cases q:zCQ kvs k with
   | none=>rfl
   | some x=>rw[q] at a;exact (a rfl).elim
theorem zCt (kvs:List (κ×V))(k:κ)(v:V):(zDH kvs k v).length<=kvs.length+1:=by
 unfold zDH
 split
 . rw[zD];omega
 . rw[zC,zd,List.length_nil];omega
theorem zFK {kvs:List (κ×V)}{k:κ}(v:V)(h:zCQ kvs k=none):zDH kvs k v=kvs++[(k,v)]:=by
 unfold zDH
 rw[zCF,h]
 exact if_neg (by decide)
theorem zFc.isSome_eq {o:Option V}{u:Option Value}(r:zFc o u):o.isSome=u.isSome:=by
 cases o with
 | none=>cases u with
  | none=>rfl
  | some _=>exact (show False from r).elim
 | some _=>cases u with
  | none=>exact (show False from r).elim
  | some _=>rfl
theorem zFc.getD {o:Option V}{u:Option Value}{d:V}{d':Value}(r:zFc o u)(rd:zBn d d'):zBn (o.getD d) (u.getD d'):=by
 cases o with
 | none=>cases u with
  | none=>exact rd
  | some _=>exact (show False from r).elim
 | some _=>cases u with
  | none=>exact (show False from r).elim
  | some _=>exact r
theorem KV.val {kvs:List (κ×V)}{vs:List (κ×Value)}(r:KV kvs vs)(k:κ):zFc (zCQ kvs k) (valueAt vs k):=by
 unfold KV at r
 induction r with
 | nil=>exact True.intro
 | @cons p q ps qs h t ih=>
  obtain⟨h1,h2⟩:=h
  by_cases e:p.1=k
  . have e':q.1=k:=h1.symm.trans e
    have b:valueAt (q::qs) k=some q.2:=by simp[valueAt,List.find?_cons,e']
    rw[zBb e,b];exact h2
  . have e':¬ q.1=k:=fun z=>e (h1.trans z)
    have b:valueAt (q::qs) k=valueAt qs k:=by simp[valueAt,List.find?_cons,e']
    rw[zBS e,b];exact ih
theorem KV.any {kvs:List (κ×V)}{vs:List (κ×Value)}(r:KV kvs vs)(k:κ):(kvs.any fun kv=>decide (kv.1=k))=vs.any fun kv=>decide (kv.1=k):=by
 unfold KV at r
 induction r with
 | nil=>rfl
 | cons h t ih=>rw[List.any_cons,List.any_cons,ih,h.1]
theorem KV.repl {kvs:List (κ×V)}{vs:List (κ×Value)}(r:KV kvs vs)(k:κ){y:V}{u:Value}(ry:zBn y u) :
 KV (kvs.map fun kv=>if kv.1=k then (kv.1,y) else kv) (vs.map fun kv=>if kv.1=k then (kv.1,u) else kv):=by
 unfold KV at r ⊢
 induction r with
 | nil=>exact .nil
 | @cons p q ps qs h t ih=>
  rw[zAV,zAV]
  refine .cons ?_ ih
  obtain⟨h1,h2⟩:=h
  by_cases e:p.1=k
  . rw[if_pos e,if_pos (h1.symm.trans e)];exact⟨h1,ry⟩
  . rw[if_neg e,if_neg (fun z=>e (h1.trans z))];exact⟨h1,h2⟩
theorem KV.put {kvs:List (κ×V)}{vs:List (κ×Value)}(r:KV kvs vs)(k:κ){y:V}{u:Value}(ry:zBn y u):KV (zDH kvs k y) (stored vs k u):=by
 unfold zDH stored
 rw[r.any k]
 by_cases e:(vs.any fun kv=>decide (kv.1=k))=true
 . rw[if_pos e,if_pos e];exact r.repl k ry
 . rw[if_neg e,if_neg e];exact Paired.snoc r ⟨rfl,ry⟩
theorem KV.drop {kvs:List (κ×V)}{vs:List (κ×Value)}(r:KV kvs vs)(k:κ):KV (zCW kvs k) (without vs k):=by
 unfold KV at r ⊢
 unfold zCW without
 induction r with
 | nil=>exact .nil
 | @cons p q ps qs h t ih=>
  obtain⟨h1,h2⟩:=h
  rw[List.filter_cons,List.filter_cons]
  by_cases e:p.1=k
  . have a:¬ decide (p.1≠k)=true:=by simp[e]
    have b:¬ decide (q.1≠k)=true:=by simp[h1.symm.trans e]
    rw[if_neg a,if_neg b];exact ih
  . have e':¬ q.1=k:=fun z=>e (h1.trans z)
    have a:decide (p.1≠k)=true:=by simp[e]
    have b:decide (q.1≠k)=true:=by simp[e']
    rw[if_pos a,if_pos b];exact .cons ⟨h1,h2⟩ ih
theorem KV.length {kvs:List (κ×V)}{vs:List (κ×Value)}(r:KV kvs vs):kvs.length=vs.length:=Paired.length r
theorem zKj (kvs:List (κ×V))(k:κ):(zCW kvs k).length<=kvs.length:=zAg _ _
end
theorem zGB {P:Program}{w:World}{k:Key}{u:Value}(r:zBn (kV k) u):(zA7 P w).is k u=true:=by
 cases k with
 | inl i=>obtain⟨t,e⟩:=(show ∃t,u=Value.int i t from r);subst e;exact zGv P w i t
 | inr x=>obtain⟨t,e⟩:=(show ∃t,u=Value.str x t from r);subst e;exact zGu P w x t
theorem zGC {P:Program}{w:World}:∀{ks:List Key}{us:List Value},zBB (ks.map kV) us->ItemsAre (zA7 P w) ks us
 | [],_,r=>by rw[List.map_nil] at r;cases r;exact .nil
 | k::ks,_,r=>by
  rw[zAV] at r
  cases r with
  | cons h t=>exact .cons (zGB h) (zGC t)
noncomputable abbrev KT (H:Hp):List (List Key×V)->List (List Key×Addr×Value)->Prop:=Paired fun p q=>p.1=q.1/\H q.2.1=some (.tup (p.1.map kV))/\zBn p.2 q.2.2
theorem KT.val {H:Hp}{kvs:List (List Key×V)}{xs:List (List Key×Addr×Value)}(r:KT H kvs xs)(k:List Key):zFc (zCQ kvs k) ((atKey xs k).map (·.2)):=by
 induction r with
 | nil=>exact True.intro
 | @cons p q ps qs h t ih=>
  obtain⟨h1,_,h2⟩:=h
  by_cases e:p.1=k
  . have e':q.1=k:=h1.symm.trans e
    have b:atKey (q::qs) k=some q.2:=by simp[atKey,List.find?_cons,e']
    rw[zBb e,b];exact h2
  . have e':¬ q.1=k:=fun z=>e (h1.trans z)
    have b:atKey (q::qs) k=atKey qs k:=by simp[atKey,List.find?_cons,e']
    rw[zBS e,b];exact ih
theorem KT.repl {H:Hp}{kvs:List (List Key×V)}{xs:List (List Key×Addr×Value)}(r:KT H kvs xs)(k:List Key){y:V}{u:Value}(ry:zBn y u) :
 KT H (kvs.map fun kv=>if kv.1=k then (kv.1,y) else kv) (xs.map (putAt k u)):=by
 induction r with
 | nil=>exact .nil
 | @cons p q ps qs h t ih=>
  rw[zAV,zAV]
  refine .cons ?_ ih
  obtain⟨h1,h2,h3⟩:=h
  unfold putAt
  by_cases e:p.1=k
  . rw[if_pos e,if_pos (h1.symm.trans e)];exact⟨h1,h2,ry⟩
  . rw[if_neg e,if_neg (fun z=>e (h1.trans z))];exact⟨h1,h2,h3⟩
theorem KT.put {H:Hp}{kvs:List (List Key×V)}{xs:List (List Key×Addr×Value)}(r:KT H kvs xs)(k:List Key){b:Addr}{y:V}{u:Value}(hb:H b=some (.tup (k.map kV)))(ry:zBn y u) :
 KT H (zDH kvs k y) (storedH xs k b u):=by
 have e:(kvs.any fun kv=>decide (kv.1=k))=(atKey xs k).isSome:=by
  rw[zCF,(r.val k).isSome_eq,Option.isSome_map]
 unfold zDH storedH
 rw[e]
 by_cases q:(atKey xs k).isSome=true
 . rw[if_pos q,if_pos q];exact r.repl k ry
 . rw[if_neg q,if_neg q];exact Paired.snoc r ⟨rfl,hb,ry⟩
theorem KT.keeps {H H':Hp}{kvs:List (List Key×V)}{xs:List (List Key×Addr×Value)}(r:KT H kvs xs)(ht:∀b ys,H b=some (.tup ys)->H' b=some (.tup ys)):KT H' kvs xs:=
 Paired.mapP r fun _ _ z=>⟨z.1,ht _ _ z.2.1,z.2.2⟩
section
variable {P:Program}{w:World}{H:Hp}{h:Heap}{a:Addr}
theorem rd_of {u:HO}(ok:HOk P w H h)(e:Rd H a u):zBP P w H h a u:=e.ok ok
theorem zID {kvs:List (Key×V)}(ok:HOk P w H h)(e:Rd H a (.dK kvs)):kvs.length<=sizeLine/\(a==sysModules)=false/\∃vs,KV kvs vs/\h.DictOf (zA7 P w) a vs:=
 show zBP P w H h a (.dK kvs) from rd_of ok e
theorem zJY {kvs:List (Key×V)}(ok:HOk P w H h)(e:H a=some (.dK kvs)):kvs.length<=sizeLine/\(a==sysModules)=false/\∃vs,KV kvs vs/\h.DictOf (zA7 P w) a vs:=zID ok (.inl e)
theorem zF9 {ks:List Key}(ok:HOk P w H h)(e:H a=some (.tup (ks.map kV))):(tupleKind (zA7 P w)).is h ks a:=by
 obtain⟨_,its,r,o,h1,h2,n,h3⟩:=(show zBP P w H h a (.tup (ks.map kV)) from ok a _ e)
 exact⟨o,its.toArray,n,h1,h2,h3,by simpa using zGC r⟩
theorem zIC {kvs:List (List Key×V)}(ok:HOk P w H h)(e:Rd H a (.dT kvs)):kvs.length<=sizeLine/\(a==sysModules)=false /\
 ∃xs,KT H kvs xs/\h.DictOfH (tupleKind (zA7 P w)) a xs:=by
 obtain⟨z,y,xs,r,o,es,ep,h1,h2,h3,h4,h5⟩:=(show zBP P w H h a (.dT kvs) from rd_of ok e)
 refine⟨z,y,xs,r,o,es,ep,h1,h2,h3,h4,fun x hx=>?_,h5⟩
 have all:∀{l:List (List Key×V)}{m:List (List Key×Addr×Value)},KT H l m->∀x∈m,(tupleKind (zA7 P w)).is h x.1 x.2.1:=by
  intro l m q
  induction q with
  | nil=>intro x hx;exact nomatch hx
  | @cons p q ps qs hq t ih=>
   intro x hx
   rcases zT.mp hx with e | hx
   . subst e
     exact zF9 ok (by rw[<-hq.1];exact hq.2.1)
   . exact ih x hx
 exact all r x hx
theorem dt_of {kvs:List (List Key×V)}(ok:HOk P w H h)(e:H a=some (.dT kvs)):kvs.length<=sizeLine/\(a==sysModules)=false /\
 ∃xs,KT H kvs xs/\h.DictOfH (tupleKind (zA7 P w)) a xs:=zIC ok (.inl e)
end
noncomputable def zG9 (H:Hp)(a:Addr)(y:V)(r:Option V):Prop:=
 (∃kvs k,Rd H a (.dK kvs)/\y=kV k/\r=zCQ kvs k)\/∃kvs k b,Rd H a (.dT kvs)/\y = .ref b/\H b=some (.tup (k.map kV))/\r=zCQ kvs k
noncomputable def zKs (H:Hp)(a:Addr)(y v:V)(H':Hp):Prop:=
 (∃kvs k,H a=some (.dK kvs)/\y=kV k/\kvs.length<sizeLine/\H'=upd H a (.dK (zDH kvs k v))) \/
 ∃kvs k b,H a=some (.dT kvs)/\y = .ref b/\H b=some (.tup (k.map kV))/\kvs.length<sizeLine/\H'=upd H a (.dT (zDH kvs k v))
theorem zG9.k {H:Hp}{a:Addr}{kvs:List (Key×V)}{k:Key}(e:H a=some (.dK kvs)):zG9 H a (kV k) (zCQ kvs k):=.inl ⟨kvs,k,.inl e,rfl,rfl⟩
theorem zG9.t {H:Hp}{a b:Addr}{kvs:List (List Key×V)}{k:List Key}(e:H a=some (.dT kvs))(eb:H b=some (.tup (k.map kV))):zG9 H a (.ref b) (zCQ kvs k):=.inr ⟨kvs,k,b,.inl e,rfl,eb,rfl⟩
theorem zKs.k {H:Hp}{a:Addr}{kvs:List (Key×V)}{k:Key}{v:V}(e:H a=some (.dK kvs))(hl:kvs.length<sizeLine):zKs H a (kV k) v (upd H a (.dK (zDH kvs k v))):=.inl ⟨kvs,k,e,rfl,hl,rfl⟩
theorem zKs.t {H:Hp}{a b:Addr}{kvs:List (List Key×V)}{k:List Key}{v:V}(e:H a=some (.dT kvs))(eb:H b=some (.tup (k.map kV)))(hl:kvs.length<sizeLine) :
 zKs H a (.ref b) v (upd H a (.dT (zDH kvs k v))):=.inr ⟨kvs,k,b,e,rfl,eb,hl,rfl⟩
section
variable {X:Cx}{pins:List (Addr×Obj)}{σ:St}{H:Hp}{s:Shared}{a:Addr}{y v:V}{u r:Value}{o:Option V}{A:Around}{E:Value->Shared->Prop}
theorem Inv.big (I:Inv X pins σ H s):sysModules<s.heap.objs.size:=by
 have h:mainGlobals<s.heap.objs.size:=(I.mod.glob.keeps I.bk).lt
 exact Nat.lt_trans (by decide) h
theorem zJf {Q:Value->Shared->Prop}(hu:A.units+1<cLine)(I:Inv X pins σ H s)(g:zG9 H a y (some v))(ry:zBn y u)(h:∀w' s',Inv X pins σ H s'->zBn v w'->Q w' s') :
 wpAny (model X.prog X.w) A (getItem (.ref a) u) Q E s:=by
 rcases g with ⟨kvs,k,e,ey,l⟩ | ⟨kvs,k,b,e,ey,eb,l⟩
 . subst ey
   obtain⟨z,hd,vs,rel,dd⟩:=zID I.hok e
   obtain⟨w',hw,rw'⟩:=zFc.some_of (v:=v) (o:=valueAt vs k) (by rw[l];exact rel.val k)
   exact wpAny_getItem_of (zGB ry) dd.mapOf hw (h w' _ (I.tok _) rw')
 . subst ey
   cases (show u=Value.ref b from ry)
   obtain⟨z,hd,xs,rel,dd⟩:=zIC I.hok e
   obtain⟨w',hw,rw'⟩:=zFc.some_of (v:=v) (o:=(atKey xs k).map (·.2)) (by rw[l];exact rel.val k)
   obtain⟨p,hp,hp2⟩:=zAm.mp hw
   refine wpAny_getItem_heap (tupleKind_room_in1 hu) (zF9 I.hok eb) dd hp ?_
   rw[hp2]
   exact h w' _ (I.tok _) rw'
theorem d_in {Q:Value->Shared->Prop}(hu:A.units+1<cLine)(I:Inv X pins σ H s)(g:zG9 H a y o)(ry:zBn y u)(h:∀s',Inv X pins σ H s'->Q (.bool o.isSome) s') :
 wpAny (model X.prog X.w) A (compareOp .In u (.ref a)) Q E s:=by
 rcases g with ⟨kvs,k,e,ey,l⟩ | ⟨kvs,k,b,e,ey,eb,l⟩
 . subst ey
   obtain⟨z,hd,vs,rel,dd⟩:=zID I.hok e
   refine wpAny_in_of (zGB ry) hd dd.mapOf ?_
   rw[<-(rel.val k).isSome_eq,<-l]
   exact h _ (I.tok _)
 . subst ey
   cases (show u=Value.ref b from ry)
   obtain⟨z,hd,xs,rel,dd⟩:=zIC I.hok e
   refine wpAny_in_heap (tupleKind_room_in1 hu) (zF9 I.hok eb) hd dd ?_
   have q:=(rel.val k).isSome_eq
   rw[Option.isSome_map] at q
   rw[<-q,<-l]
   exact h _ (I.tok _)
theorem zFY {h':Heap}{t':Nat}{ob:HO}(I:Inv X pins σ H s)(mu:Mut (H a))(hs:Heap.SameBut a s.heap h')(he:∃q,h'.get? a=some q)(new:zBP X.prog X.w (upd H a ob) h' a ob) :
 Inv X pins σ (upd H a ob) { s with heap:=h',toks:=t' }:=
 I.write (x:=a) (e:=a) mu (.inl rfl) (fun b q hb z=>(hs.2 b hb).trans z) he new
theorem zJZ {P:Program}{w:World}{H':Hp}{h':Heap}{kvs:List (Key×V)}{vs:List (Key×Value)}(z:kvs.length<=sizeLine)(hd:(a==sysModules)=false)(rel:KV kvs vs)(dd:h'.DictOf (zA7 P w) a vs) :
 zBP P w H' h' a (.dK kvs):=⟨z,hd,vs,rel,dd⟩
theorem zJe {H':Hp}{Q:Unit->Shared->Prop}(hu:A.units+1<cLine)(I:Inv X pins σ H s)(g:zKs H a y v H')(ry:zBn y u)(rv:zBn v r)(h:∀s',Inv X pins σ H' s'->Q () s') :
 wpAny (model X.prog X.w) A (setItem (.ref a) u r) Q E s:=by
 rcases g with ⟨kvs,k,e,ey,l,eH⟩ | ⟨kvs,k,b,e,ey,eb,l,eH⟩
 . subst ey eH
   obtain⟨z,hd,vs,rel,dd⟩:=zJY I.hok e
   have hz:vs.length<=sizeLine:=by rw[<-rel.length];exact z
   have hl:(zDH kvs k v).length<=sizeLine:=by have:=zCt kvs k v;omega
   refine wpAny_setItem_pairs (hsz:=hz) (zGB ry) dd fun h' dd' hs=>h _ ?_
   have he:∃q,h'.get? a=some q:=let ⟨q,_,_,hq,_⟩:=dd';⟨q,hq⟩
   exact zFY I (by rw[e];exact True.intro) hs he (zJZ hl hd (rel.put k rv) dd')
 . subst ey eH
   cases (show u=Value.ref b from ry)
   obtain⟨z,hd,xs,rel,dd⟩:=dt_of I.hok e
   have hz:xs.length<=sizeLine:=by rw[<-Paired.length rel];exact z
   have hl:(zDH kvs k v).length<=sizeLine:=by have:=zCt kvs k v;omega
   refine wpAny_setItem_heap (hsz:=hz) (tupleKind_room_in1 hu) (zF9 I.hok eb) dd fun h' dd' hs=>h _ ?_
   obtain⟨q,es,ep,hq,h2,h3,h4,_,h5⟩:=dd'
   refine zFY I (by rw[e];exact True.intro) hs ⟨q,hq⟩ ⟨hl,hd,_,(rel.put k eb rv).keeps fun c ys ec=>?_,q,es,ep,hq,h2,h3,h4,h5⟩
   rw[zb (zB1 ec e (fun z=>nomatch z))]
   exact ec
end
section
variable {X:Cx}{pins:List (Addr×Obj)}{σ:St}{H:Hp}{s:Shared}{a:Addr}{kvs:List (Key×V)}{k:Key}{u:Value}{A:Around}{E:Value->Shared->Prop}
theorem d_pop {v:V}{more:List Value}{Q:Value->Shared->Prop}(I:Inv X pins σ H s)(e:H a=some (.dK kvs))(ry:zBn (kV k) u)(l:zCQ kvs k=some v)(hm:more=[]\/∃x,more=[x])
 (h:∀w' s',Inv X pins σ (upd H a (.dK (zCW kvs k))) s'->zBn v w'->Q w' s'):wpAny (model X.prog X.w) A (call (.builtin "dict.pop") (.ref a::u::more)) Q E s:=by
 obtain⟨z,hd,vs,rel,dd⟩:=zJY I.hok e
 obtain⟨w',hw,rw'⟩:=zFc.some_of (v:=v) (o:=valueAt vs k) (by rw[<-l];exact rel.val k)
 have hp:(keyPart u).isSome=true:=by
  cases k with
  | inl i=>obtain⟨t,q⟩:=(show ∃t,u=Value.int i t from ry);subst q;rfl
  | inr x=>obtain⟨t,q⟩:=(show ∃t,u=Value.str x t from ry);subst q;rfl
 have ha:argsOk "dict.pop" ⟨.ref a::u::more,[]⟩:=by
  rcases hm with q | ⟨x,q⟩
  . subst q;exact PySem.F.args_dict_pop_2 _ _
  . subst q;exact PySem.F.args_dict_pop_3 _ _ _
 refine call_meetsIn PySem.F.slot_dict_pop dd.typeIs PySem.F.entry_dict_pop ha (meets_dict_pop_there (zA7 X.prog X.w) a (zGB ry) more hm hp)
  ⟨vs,w',dd,by rw[<-rel.length];exact z,hw,fun h' dd' hs=>h w' _ ?_ rw'⟩
 have he:∃q,h'.get? a=some q:=let ⟨q,_,_,hq,_⟩:=dd';⟨q,hq⟩
 exact zFY I (by rw[e];exact True.intro) hs he (zJZ (zAf (zKj kvs k) z) hd (rel.drop k) dd')
end
noncomputable def NoSl (i:Expr):Prop:=∀ov iv,subscripted i false ov iv=operate [ov,iv] (getItem ov iv)
theorem zIS {prog:Program}{w:World}{A:Around}{E:Value->Shared->Prop}{s:Shared}{env:Env}{value slice:Expr}{pos:Pos}{T id:String}{Q:Value->Shared->Prop}
 (hl:typeLookup (.type T) "__getitem__" = pure (some (.builtin id))) (hs:NoSl slice)
 (h:wpAny (model prog w) A (eval value env) (fun o s₁=>wpAny (model prog w) A (eval slice env) (fun i s₂=>s₂.TypeIs o T/\wpAny (model prog w) A (getItem o i) Q E s₂) E s₁) E s) :
 wpAny (model prog w) A (eval (.Subscript value slice pos) env) Q E s:=by
 refine Subscript_ (zAO h (fun o s₁ h₁=>zAO h₁ (fun i s₂ h₂=>?_) fun _ _ x=>x) fun _ _ x=>x)
 obtain⟨hT,h₂⟩:=h₂
 unfold subscriptTail
 refine zA ?_
 rw[getitemInPython_of_ne hT.not_modules]
 refine zA (wpAny_specialOf hT hl ?_)
 have fin:wpAny (model prog w) A (subscripted slice false o i) (fun r s₃=>wpAny (model prog w) A (letTemporaryGo value o r >>= fun _=>pure r) Q E s₃) E s₂:=by
  rw[hs o i]
  exact wpAny_operating (zAO h₂ (fun r s₃ h₃=>zA (wpAny_letTemporaryGo (zB h₃))) fun _ _ x=>x)
 first
  | exact zB (zA fin)
  | exact zA (zB (zA fin))
  | exact zA fin
theorem zG2 {X:Cx}{pins:List (Addr×Obj)}{σ:St}{H:Hp}{s:Shared}{a:Addr}{y:V}{o:Option V}(I:Inv X pins σ H s)(g:zG9 H a y o):s.TypeIs (.ref a) "dict" := by
 rcases g with ⟨kvs,k,e,_,_⟩ | ⟨kvs,k,b,e,_,_,_⟩
 . obtain⟨_,_,vs,_,dd⟩:=zID I.hok e
   exact dd.typeIs
 . obtain⟨_,_,xs,_,dd⟩:=zIC I.hok e
   exact dd.typeIs
noncomputable def tDGet (td ty:TE):TE:=fun σ H Q=>td σ H fun x H1=>ty σ H1 fun y H2=>∃a v,x = .ref a/\zG9 H2 a y (some v)/\Q v H2
noncomputable def tDIn (ty td:TE):TE:=fun σ H Q=>ty σ H fun y H1=>td σ H1 fun x H2=>∃a o,x = .ref a/\zG9 H2 a y o/\Q (.bl o.isSome) H2
noncomputable def sDPut (td ty tv:TE):TS:=fun D σ H=>tv σ H fun v H1=>td σ H1 fun x H2=>ty σ H2 fun y H3=>∃a H4,x = .ref a/\zKs H3 a y v H4/\D.nx σ H4
section
variable {X:Cx}{o i e value:Expr}{pos pos' tpos:Pos}{td ty tv:TE}
theorem zLo (hu:X.A.units+1<cLine)(ho:PE X o td)(hi:PE X i ty)(hs:NoSl i):PE X (.Subscript o i pos) (tDGet td ty):=by
 intro pins s σ H Q I h
 refine zIS PySem.F.slot_dict_getitem.lookup hs (thn (ho pins s σ H _ I h) fun u s1 ⟨x,H1,I1,rx,q1⟩=>thn (hi pins s1 σ H1 _ I1 q1) fun iv s2 ⟨y,H2,I2,ry,a,v,ex,g,q2⟩=>?_)
 subst ex
 obtain rfl:u=Value.ref a:=rx
 exact⟨zG2 I2 g,zJf hu I2 g ry fun w' s3 I3 rw'=>⟨v,H2,I3,rw',q2⟩⟩
theorem pc_din (hu:X.A.units+1<cLine)(hi:PE X i ty)(ho:PE X o td):PC X .In i o (tDIn ty td):=by
 intro pins s σ H Q I h
 refine thn (hi pins s σ H _ I h) fun iv s1 ⟨y,H1,I1,ry,q1⟩=>thn (ho pins s1 σ H1 _ I1 q1) fun u s2 ⟨x,H2,I2,rx,a,ov,ex,g,q2⟩=>?_
 subst ex
 obtain rfl:u=Value.ref a:=rx
 exact d_in hu I2 g ry fun s3 I3=>⟨.bl ov.isSome,H2,I3,rfl,q2⟩
theorem zFL (hu:X.A.units+1<cLine)(ho:PE X o td)(hi:PE X i ty)(hv:PE X value tv)(hs:swapsWith value (some (.Subscript o i pos')) pos.line X.env=pure false) :
 PS X (.Assign [.Subscript o i pos'] value pos) (sDPut td ty tv):=by
 intro pins s σ H D I h
 refine wpAny_Assign_Subscript (thn (hv pins s σ H _ I h) fun r s1 ⟨v,H1,I1,rv,q1⟩=>thn (ho pins s1 σ H1 _ I1 q1) fun u s2 ⟨x,H2,I2,rx,q2⟩=>thn (hi pins s2 σ H2 _ I2 q2) fun iv s3 ⟨y,H3,I3,ry,a,H4,ex,g,q3⟩=>?_) hs
 subst ex
 obtain rfl:u=Value.ref a:=rx
 exact zJe hu I3 g ry rv fun s4 I4=>⟨σ,H4,I4,q3⟩
end
theorem zHa {P:Program}{w:World}{H:Hp}(h:Heap)(hb:sysModules<h.objs.size):zBP P w H (h.push { cls:=.type "dict",data:=.dict #[] }) h.objs.size (.dK []):=
 ⟨zi _,beq_eq_false_iff_ne.mpr (Ne.symm (zh hb)),[],.nil,Heap.DictOf.new h⟩
theorem zKi {P:Program}{w:World}{H:Hp}(h:Heap)(hb:sysModules<h.objs.size):zBP P w H (h.push { cls:=.type "dict",data:=.dict #[] }) h.objs.size (.dT []):=
 ⟨zi _,beq_eq_false_iff_ne.mpr (Ne.symm (zh hb)),[],.nil,_,#[],0,zN _ rfl,⟨rfl,rfl,rfl⟩,rfl,rfl,List.nodup_nil⟩
noncomputable def tDNewK:TE:=fun _ H Q=>∀p,H p=none->Q (.ref p) (upd H p (.dK []))
noncomputable def tDNewT:TE:=fun _ H Q=>∀p,H p=none->Q (.ref p) (upd H p (.dT []))
section
variable {X:Cx}{pos:Pos}
theorem zKS:PE X (.Dict [] [] pos) tDNewK:=fun pins s σ H Q I h=>
 wpAny_Dict_empty ⟨.ref s.heap.objs.size,_,I.laid (a:=s.heap.objs.size) (o:=.dK []) (t':=s.toks) (fun _ _ q=>zF _ q) (zH _) (zHa s.heap I.big),rfl,h _ (I.hok.fresh (zH _))⟩
theorem zKR:PE X (.Dict [] [] pos) tDNewT:=fun pins s σ H Q I h=>
 wpAny_Dict_empty ⟨.ref s.heap.objs.size,_,I.laid (a:=s.heap.objs.size) (o:=.dT []) (t':=s.toks) (fun _ _ q=>zF _ q) (zH _) (zKi s.heap I.big),rfl,h _ (I.hok.fresh (zH _))⟩
end
noncomputable def zIR:List (TE×TE)->St->Hp->(List (V×V)->Hp->Prop)->Prop
 | [],_,H,Q=>Q [] H
 | (tk,tv)::r,σ,H,Q=>tk σ H fun x H1=>tv σ H1 fun y H2=>zIR r σ H2 fun ps H3=>Q ((x,y)::ps) H3
noncomputable abbrev VV:List (V×V)->List (Value×Value)->Prop:=Paired fun p q=>zBn p.1 q.1/\zBn p.2 q.2
noncomputable def PPs (X:Cx)(pos:Pos)(keys:List (Option Expr))(values:List Expr)(trs:List (TE×TE)):Prop:=
 ∀(pins:List (Addr×Obj))(s:Shared)(σ:St)(H:Hp)(Q:List (V×V)->Hp->Prop),Inv X pins σ H s->zIR trs σ H Q ->
  wpAny (model X.prog X.w) X.A (evalPairs (pairTrees keys values X.env pos)) (fun vs s'=>∃ps H',Inv X pins σ H' s'/\VV ps vs/\Q ps H') X.xe s
theorem zGp {X:Cx}{pos:Pos}:PPs X pos [] [] []:=fun pins s σ H Q I h=>pairTrees_nil_walk ⟨[],H,I,.nil,h⟩
theorem zD7 {X:Cx}{pos:Pos}{k v:Expr}{ks:List (Option Expr)}{vs:List Expr}{tk tv:TE}{trs:List (TE×TE)}(hk:PE X k tk)(hv:PE X v tv)(hr:PPs X pos ks vs trs) :
 PPs X pos (some k::ks) (v::vs) ((tk,tv)::trs):=fun pins s σ H Q I h=>
 pairTrees_cons_walk (thn (hk pins s σ H _ I h) fun u s1 ⟨x,H1,I1,rx,q1⟩=>thn (hv pins s1 σ H1 _ I1 q1) fun w2 s2 ⟨y,H2,I2,ry,q2⟩=>
  thn (hr pins s2 σ H2 _ I2 q2) fun ws s3 ⟨ps,H3,I3,rel,q3⟩=>⟨(x,y)::ps,H3,I3,.cons ⟨rx,ry⟩ rel,q3⟩)
noncomputable def zCj (kvs more:List (Key×V)):List (Key×V):=more.foldl (fun acc kv=>zDH acc kv.1 kv.2) kvs
theorem KV.merge:∀{more:List (Key×V)}{rs:List (Key×Value)}{kvs:List (Key×V)}{vs:List (Key×Value)},KV more rs->KV kvs vs->KV (zCj kvs more) (merged vs rs):=by
 intro more rs kvs vs r
 unfold KV at r
 induction r generalizing kvs vs with
 | nil=>intro q;exact q
 | @cons p q ps qs h t ih=>
  intro r0
  have e:KV (zDH kvs p.1 p.2) (stored vs q.1 q.2):=by
   have:=r0.put p.1 h.2
   rw[<-h.1];exact this
  exact ih e
theorem zDY:∀(more kvs:List (Key×V)),(zCj kvs more).length<=kvs.length+more.length
 | [],kvs=>by show kvs.length<=kvs.length+0;omega
 | p::r,kvs=>by
  have h1:=zDY r (zDH kvs p.1 p.2)
  have h2:=zCt kvs p.1 p.2
  show (zCj (zDH kvs p.1 p.2) r).length<=_
  rw[zd];omega
theorem zFB {P:Program}{w:World}:∀{kvs:List (Key×V)}{ws:List (Value×Value)},VV (kvs.map fun kv=>(kV kv.1,kv.2)) ws->∃rs,Carries (zA7 P w) ws rs/\KV kvs rs
 | [],_,r=>by rw[List.map_nil] at r;cases r;exact⟨[],True.intro,.nil⟩
 | p::kvs,_,r=>by
  rw[zAV] at r
  cases r with
  | @cons a b as bs h t=>
   obtain⟨rs,c,q⟩:=zFB (P:=P) (w:=w) t
   obtain⟨b1,b2⟩:=b
   exact⟨(p.1,b2)::rs,⟨zGB h.1,rfl,c⟩,.cons ⟨rfl,h.2⟩ q⟩
noncomputable def tDisp (trs:List (TE×TE)):TE:=fun σ H Q=>∀p,H p=none->zIR trs σ (upd H p (.dK [])) fun ps H2=>H2 p=some (.dK [])/\∃kvs:List (Key×V),ps=kvs.map (fun kv=>(kV kv.1,kv.2))/\kvs.length<=15/\Q (.ref p) (upd H2 p (.dK (zCj [] kvs)))
theorem zGs {X:Cx}{pos:Pos}{keys:List (Option Expr)}{values:List Expr}{trs:List (TE×TE)}(h:PPs X pos keys values trs)(hall:keys.all (·.isSome)=true)(hl:keys.length=values.length)(h0:keys≠[])
 (h15:keys.length<=15):PE X (.Dict keys values pos) (tDisp trs):=by
 intro pins s σ H Q I q
 have hn:=I.hok.fresh (zH s.heap.objs.size)
 have I1:=I.laid (a:=s.heap.objs.size) (o:=.dK []) (h':=s.heap.push { cls:=.type "dict",data:=.dict #[] }) (t':=s.toks) (fun _ _ q=>zF _ q) (zH _) (zHa s.heap I.big)
 refine wpAny_Dict_walk (knd:=zA7 X.prog X.w) hall hl h0 h15 (thn (h pins _ σ _ _ I1 (q _ hn)) fun ws s2 ⟨ps,H2,I2,rel,e,kvs,ep,lk,q2⟩=>?_)
 subst ep
 obtain⟨rs,c,rk⟩:=zFB (P:=X.prog) (w:=X.w) rel
 obtain⟨z,hd,vs0,r0,dd⟩:=zJY I2.hok e
 cases r0
 refine⟨rs,c,dd,fun h' dd' hs=>⟨.ref s.heap.objs.size,_,?_,rfl,q2⟩⟩
 have hz:(zCj [] kvs).length<=sizeLine:=by
  have h1:=zDY kvs []
  rw[List.length_nil] at h1
  rw[sizeLine_eq];omega
 have he:∃q,h'.get? s.heap.objs.size=some q:=let ⟨q,_,_,hq,_⟩:=dd';⟨q,hq⟩
 exact zFY I2 (by rw[e];exact True.intro) hs he (zJZ hz hd (rk.merge .nil) dd')
structure M1 (X:Cx)(o:Expr)(m:Str)(apos:Pos)(e:Expr)(cpos:Pos):Prop where
 base:attributeBase o m X.env (eval o X.env)=eval o X.env
 few:((backTo cpos (starEach [e] X.env)).all (fun x=>!x.1) && (backToKw cpos (keywordEach [] X.env)).all (fun x=>x.1.isSome)
  && decide (([e]:List Expr).length+([]:List Keyword).length+(if ([]:List Keyword).isEmpty then 0 else 1)<30))=true
 line:(apos.endLine==cpos.line)=true
 trees:backTo cpos (starEach [e] X.env)=[(false,eval e X.env)]
structure M2 (X:Cx)(o:Expr)(m:Str)(apos:Pos)(e f:Expr)(cpos:Pos):Prop where
 base:attributeBase o m X.env (eval o X.env)=eval o X.env
 few:((backTo cpos (starEach [e,f] X.env)).all (fun x=>!x.1) && (backToKw cpos (keywordEach [] X.env)).all (fun x=>x.1.isSome)
  && decide (([e,f]:List Expr).length+([]:List Keyword).length+(if ([]:List Keyword).isEmpty then 0 else 1)<30))=true
 line:(apos.endLine==cpos.line)=true
 trees:backTo cpos (starEach [e,f] X.env)=[(false,eval e X.env),(false,eval f X.env)]
noncomputable def IsD (H:Hp)(a:Addr):Prop:=(∃kvs,Rd H a (.dK kvs))\/∃kvs,Rd H a (.dT kvs)
theorem zLC {X:Cx}{pins:List (Addr×Obj)}{σ:St}{H:Hp}{s:Shared}{a:Addr}(I:Inv X pins σ H s)(d:IsD H a) :
 s.TypeIs (.ref a) "dict" /\ (∀b,Value.ref a = .ref b->∃ob,s.heap.get? b=some ob/\ob.dict=none)/\(a==sysModules)=false:=by
 rcases d with ⟨kvs,e⟩ | ⟨kvs,e⟩
 . obtain⟨_,hd,vs,_,dd⟩:=zID I.hok e
   refine⟨dd.typeIs,fun b q=>?_,hd⟩
   cases q
   obtain⟨ob,_,_,h1,h2,_⟩:=dd
   exact⟨ob,h1,h2.2.1⟩
 . obtain⟨_,hd,xs,_,dd⟩:=zIC I.hok e
   refine⟨dd.typeIs,fun b q=>?_,hd⟩
   cases q
   obtain⟨ob,_,_,h1,h2,_⟩:=dd
   exact⟨ob,h1,h2.2.1⟩
section
variable {X:Cx}{pins:List (Addr×Obj)}{σ:St}{H:Hp}{s:Shared}{a:Addr}{y d:V}{u r:Value}{o:Option V}{A:Around}{E:Value->Shared->Prop}
theorem d_get2 {Q:Value->Shared->Prop}(hu:A.units+1<cLine)(I:Inv X pins σ H s)(g:zG9 H a y o)(ry:zBn y u)(rd:zBn d r)(h:∀w' s',Inv X pins σ H s'->zBn (o.getD d) w'->Q w' s') :
 wpAny (model X.prog X.w) A (call (.builtin "dict.get") [.ref a,u,r]) Q E s:=by
 rcases g with ⟨kvs,k,e,ey,l⟩ | ⟨kvs,k,b,e,ey,eb,l⟩
 . subst ey
   obtain⟨z,hd,vs,rel,dd⟩:=zID I.hok e
   refine call_meetsIn PySem.F.slot_dict_get dd.typeIs PySem.F.entry_dict_get (PySem.F.args_dict_get_3 _ _ _) (meets_dict_get_default (zA7 X.prog X.w) a (zGB ry) hd r) ⟨_,dd.mapOf,h _ _ (I.tok _) ?_⟩
   rw[l]
   exact (rel.val k).getD rd
 . subst ey
   cases (show u=Value.ref b from ry)
   obtain⟨z,hd,xs,rel,dd⟩:=zIC I.hok e
   refine call_meetsIn PySem.F.slot_dict_get dd.typeIs PySem.F.entry_dict_get (PySem.F.args_dict_get_3 _ _ _) (meetsH_dict_get_default (tupleKind (zA7 X.prog X.w)) a b hd r) ⟨tupleKind_room_in1 hu,k,xs,zF9 I.hok eb,dd,h _ _ (I.tok _) ?_⟩
   rw[l]
   exact (rel.val k).getD rd
end
noncomputable def tDGet2 (td ty tx:TE):TE:=fun σ H Q=>td σ H fun x H1=>∃a,x = .ref a/\IsD H1 a/\ty σ H1 fun y H2=>tx σ H2 fun z H3=>∃o,zG9 H3 a y o/\Q (o.getD z) H3
noncomputable def tDPop1 (td ty:TE):TE:=fun σ H Q=>td σ H fun x H1=>∃a,x = .ref a/\IsD H1 a/\ty σ H1 fun y H2=>∃kvs k v,H2 a=some (.dK kvs)/\y=kV k/\zCQ kvs k=some v/\Q v (upd H2 a (.dK (zCW kvs k)))
section
variable {X:Cx}{o e f:Expr}{apos cpos:Pos}{td ty tx:TE}
theorem zHP (hu:X.A.units+1<cLine)(ho:PE X o td)(he:PE X e ty)(hf:PE X f tx)(m:M2 X o "get" apos e f cpos):PE X (.Call (.Attribute o "get" apos) [e,f] [] cpos) (tDGet2 td ty tx):=by
 intro pins s σ H Q I h
 refine wpAny_Call_method m.base m.few m.line PySem.F.plainAttrs_dict PySem.F.slot_dict_get PySem.F.type_dict_get (thn (ho pins s σ H _ I h) fun u s1 ⟨x,H1,I1,rx,a,ex,d,q1⟩=>?_)
 subst ex
 obtain rfl:u=Value.ref a:=rx
 obtain⟨t1,t2,_⟩:=zLC I1 d
 refine⟨t1,t2,?_⟩
 rw[m.trees]
 refine Calls.callWith_builtin rfl (Calls.evalArgs_plain (Calls.spliced_cons (thn (he pins s1 σ H1 _ I1 q1) fun iv s2 ⟨y,H2,I2,ry,q2⟩=>
  Calls.spliced_cons (thn (hf pins s2 σ H2 _ I2 q2) fun fv s3 ⟨z,H3,I3,rz,ov,g,q3⟩=>Calls.spliced_nil ?_))))
 exact d_get2 hu I3 g ry rz fun w' s4 I4 rw'=>⟨_,H3,I4,rw',q3⟩
theorem zKQ (ho:PE X o td)(he:PE X e ty)(m:M1 X o "pop" apos e cpos):PE X (.Call (.Attribute o "pop" apos) [e] [] cpos) (tDPop1 td ty):=by
 intro pins s σ H Q I h
 refine wpAny_Call_method m.base m.few m.line PySem.F.plainAttrs_dict PySem.F.slot_dict_pop PySem.F.type_dict_pop (thn (ho pins s σ H _ I h) fun u s1 ⟨x,H1,I1,rx,a,ex,d,q1⟩=>?_)
 subst ex
 obtain rfl:u=Value.ref a:=rx
 obtain⟨t1,t2,_⟩:=zLC I1 d
 refine⟨t1,t2,?_⟩
 rw[m.trees]
 refine Calls.callWith_builtin rfl (Calls.evalArgs_plain (Calls.spliced_cons (thn (he pins s1 σ H1 _ I1 q1) fun iv s2 ⟨y,H2,I2,ry,kvs,k,v,ea,ey,l,q2⟩=>Calls.spliced_nil ?_)))
 subst ey
 exact d_pop I2 ea ry l (.inl rfl) fun w' s3 I3 rw'=>⟨v,_,I3,rw',q2⟩
end
section
variable {X:Cx}{pins:List (Addr×Obj)}{σ:St}{H:Hp}{s:Shared}{a:Addr}{kvs:List (Key×V)}{A:Around}{E:Value->Shared->Prop}
end
section
variable {X:Cx}{pins:List (Addr×Obj)}{σ:St}{H:Hp}{s:Shared}{a:Addr}{y:V}{u:Value}{A:Around}{E:Value->Shared->Prop}
end
end L2
namespace HT
open PySem PyProof.Rows
noncomputable def lexLt:List Int->List Int->Bool
 | [],[]=>false
 | [],_::_=>true
 | _::_,[]=>false
 | x::xs,y::ys=>if x=y then lexLt xs ys else decide (x<y)
theorem lexLt_cons (x y:Int)(xs ys:List Int):lexLt (x::xs) (y::ys)=if x=y then lexLt xs ys else decide (x<y):=rfl
theorem zFS:lexLt [] []=false:=rfl
theorem zEq (y:Int)(ys:List Int):lexLt [] (y::ys)=true:=rfl
theorem zEr (x:Int)(xs:List Int):lexLt (x::xs) []=false:=rfl
theorem zKh (A:Around)(s:Shared)(a:Int)(t:Tok)(c:Int)(u:Tok):∃e,SeqAt.EqAt A s (.int a t) (.int c u) e/\(e=true↔a=c):=
 ⟨(a==c),SeqAt.EqAt.int_int a t c u,by simp⟩
theorem zKJ (A:Around)(s:Shared)(a:Int)(t:Tok)(c:Int)(u:Tok)(prog:Program)(w:World)(E:Value->Shared->Prop)(Q:Value->Shared->Prop)(h:Q (.bool (decide (a<c))) s) :
 wpAny (model prog w) A (richCompare .Lt (.int a t) (.int c u)) Q E s:=
 (PyProof.Rows.lt_int h:wpAny (model prog w) A (compareOp .Lt (.int a t) (.int c u)) Q E s)
section
open PySem.SeqAt
open PySem.AutoSeq1 (wpAny_loadPart')
open PySem.MeetsSeq PySem.MeetsSeq2 PySem.MeetsSeq3
theorem zFD (l b:Addr)(items items2:Array Value)(n n2:Nat)(dd dd2:Option Addr)(sl sl2:Array (Option Value))(ns ms:List Int)(hi:IntsAre items.toList ns)(hj:IntsAre items2.toList ms) :
 Meets (Builtin.«tuple.__lt__» ⟨[.ref l,.ref b],[]⟩)
  (fun _ R s=>s.heap.get? l=some { cls:=.type "tuple",dict:=dd,data:=.seq items n,slots:=sl }/\s.heap.get? b=some { cls:=.type "tuple",dict:=dd2,data:=.seq items2 n2,slots:=sl2 } /\
   R (.ok (.ret (.bool (lexLt ns ms)))) s):=
 .of_wp fun prog w A R s h=>by
  obtain⟨hp,g,d,tk,os⟩:=s;obtain⟨hl,hb,h⟩:=h
  have f2:=AutoSeq1.sub_tuple_tuple
  have z1:items.size=ns.length:=by rw[<-hi.length];simp
  have z2:items2.size=ms.length:=by rw[<-hj.length];simp
  wp_walk using wpAny_loadPart' hl,wpAny_loadPart' hb,wpAny_forIn_list _ (fun rest b s'=>b.1=none/\s'=⟨hp,g,d,tk,os⟩/\∃(vs ws:List Value)(ns' ms':List Int),rest=vs.zip ws /\
   IntsAre vs ns'/\IntsAre ws ms'/\ns'.length+items2.size=ms'.length+items.size/\R (.ok (.ret (.bool (lexLt ns' ms')))) ⟨hp,g,d,tk,os⟩) _
  case turn=>
   rintro ⟨y,x⟩ rest b s' ⟨hb',rfl,vs,ws,ns',ms',hz,hvi,hwi,hlen,hR⟩
   cases hvi with
   | nil=>rw[List.zip_nil_left] at hz;cases hz
   | cons a t hvi'=>
    cases hwi with
    | nil=>rw[List.zip_nil_right] at hz;cases hz
    | cons c u hwi'=>
     rw[List.zip_cons_cons] at hz
     injection hz with hyx hrest
     injection hyx with hy hx
     subst hy hx
     rw[lexLt_cons] at hR
     simp only[zd] at hlen
     obtain⟨e,he,hiff⟩:=zKh A.in1 ⟨hp,g,d,tk,os⟩ a t c u
     refine zA (he prog w _ _ ?_)
     cases e with
     | true=>
      rw[if_pos (hiff.mp rfl)] at hR
      wp_walk
      exact⟨rfl,rfl,_,_,_,_,hrest,hvi',hwi',by omega,hR⟩
     | false=>
      rw[if_neg (fun q=>absurd (hiff.mpr q) zg)] at hR
      have hri:=zKJ A.in1 ⟨hp,g,d,tk,os⟩ a t c u prog w
      wp_walk using hri
      exact⟨_,rfl,by simpa using hR⟩
  case fin=>
   rintro ⟨b1,b2⟩ s' ⟨hb',rfl,vs,ws,ns',ms',hz,hvi,hwi,hlen,hR⟩
   simp only at hb'
   subst hb'
   have hv:lexLt ns' ms'=decide (items.size<items2.size):=by
    cases hvi with
    | nil=>
     cases hwi with
     | nil=>
      simp only[List.length_nil] at hlen
      rw[zFS]
      exact (zZ (by omega)).symm
     | cons c u hw=>
      simp only[List.length_nil,zd] at hlen
      rw[zEq]
      exact (zP (by omega)).symm
    | cons a t hv=>
     cases hwi with
     | nil=>
      simp only[List.length_nil,zd] at hlen
      rw[zEr]
      exact (zZ (by omega)).symm
     | cons c u hw=>
      rw[List.zip_cons_cons] at hz
      cases hz
   rw[hv] at hR
   wp_walk
   exact⟨_,rfl,by simpa [Builtin.Tuple.tupleCompareSizes] using hR⟩
  case h=>
   exact⟨rfl,rfl,items.toList,items2.toList,ns,ms,rfl,hi,hj,by omega,h⟩
end
section
variable {prog:Program}{w:World}{A:Around}{E:Value->Shared->Prop}{s:Shared}
theorem lt_tupInts {l b:Addr}{items items2:Array Value}{ns ms:List Int}{Q:Value->Shared->Prop}(hl:IsTup s.heap l items)(hb:IsTup s.heap b items2)(hi:IntsAre items.toList ns)(hj:IntsAre items2.toList ms)
 (hu:A.units<cLine)(h:Q (.bool (lexLt ns ms)) s):wpAny (model prog w) A (compareOp .Lt (.ref l) (.ref b)) Q E s:=by
 obtain⟨⟨cls,dd,data,sl⟩,ho,hc,n,hd⟩:=id hl
 obtain⟨⟨cls2,dd2,data2,sl2⟩,ho2,hc2,n2,hd2⟩:=id hb
 simp only at hc hd hc2 hd2
 subst hc hd hc2 hd2
 exact richCompare_meets_room (op:=.Lt) ⟨_,ho,rfl⟩ ⟨_,ho2,rfl⟩ PySem.F.slot_tuple_lt PySem.F.entry_tuple_lt (PySem.F.args_tuple_lt_2 _ _) (zFD l b items items2 n n2 dd dd2 sl sl2 ns ms hi hj)
  ⟨ho,ho2,show Value.bool (lexLt ns ms)≠Value.notImplemented/\Q (.bool (lexLt ns ms)) s from ⟨(fun x=>nomatch x),h⟩⟩ hu
theorem cat_tup {t b:Addr}{vs ws:List Value}{Q:Value->Shared->Prop}(ht:IsTup s.heap t vs.toArray)(hb:IsTup s.heap b ws.toArray)(hv:vs≠[])
 (h1:ws=[]->Q (.ref t) s)(h2:ws≠[]->Q (.ref s.heap.objs.size) { s with heap:=s.heap.push { cls:=.type "tuple",data:=.seq (vs++ws).toArray } })
 (hsz:vs.length+ws.length<=sizeLine):wpAny (model prog w) A (binaryOp .Add (.ref t) (.ref b)) Q E s:=by
 obtain⟨⟨cls,dd,data,sl⟩,ho,hc,n,hd⟩:=id ht
 obtain⟨⟨cls2,dd2,data2,sl2⟩,ho2,hc2,n2,hd2⟩:=id hb
 simp only at hc hd hc2 hd2
 subst hc hd hc2 hd2
 have e:vs.toArray++ws.toArray=(vs++ws).toArray:=by simp
 by_cases hw:ws=[]
 . exact concat_meets ⟨_,ho,rfl⟩ ⟨_,ho2,rfl⟩ noFill_tuple_add seq_tuple_add PySem.F.slot_tuple_add PySem.F.entry_tuple_add (PySem.F.args_tuple_add_2 _ _)
    (tuple_addW1 t b vs.toArray ws.toArray n n2 dd dd2 sl sl2 (by simpa using hv) (by simp[hw])) ⟨ho,ho2,h1 hw⟩
 . refine concat_meets ⟨_,ho,rfl⟩ ⟨_,ho2,rfl⟩ noFill_tuple_add seq_tuple_add PySem.F.slot_tuple_add PySem.F.entry_tuple_add (PySem.F.args_tuple_add_2 _ _)
    (tuple_addW2 t b vs.toArray ws.toArray n n2 dd dd2 sl sl2 (by simpa using hv) (by simpa using hw) (by rw[zS,zS];exact hsz)) ⟨ho,ho2,?_⟩
   rw[e]
   exact h2 hw
noncomputable def sIx (n d:Nat):Option Int->Nat
 | none=>d
 | some v=>if v<0 then (v+(n:Int)).toNat else min v.toNat n
theorem sIx_none (n d:Nat):sIx n d none=d:=rfl
theorem sIx_nat (n d k:Nat):sIx n d (some (k:Int))=min k n:=by
 show (if (k:Int)<0 then ((k:Int)+(n:Int)).toNat else min (k:Int).toNat n)=min k n
 rw[if_neg (by omega),zAU]
theorem sIx_le (n d:Nat)(hd:d<=n)(o:Option Int):sIx n d o<=n:=by
 cases o with
 | none=>exact hd
 | some v=>
  show (if v<0 then (v+(n:Int)).toNat else min v.toNat n)<=n
  by_cases hv:v<0
  . rw[if_pos hv];omega
  . rw[if_neg hv];exact Nat.min_le_right _ _
theorem zJi (v:Int)(n d:Nat):(if v<0 then max (v+(n:Int)) 0 else min v (n:Int))=((sIx n d (some v):Nat):Int):=by
 show (if v<0 then max (v+(n:Int)) 0 else min v (n:Int))=(((if v<0 then (v+(n:Int)).toNat else min v.toNat n):Nat):Int)
 by_cases hv:v<0
 . simp only[if_pos hv];omega
 . simp only[if_neg hv];omega
theorem zII (lo hi:Option Int) (n:Nat):Builtin.Slice.sliceAdjust lo hi 1 (n:Int)=(((sIx n 0 lo:Nat):Int),((sIx n n hi:Nat):Int)):=by
 have h1:¬ ((1:Int)<0):=by omega
 unfold Builtin.Slice.sliceAdjust
 simp only[h1,if_false]
 refine Prod.ext ?_ ?_
 . cases lo with
   | none=>rfl
   | some v=>exact zJi v n 0
 . cases hi with
   | none=>rfl
   | some v=>exact zJi v n n
theorem zHu (i j:Nat):Builtin.Slice.slicePlaces (i:Int) (j:Int) 1=j-i:=by
 unfold Builtin.Slice.slicePlaces
 have h1:(1:Int) > 0:=by omega
 simp only[h1,if_true,Int.ediv_one]
 split <;> omega
theorem zEx {v:Value} {o:Option Int} {Q:Option Int->Shared->Prop} (p:IsPart v o) (h:Q o s):wpAny (model prog w) A (Builtin.Slice.slicePartIndex v) Q E s:=by
 cases p with
 | none=>exact slicePart_none h
 | int i t=>exact slicePart_int h
theorem zCv {sl:Addr}{vl vu:Value}{lo hi:Option Int}{n:Nat}{Q:Int×Int×Nat->Shared->Prop}(hs:s.heap.IsSliceOf sl vl vu .none)(pl:IsPart vl lo)(pu:IsPart vu hi)
 (h:Q (((sIx n 0 lo:Nat):Int),1,sIx n n hi-sIx n 0 lo) s):wpAny (model prog w) A (Builtin.Slice.sliceApplied (.ref sl) (pure (n:Int))) Q E s:=by
 obtain⟨os,hos,hcs,hds⟩:=id hs
 unfold Builtin.Slice.sliceApplied Builtin.Slice.sliceFields
 refine zA (zA (wpAny_field hos hds (x:=vl) rfl (zA (wpAny_field hos hds (x:=vu) rfl (zA (wpAny_field hos hds (x:=.none) rfl (zB ?_)))))))
 refine zA (slicePart_none ?_)
 show wpAny _ _ (if ((1:Int)==0)=true then _ else _) _ _ s
 rw[if_neg (by decide)]
 refine zA (zEx pl (zA (zEx pu (zA (zB ?_)))))
 show wpAny _ _ (match Builtin.Slice.sliceAdjust lo hi 1 (n:Int) with | (lo,hi)=>pure (lo,(1:Int),Builtin.Slice.slicePlaces lo hi 1)) _ _ s
 rw[zII lo hi n]
 show wpAny _ _ (pure (((sIx n 0 lo:Nat):Int),(1:Int),Builtin.Slice.slicePlaces ((sIx n 0 lo:Nat):Int) ((sIx n n hi:Nat):Int) 1)) _ _ s
 rw[zHu]
 exact zB h
theorem zKO (xs:Array Value)(i k:Nat):((List.range k).filterMap fun (m:Nat)=>xs[((i:Int)+(m:Int)*1).toNat]?).toArray=((xs.toList.drop i).take k).toArray:=by
 have e:(fun (m:Nat)=>xs[((i:Int)+(m:Int)*1).toNat]?)=fun m=>xs[i+m]?:=by
  funext m
  have:((i:Int)+(m:Int)*1).toNat=i+m:=by omega
  rw[this]
 rw[e]
 have:=pick_run xs i k
 rw[List.filterMap_map] at this
 have e2:((fun x=>xs[x]?)∘fun x=>i+x)=fun m=>xs[i+m]?:=rfl
 rw[e2] at this
 rw[this]
theorem getItem_tuple_cut {t sl:Addr}{items:Array Value}{vl vu:Value}{lo hi:Option Int}{Q:Value->Shared->Prop}(ht:IsTup s.heap t items)(hs:s.heap.IsSliceOf sl vl vu .none)(pl:IsPart vl lo)(pu:IsPart vu hi)
 (hw:¬ (sIx items.size 0 lo=0/\sIx items.size items.size hi=items.size))
 (h:Q (.ref s.heap.objs.size) { s with heap:=s.heap.push { cls:=.type "tuple",data:=.seq ((items.toList.drop (sIx items.size 0 lo)).take (sIx items.size items.size hi-sIx items.size 0 lo)).toArray } })
 (hsz:items.size<=sizeLine):wpAny (model prog w) A (getItem (.ref t) (.ref sl)) Q E s:=by
 have htake:sizeOk (.seq ((items.toList.drop (sIx items.size 0 lo)).take (sIx items.size items.size hi-sIx items.size 0 lo)).toArray):=by
  show ((items.toList.drop (sIx items.size 0 lo)).take (sIx items.size items.size hi-sIx items.size 0 lo)).toArray.size<=sizeLine
  rw[zS,zt,List.length_drop,Array.length_toList]
  omega
 have hj:sIx items.size items.size hi<=items.size:=sIx_le _ _ (zH _) hi
 obtain⟨os,hos,hcs,hds⟩:=id hs
 have hTs:s.TypeIs (.ref sl) "slice" := ⟨os,hos,hcs⟩
 unfold getItem
 try with_reducible refine zw ?_
 first | refine zA (zB ?_) | skip
 refine zA (wpAny_sequenceKey ht.typeIs (by decide) ?_)
 refine zA (zAs (name:=Str.ofString "__getitem__") ht.typeIs PyProof.Rows.slot_tuple_getitem
  (zAa PyProof.Rows.slot_tuple_getitem ht.typeIs entry_tuple_getitem ?_ (args_tuple_getitem _ _)))
 show wpAny _ _ (Builtin.Tuple.tupleItemsOf (.ref t) >>= _) _ _ s
 refine zA (tupleItemsOf_ ht ?_)
 refine zA (zBN hTs ?_)
 rw[if_pos (by decide)]
 refine zA (zCv hs pl pu ?_)
 have hno:¬ ((((sIx items.size 0 lo:Nat):Int)==0 && (1:Int)==1 && (sIx items.size items.size hi-sIx items.size 0 lo)==items.size)=true):=by
  intro q
  rw[zA8,zA8] at q
  have q1:((sIx items.size 0 lo:Nat):Int)=0:=eq_of_beq q.1.1
  have q2:sIx items.size items.size hi-sIx items.size 0 lo=items.size:=eq_of_beq q.2
  exact hw ⟨by omega,by omega⟩
 show wpAny _ _ (if (((sIx items.size 0 lo:Nat):Int)==0 && (1:Int)==1 && (sIx items.size items.size hi-sIx items.size 0 lo)==items.size)=true then _ else _) _ _ s
 rw[if_neg hno,zKO]
 first
  | exact zA (m:=Builtin.Tuple.tupleExact _) (zAS (zB ⟨_,rfl,zB h⟩) htake)
  | exact zA (m:=Builtin.Tuple.tupleExact _) (zAS (zA (zB (zB ⟨_,rfl,zB h⟩))) htake)
  | exact zA (zA (m:=Builtin.Tuple.tupleExact _) (zAS (zB (zB ⟨_,rfl,zB h⟩)) htake))
  | exact zA (zA (m:=Builtin.Tuple.tupleExact _) (zAS (zB ⟨_,rfl,zB h⟩) htake))
end
end HT
namespace L2
open PySem PySem.Spec PyProof.Rows
noncomputable abbrev TO:=St->Hp->(Option Int->Hp->Prop)->Prop
noncomputable def PO (X:Cx)(e:Option Expr)(t:TO):Prop:=
 ∀(pins:List (Addr×Obj))(s:Shared)(σ:St)(H:Hp)(Q:Option Int->Hp->Prop),Inv X pins σ H s->t σ H Q ->
  wpAny (model X.prog X.w) X.A (evalPart e X.env) (fun u s'=>∃o H',Inv X pins σ H' s'/\IsPart u o/\Q o H') X.xe s
noncomputable def zLU:TO:=fun _ H Q=>Q none H
noncomputable def tPart (t:TE):TO:=fun σ H Q=>t σ H fun x H1=>∃i,x = .int i/\Q (some i) H1
theorem zBa {ns:List Int}:∀{us:List Value},zBB (ns.map V.int) us->IntsAre us ns:=by
 induction ns with
 | nil=>intro us r;rw[List.map_nil] at r;cases r;exact .nil
 | cons n ns ih=>
  intro us r
  rw[zAV] at r
  cases r with
  | cons r1 r2=>
   obtain⟨t,e⟩:=r1
   subst e
   exact .cons n t (ih r2)
section
variable {X:Cx}{e:Expr}{te:TE}{lo hi:Option Expr}{tl th:TO}{pos p2:Pos}
theorem zCq:PO X none zLU:=by
 intro pins s σ H Q I h
 rw[evalPart_none]
 exact zB ⟨none,H,I,.none,h⟩
theorem zCp (h:PE X e te):PO X (some e) (tPart te):=by
 intro pins s σ H Q I hw
 rw[evalPart_some]
 refine thn (h pins s σ H _ I hw) fun u s1 ⟨x,H1,I1,r1,q1⟩=>?_
 obtain⟨i,rfl,q⟩:=q1
 obtain⟨t,rfl⟩:=r1
 exact⟨some i,H1,I1,.int i t,q⟩
noncomputable def SlR (X:Cx)(r:V->Option Int->Option Int->Hp->VK->Prop):Prop:=
 ∀(pins:List (Addr×Obj))(s:Shared)(σ:St)(H:Hp)(x:V)(v vl vu:Value)(lo hi:Option Int)(sl:Addr)(Q:VK),Inv X pins σ H s->zBn x v->s.heap.IsSliceOf sl vl vu .none->IsPart vl lo->IsPart vu hi->r x lo hi H Q ->
  ∃T id,typeLookup (.type T) "__getitem__" = pure (some (.builtin id))/\s.TypeIs v T/\wpAny (model X.prog X.w) X.A (getItem v (.ref sl)) (EP X pins σ Q) X.xe s
noncomputable def tSl (r:V->Option Int->Option Int->Hp->VK->Prop)(te:TE)(tl th:TO):TE:=fun σ H Q=>te σ H fun x H1=>tl σ H1 fun l H2=>th σ H2 fun u H3=>r x l u H3 Q
theorem zCP {r:V->Option Int->Option Int->Hp->VK->Prop}(hr:SlR X r)(he:PE X e te)(hl:PO X lo tl)(hu:PO X hi th):PE X (.Subscript e (.Slice lo hi none p2) pos) (tSl r te tl th):=by
 intro pins s σ H Q I h
 refine Subscript_ (thn (he pins s σ H _ I h) fun v s1 ⟨x,H1,I1,r1,q1⟩=>?_)
 refine wpAny_Slice (thn (hl pins s1 σ H1 _ I1 q1) fun vl s2 ⟨l,H2,I2,pl,q2⟩=>thn (hu pins s2 σ H2 _ I2 q2) fun vu s3 ⟨u,H3,I3,pu,q3⟩=>?_)
 rw[evalPart_none]
 refine zB ?_
 have I4:Inv X pins σ H3 { s3 with heap:=s3.heap.push { cls:=.type "slice",data:=.fields #[vl,vu,.none] } }:=I3.kept (t':=s3.toks) fun b ob q=>zF _ q
 obtain⟨T,id,hT,ht,hg⟩:=hr pins { s3 with heap:=s3.heap.push { cls:=.type "slice",data:=.fields #[vl,vu,.none] } } σ H3 x v vl vu l u s3.heap.objs.size Q I4 r1 (Heap.IsSliceOf.new ..) pl pu q3
 show wpAny (model X.prog X.w) X.A (subscriptTail e (.Slice lo hi none p2) v (.ref s3.heap.objs.size)) (EP X pins σ Q) X.xe { s3 with heap:=s3.heap.push { cls:=.type "slice",data:=.fields #[vl,vu,.none] } }
 exact tail_any (ops:=[.ref s3.heap.objs.size,v]) ht hT hg (by with_unfolding_all rfl)
noncomputable def zEl (xs:List V)(lo hi:Option Int):List V:=(xs.drop (HT.sIx xs.length 0 lo)).take (HT.sIx xs.length xs.length hi-HT.sIx xs.length 0 lo)
theorem zEf (xs:List V)(lo hi:Option Int):(zEl xs lo hi).length<=xs.length:=by
 unfold zEl
 rw[zt,List.length_drop]
 omega
noncomputable def rSlT (K:PySem.W.Frag):V->Option Int->Option Int->Hp->VK->Prop:=fun x lo hi H Q=>∃a xs,x = .ref a/\SqT K H a xs /\
 ¬ (HT.sIx xs.length 0 lo=0/\HT.sIx xs.length xs.length hi=xs.length)/\∀p,H p=none->Q (.ref p) (upd H p (.tup (zEl xs lo hi)))
theorem sl_tup:SlR X (rSlT X.K):=by
 intro pins s σ H x v vl vu lo hi sl Q I rx hs pl pu h
 obtain⟨a,xs,rfl,hx,hw,q⟩:=h
 cases rx
 obtain⟨its,r,ht,hz⟩:=I.tuple hx
 have hlen:its.toArray.size=xs.length:=by rw[zS];exact r.length.symm
 refine⟨"tuple",_,PyProof.Rows.slot_tuple_getitem.lookup,ht.typeIs,?_⟩
 refine HT.getItem_tuple_cut ht hs pl pu (by rw[hlen];exact hw) ?_ (by rw[hlen];exact hz)
 rw[hlen]
 refine⟨.ref s.heap.objs.size,_,I.laid (t':=s.toks) (o:=.tup (zEl xs lo hi)) (fun b ob q=>zF _ q) (zH _) ?_,rfl,q _ (I.hok.fresh (zH _))⟩
 exact⟨⟨zAf (zEf xs lo hi) hz,_,zN _ rfl,rfl⟩,_,(r.drop (HT.sIx xs.length 0 lo)).take (HT.sIx xs.length xs.length hi-HT.sIx xs.length 0 lo),IsTup.new _ _⟩
noncomputable def rCatT (K:PySem.W.Frag):R2:=fun x y H Q=>∃a b xs ys,x = .ref a/\y = .ref b/\SqT K H a xs/\SqT K H b ys/\xs≠[]/\xs.length+ys.length<=sizeLine /\
 (ys=[]->Q (.ref a) H)/\(ys≠[]->∀p,H p=none->Q (.ref p) (upd H p (.tup (xs++ys))))
theorem zBB.nil_iff {xs:List V}{us:List Value}(r:zBB xs us):us=[]↔xs=[]:=by
 cases r with
 | nil=>simp
 | cons _ _=>simp
theorem zLr:OpR X (binaryOp .Add) (rCatT X.K):=by
 intro pins s σ H x y v u Q I rx ry h
 obtain⟨a,b,xs,ys,rfl,rfl,ha,hb,hx,hz,q1,q2⟩:=h
 cases rx
 cases ry
 obtain⟨its,r1,p1,_⟩:=I.tuple ha
 obtain⟨its2,r2,p2,_⟩:=I.tuple hb
 refine HT.cat_tup p1 p2 (fun z=>hx (r1.nil_iff.mp z)) (fun z=>⟨.ref a,H,I,rfl,q1 (r2.nil_iff.mp z)⟩) (fun z=>?_) (by rw[<-r1.length,<-r2.length];exact hz)
 refine⟨.ref s.heap.objs.size,_,I.laid (t':=s.toks) (o:=.tup (xs++ys)) (fun b ob q=>zF _ q) (zH _) ?_,rfl,q2 (fun w=>z (r2.nil_iff.mpr w)) _ (I.hok.fresh (zH _))⟩
 exact⟨⟨by rw[zC];exact hz,_,zN _ rfl,rfl⟩,_,r1.append r2,IsTup.new _ _⟩
end
end L2
namespace L2
open PySem PySem.Spec PyProof.Rows
noncomputable def ixN (n:Nat)(i:Int):Option Nat:=if 0<=i then (if i<n then some i.toNat else none) else if -(n:Int)<=i then some (i+n).toNat else none
noncomputable def atI {α:Type}(xs:List α)(i:Int):Option α:=(ixN xs.length i).bind fun j=>xs[j]?
theorem zJN {n:Nat}{i:Int}{j:Nat}(h:ixN n i=some j):seqIndex? i n=some j/\j<n /\ -(n:Int)<=i/\i<n:=by
 unfold ixN at h
 by_cases h0:0<=i
 . rw[if_pos h0] at h
   by_cases h1:i<n
   . rw[if_pos h1] at h
     have e:i.toNat=j:=zf h
     exact⟨by rw[seqIndex_of h0 h1,e],by omega,by omega,h1⟩
   . rw[if_neg h1] at h;cases h
 . rw[if_neg h0] at h
   by_cases h1 : -(n:Int)<=i
   . rw[if_pos h1] at h
     have e:(i+n).toNat=j:=zf h
     exact⟨by rw[seqIndex_neg (by omega) h1,e],by omega,h1,by omega⟩
   . rw[if_neg h1] at h;cases h
theorem zJs {α:Type}{xs:List α}{i:Int}{v:α}(h:atI xs i=some v):∃j,seqIndex? i xs.length=some j/\xs[j]? = some v/\j<xs.length /\ -(xs.length:Int)<=i/\i<xs.length:=by
 unfold atI at h
 cases e:ixN xs.length i with
 | none=>rw[e] at h;cases h
 | some j=>
  rw[e] at h
  obtain⟨h1,h2,h3,h4⟩:=zJN e
  exact⟨j,h1,h,h2,h3,h4⟩
theorem zCD {α:Type}{xs:List α}{j:Nat}{v:α}(h:xs[j]? = some v):atI xs (j:Int)=some v:=by
 have hj:j<xs.length:=(zL.mp h).1
 have e:ixN xs.length (j:Int)=some j:=by
  unfold ixN
  rw[if_pos (by omega),if_pos (by omega)];simp
 unfold atI;rw[e];exact h
noncomputable def zMM (b:Expr):Prop:=∀o i,subscripted b false o i=operate [o,i] (getItem o i)
noncomputable def IxR (X:Cx)(r:R2):Prop:=
 ∀(value slice:Expr)(pins:List (Addr×Obj))(s:Shared)(σ:St)(H:Hp)(x y:V)(v u:Value)(Q:VK),Inv X pins σ H s->zBn x v->zBn y u->r x y H Q ->
  subscripted slice false v u=operate [v,u] (getItem v u)->wpAny (model X.prog X.w) X.A (subscriptTail value slice v u) (EP X pins σ Q) X.xe s
noncomputable def MtR (X:Cx)(id:String)(r:V->List V->Hp->VK->Prop):Prop:=
 ∀(pins:List (Addr×Obj))(s:Shared)(σ:St)(H:Hp)(x:V)(xs:List V)(v:Value)(us:List Value)(Q:VK),Inv X pins σ H s->zBn x v->zBB xs us->r x xs H Q ->
  wpAny (model X.prog X.w) X.A (call (.builtin id) (v::us)) (EP X pins σ Q) X.xe s
section
variable {X:Cx}{a b:Expr}{ta tb:TE}{pos:Pos}
theorem zAC {r:R2}(hr:IxR X r)(ha:PE X a ta)(hb:PE X b tb)(hs:zMM b):PE X (.Subscript a b pos) (tOp r ta tb):=by
 intro pins s σ H Q I h
 exact Subscript_ (binT ha hb I h fun v u s2 x y H2 I2 rx ry q=>hr a b pins s2 σ H2 x y v u Q I2 rx ry q (hs _ _))
noncomputable def rIxL (K:PySem.W.Frag):R2:=fun x y H Q=>∃p xs i v,x = .ref p/\y = .int i/\SqL K H p xs/\atI xs i=some v/\Q v H
noncomputable def rIxT (K:PySem.W.Frag):R2:=fun x y H Q=>∃p xs i v,x = .ref p/\y = .int i/\SqT K H p xs/\atI xs i=some v/\Q v H
theorem zAx:IxR X (rIxL X.K):=by
 intro value slice pins s σ H x y v u Q I rx ry h hs
 obtain⟨p,xs,i,z,rfl,rfl,hq,he,q⟩:=h
 cases rx
 obtain⟨t,rfl⟩:=ry
 obtain⟨its,r,pl,hz⟩:=I.list hq
 obtain⟨j,h1,h2,h3,h4,h5⟩:=zJs he
 obtain⟨w,ew,rw'⟩:=r.get h2
 have hl:=r.length
 have hn:=zF6
 have fin:EP X pins σ Q w s:=⟨z,H,I,rw',q⟩
 by_cases h0:0<=i
 . have hj:i.toNat=j:=by
    rw[seqIndex_of h0 h5] at h1
    exact zf h1
   exact item_listR pl.isList h0 (by omega) (by rw[hj];simpa using ew) fin hs
 . have hj:(i+(its.toArray.size:Int)).toNat=j:=by
    rw[seqIndex_neg (by omega) h4] at h1
    rw[zS,<-hl]
    exact zf h1
   exact subscriptTail_builtinR (x:=w) pl.isList.typeIs slot_list_getitem.lookup
    (wpAny_getItem_list_neg (Q:=fun r s'=>r=w/\EP X pins σ Q r s') pl.isList (by omega) (by rw[zS] <;> omega) (by omega) (by rw[hj];simpa using ew) ⟨rfl,fin⟩) hs
theorem zAE:IxR X (rIxT X.K):=by
 intro value slice pins s σ H x y v u Q I rx ry h hs
 obtain⟨p,xs,i,z,rfl,rfl,hq,he,q⟩:=h
 cases rx
 obtain⟨t,rfl⟩:=ry
 obtain⟨its,r,pl,hz⟩:=I.tuple hq
 obtain⟨j,h1,h2,h3,h4,h5⟩:=zJs he
 obtain⟨w,ew,rw'⟩:=r.get h2
 have hl:=r.length
 have hn:=zF6
 have fin:EP X pins σ Q w s:=⟨z,H,I,rw',q⟩
 exact subscriptTail_builtinR (x:=w) pl.typeIs slot_tuple_getitem.lookup
  (getItem_tuple (j:=j) (Q:=fun r s'=>r=w/\EP X pins σ Q r s') pl (by omega) (by omega) (by rw[zS,<-hl];exact h1) (by simpa using ew) ⟨rfl,fin⟩) hs
theorem zH1 (its:List Value)(n j:Nat)(u:Value):Obj.mapSeq (·.setIfInBounds j u) { cls:=.type "list",data:=.seq its.toArray n }={ cls:=.type "list",data:=.seq (its.set j u).toArray n }:=by
 simp[Obj.mapSeq]
theorem Inv.lst {pins:List (Addr×Obj)}{σ:St}{H:Hp}{s:Shared}{p:Addr}{xs:List V}(I:Inv X pins σ H s)(h:H p=some (.lst xs)) :
 ∃(its:List Value)(n:Nat),zBB xs its/\s.heap.get? p=some { cls:=.type "list",data:=.seq its.toArray n }/\xs.length<=sizeLine:=by
 obtain⟨z,its,n,r,e⟩:=I.hok p _ h
 exact⟨its,n,r,e,z⟩
theorem Inv.lstUpd {pins:List (Addr×Obj)}{σ:St}{H:Hp}{s:Shared}{p:Addr}{xs ys:List V}{its its':List Value}{n n':Nat}{f:Obj->Obj}(I:Inv X pins σ H s)(h:H p=some (.lst xs))
 (ho:s.heap.get? p=some { cls:=.type "list",data:=.seq its.toArray n }) (hf:f { cls:=.type "list",data:=.seq its.toArray n }={ cls:=.type "list",data:=.seq its'.toArray n' }) (r:zBB ys its')(hz:ys.length<=sizeLine)(t:Nat) :
 Inv X pins σ (upd H p (.lst ys)) { s with heap:=s.heap.update p f,toks:=t }:=by
 have e:(s.heap.update p f).get? p=some { cls:=.type "list",data:=.seq its'.toArray n' }:=by
  rw[zv f ho (by rw[hf] <;> rfl),hf]
 refine I.write (x:=p) (e:=p) (by rw[h];trivial) (.inl rfl) (fun b u hb q=>(zAn _ _ (Ne.symm hb)).trans q) ⟨_,e⟩ ?_
 exact⟨hz,its',n',r,e⟩
noncomputable def rSetL:V->V->V->Hp->(Hp->Prop)->Prop:=fun o i v H Q=>∃p xs k j,o = .ref p/\i = .int k/\H p=some (.lst xs)/\ixN xs.length k=some j/\Q (upd H p (.lst (xs.set j v)))
theorem zD4:PSet X rSetL:=by
 intro pins s σ H o i v ov iv u Q I ro ri rv h
 obtain⟨p,xs,k,j,rfl,rfl,hp,hj,q⟩:=h
 cases ro
 obtain⟨t,rfl⟩:=ri
 obtain⟨its,n,r,ho,hz⟩:=I.lst hp
 obtain⟨h1,h2,h3,h4⟩:=zJN hj
 have hl:=r.length
 have hn:=zF6
 have I':Inv X pins σ (upd H p (.lst (xs.set j v))) { s with heap:=s.heap.update p (Obj.mapSeq (·.setIfInBounds j u)) }:=
  I.lstUpd hp ho (zH1 its n j u) (r.set rv j) (by rw[List.length_set];exact hz) s.toks
 by_cases h0:0<=k
 . have hk:k.toNat=j:=by
    rw[seqIndex_of h0 h4] at h1
    exact zf h1
   exact PySem.W.ki_setAt ho h0 (by omega) (by rw[zS,<-hl];exact h4) (by rw[hk];exact⟨_,I',q⟩)
 . have hk:(k+(its.toArray.size:Int)).toNat=j:=by
    rw[seqIndex_neg (by omega) h3] at h1
    rw[zS,<-hl]
    exact zf h1
   exact PySem.W.ki_setBack ho (by omega) (by rw[zS,<-hl];exact h3) (by omega) (by rw[hk];exact⟨_,I',q⟩)
theorem zFl (lo hi:Option Int)(n:Nat):(sliceBounds lo hi none n).1=((HT.sIx n 0 lo:Nat):Int)/\(sliceBounds lo hi none n).2.1=((HT.sIx n n hi:Nat):Int)/\(sliceBounds lo hi none n).2.2=1:=by
 refine⟨?_,?_,rfl⟩
 . cases lo with
   | none=>simp[sliceBounds,HT.sIx]
   | some i=>
    simp only[sliceBounds,HT.sIx,Option.getD_none,show (1:Int) > 0 by decide,if_true]
    by_cases h:i<0
    . simp only[h,if_true] <;> omega
    . simp only[h,if_false] <;> omega
 . cases hi with
   | none=>simp[sliceBounds,HT.sIx]
   | some i=>
    simp only[sliceBounds,HT.sIx,Option.getD_none,show (1:Int) > 0 by decide,if_true]
    by_cases h:i<0
    . simp only[h,if_true] <;> omega
    . simp only[h,if_false] <;> omega
theorem zFF (its:List Value)(lo hi:Option Int):slicePick its.toArray lo hi none=((its.drop (HT.sIx its.length 0 lo)).take (HT.sIx its.length its.length hi-HT.sIx its.length 0 lo)).toArray:=by
 obtain⟨h1,h2,h3⟩:=zFl lo hi its.toArray.size
 unfold slicePick
 rw[h1,h2,h3]
 simp only[sliceRange_one,pick_run,zS] <;> rfl
noncomputable def rSlL (K:PySem.W.Frag):V->Option Int->Option Int->Hp->VK->Prop:=fun x lo hi H Q=>∃a xs,x = .ref a/\SqL K H a xs/\∀p,H p=none->Q (.ref p) (upd H p (.lst (zEl xs lo hi)))
theorem zGf:SlR X (rSlL X.K):=by
 intro pins s σ H x v vl vu lo hi sl Q I rx hs pl pu h
 obtain⟨a,xs,rfl,hx,q⟩:=h
 cases rx
 obtain⟨its,r,ht,hz⟩:=I.list hx
 have hlen:=r.length
 refine⟨"list",_,slot_list_getitem.lookup,ht.isList.typeIs,?_⟩
 refine wpAny_getItem_list_slice ht.isList hs pl pu .none (by simp) ?_ (by rw[zS] <;> omega)
 rw[zFF,<-hlen]
 refine⟨.ref s.heap.objs.size,_,I.laid (t':=s.toks) (o:=.lst (zEl xs lo hi)) (fun b ob q=>zF _ q) (zH _) ?_,rfl,q _ (I.hok.fresh (zH _))⟩
 exact⟨zAf (zEf xs lo hi) hz,_,0,(r.drop (HT.sIx xs.length 0 lo)).take (HT.sIx xs.length xs.length hi-HT.sIx xs.length 0 lo),zN _ rfl⟩
noncomputable def zFW:V->Bool
 | .non=>true
 | .bl _=>true
 | .int _=>true
 | .str _=>true
 | _=>false
noncomputable def eqV:V->V->Bool
 | .non,.non=>true
 | .bl a,.bl b=>a==b
 | .bl a,.int b=>(if a then 1 else 0)==b
 | .int a,.bl b=>a==(if b then 1 else 0)
 | .int a,.int b=>a==b
 | .str a,.str b=>a==b
 | _,_=>false
theorem eqAt_V {A:Around}{s:Shared}{y x:V}{u v:Value}(ry:zBn y u)(rx:zBn x v)(fy:zFW y=true)(fx:zFW x=true):SeqAt.EqAt A s u v (eqV y x):=by
 cases y with
 | non=>
  cases ry
  cases x with
  | non=>cases rx;exact SeqAt.EqAt.same _
  | bl b=>cases rx;exact SeqAt.EqAt.none_bool b
  | int b=>obtain⟨t,rfl⟩:=rx;exact SeqAt.EqAt.none_int b t
  | str b=>obtain⟨t,rfl⟩:=rx;exact SeqAt.EqAt.none_str b t
  | _=>exact absurd (show false=true from fx) zg
 | bl a=>
  cases ry
  cases x with
  | non=>cases rx;exact SeqAt.EqAt.bool_none a
  | bl b=>cases rx;exact SeqAt.EqAt.bool_bool a b
  | int b=>obtain⟨t,rfl⟩:=rx;exact SeqAt.EqAt.bool_int a b t
  | str b=>obtain⟨t,rfl⟩:=rx;exact SeqAt.EqAt.bool_str a b t
  | _=>exact absurd (show false=true from fx) zg
 | int a=>
  obtain⟨t',rfl⟩:=ry
  cases x with
  | non=>cases rx;exact SeqAt.EqAt.int_none a t'
  | bl b=>cases rx;exact SeqAt.EqAt.int_bool a t' b
  | int b=>obtain⟨t,rfl⟩:=rx;exact SeqAt.EqAt.int_int a t' b t
  | str b=>obtain⟨t,rfl⟩:=rx;exact SeqAt.EqAt.int_str a t' b t
  | _=>exact absurd (show false=true from fx) zg
 | str a=>
  obtain⟨t',rfl⟩:=ry
  cases x with
  | non=>cases rx;exact SeqAt.EqAt.str_none a t'
  | bl b=>cases rx;exact SeqAt.EqAt.str_bool a t' b
  | int b=>obtain⟨t,rfl⟩:=rx;exact SeqAt.EqAt.str_int a t' b t
  | str b=>obtain⟨t,rfl⟩:=rx;exact SeqAt.EqAt.str_str a t' b t
  | _=>exact absurd (show false=true from fx) zg
 | _=>exact absurd (show false=true from fy) zg
noncomputable def eqU (x:V)(u:Value):Bool:=match u with
 | .none=>eqV .non x
 | .bool b=>eqV (.bl b) x
 | .int i _=>eqV (.int i) x
 | .str z _=>eqV (.str z) x
 | _=>false
theorem zLJ {x y:V}{u:Value}(r:zBn y u)(f:zFW y=true):eqU x u=eqV y x:=by
 cases y with
 | non=>cases r;rfl
 | bl b=>cases r;rfl
 | int i=>obtain⟨t,rfl⟩:=r;rfl
 | str z=>obtain⟨t,rfl⟩:=r;rfl
 | _=>exact absurd (show false=true from f) zg
theorem zEi {x:V}:∀{xs:List V}{us:List Value},zBB xs us->xs.all zFW=true->us.any (eqU x)=xs.any fun y=>eqV y x
 | _,_,.nil,_=>rfl
 | y::xs,u::us,.cons r t,f=>by
  rw[List.all_cons,zA8] at f
  rw[List.any_cons,List.any_cons,zLJ r f.1,zEi t f.2]
theorem zDX {A:Around}{s:Shared}{x:V}{v:Value}(rx:zBn x v)(fx:zFW x=true):∀{xs:List V}{us:List Value},zBB xs us->xs.all zFW=true->∀u∈us,SeqAt.EqAt A s u v (eqU x u)
 | _,_,.nil,_=>fun u hu=>by cases hu
 | y::xs,u::us,.cons r t,f=>fun u' hu=>by
  rw[List.all_cons,zA8] at f
  rcases zT.mp hu with rfl | hu
  . rw[zLJ r f.1];exact eqAt_V r rx f.1 fx
  . exact zDX rx fx t f.2 u' hu
noncomputable def inV (x:V)(xs:List V):Bool:=xs.any fun y=>eqV y x
noncomputable def rIn (K:PySem.W.Frag)(neg:Bool):R2:=fun x y H Q=>∃p xs,y = .ref p/\(SqL K H p xs\/SqT K H p xs)/\zFW x=true/\xs.all zFW=true/\Q (.bl (if neg then !inV x xs else inV x xs)) H
theorem zF2:OpR X (compareOp .In) (rIn X.K false):=by
 intro pins s σ H x y v u Q I rx ry h
 obtain⟨p,xs,rfl,hq,fx,fs,q⟩:=h
 cases ry
 rcases hq with hq | hq
 . obtain⟨its,r,pl,hz⟩:=I.list hq
   refine SeqAt.in_listAt (eqU x) pl.isList (fun w hw=>zDX rx fx r fs w (by simpa using hw)) ⟨.bl _,H,I,rfl,?_⟩
   rw[show its.toArray.any (eqU x)=its.any (eqU x) by simp,zEi r fs]
   exact q
 . obtain⟨its,r,pl,hz⟩:=I.tuple hq
   refine SeqAt.in_tupleAt (eqU x) pl (fun w hw=>zDX rx fx r fs w (by simpa using hw)) ⟨.bl _,H,I,rfl,?_⟩
   rw[show its.toArray.any (eqU x)=its.any (eqU x) by simp,zEi r fs]
   exact q
theorem zC2:OpR X (compareOp .NotIn) (rIn X.K true):=by
 intro pins s σ H x y v u Q I rx ry h
 obtain⟨p,xs,rfl,hq,fx,fs,q⟩:=h
 cases ry
 rcases hq with hq | hq
 . obtain⟨its,r,pl,hz⟩:=I.list hq
   refine SeqAt.notIn_listAt (eqU x) pl.isList (fun w hw=>zDX rx fx r fs w (by simpa using hw)) ⟨.bl _,H,I,rfl,?_⟩
   rw[show its.toArray.any (eqU x)=its.any (eqU x) by simp,zEi r fs]
   exact q
 . obtain⟨its,r,pl,hz⟩:=I.tuple hq
   refine SeqAt.notIn_tupleAt (eqU x) pl (fun w hw=>zDX rx fx r fs w (by simpa using hw)) ⟨.bl _,H,I,rfl,?_⟩
   rw[show its.toArray.any (eqU x)=its.any (eqU x) by simp,zEi r fs]
   exact q
theorem zAQ:zDN X (.builtin "len") (fun xs H Q=>∃p ys,xs=[.ref p]/\(SqL X.K H p ys\/SqT X.K H p ys)/\Q (.int ys.length) H):=by
 intro pins s σ H xs us Q I r h
 obtain⟨p,ys,rfl,hq,q⟩:=h
 obtain⟨u,rfl,rx⟩:=zDB r
 cases rx
 have hn:=zF6
 rcases hq with hq | hq
 . obtain⟨its,r',pl,hz⟩:=I.list hq
   have hlen:=r'.length
   exact Calls.call_len_list pl.isList (by simp only[zS] <;> omega) ⟨.int ys.length,H,I.tok _,⟨s.toks+1,by rw[zS,hlen]⟩,q⟩
 . obtain⟨its,r',pl,hz⟩:=I.tuple hq
   have hlen:=r'.length
   exact len_tuple pl (by simp only[zS] <;> omega) ⟨.int ys.length,H,I.tok _,⟨s.toks+1,by rw[zS,hlen]⟩,q⟩
theorem zCf:zDN X (.type "list") (fun xs H Q=>∃p ys,xs=[.ref p]/\(SqL X.K H p ys\/SqT X.K H p ys)/\∀l,H l=none->Q (.ref l) (upd H l (.lst ys))):=by
 intro pins s σ H xs us Q I r h
 obtain⟨p,ys,rfl,hq,q⟩:=h
 obtain⟨u,rfl,rx⟩:=zDB r
 cases rx
 have fin:∀(its:List Value),zBB ys its->ys.length<=sizeLine->∀(h':Heap)(c':Nat),(∀b o',s.heap.get? b=some o'->h'.get? b=some o') ->
  h'.get? s.heap.objs.size=some { cls:=.type "list",dict:=none,data:=.seq its.toArray c',slots:=#[] }->EP X pins σ Q (.ref s.heap.objs.size) { s with heap:=h' }:=fun its r' hz h' c' kp e=>
  ⟨.ref s.heap.objs.size,_,I.laid (t':=s.toks) kp (zH _) (show zBP X.prog X.w _ h' _ (.lst ys) from ⟨hz,its,c',r',e⟩),rfl,q _ (I.hok.fresh (zH _))⟩
 rcases hq with hq | hq
 . obtain⟨its,r',pl,hz⟩:=I.list hq
   have hlen:=r'.length
   obtain⟨o,ho,hc,n,hd⟩:=pl.isList
   exact call_list_seq p (.inl rfl) ho hc hd (fun h' c' kp e=>fin its r' hz h' c' kp e) (by simp only[zS] <;> omega)
 . obtain⟨its,r',pl,hz⟩:=I.tuple hq
   have hlen:=r'.length
   obtain⟨o,ho,hc,n,hd⟩:=pl
   exact call_list_seq p (.inr rfl) ho hc hd (fun h' c' kp e=>fin its r' hz h' c' kp e) (by simp only[zS] <;> omega)
theorem zAe:zDN X (.type "tuple") (fun xs H Q=>∃p ys,xs=[.ref p]/\((SqL X.K H p ys/\∀l,H l=none->Q (.ref l) (upd H l (.tup ys)))\/(SqT X.K H p ys/\Q (.ref p) H))):=by
 intro pins s σ H xs us Q I r h
 obtain⟨p,ys,rfl,h⟩:=h
 obtain⟨u,rfl,rx⟩:=zDB r
 cases rx
 rcases h with ⟨hq,q⟩ | ⟨hq,q⟩
 . obtain⟨its,r',pl,hz⟩:=I.list hq
   have hlen:=r'.length
   refine call_tuple_list pl.isList (fun h' kp=>?_) (by simp only[zS] <;> omega)
   have I1:Inv X pins σ H { s with heap:=h' }:=I.kept (t':=s.toks) kp
   have I2:Inv X pins σ (upd H h'.objs.size (.tup ys)) { s with heap:=h'.push { cls:=.type "tuple",data:=.seq its.toArray } }:=
    I1.laid (t':=s.toks) (fun b o e=>zF _ e) (zH _) (show zBP X.prog X.w _ _ _ (.tup ys) from ⟨⟨hz,_,zN _ rfl,rfl⟩,its,r',IsTup.new _ _⟩)
   exact⟨.ref h'.objs.size,_,I2,rfl,q _ (I1.hok.fresh (zH _))⟩
 . obtain⟨its,r',pl,hz⟩:=I.tuple hq
   exact call_tuple_same pl ⟨.ref p,H,I,rfl,q⟩
noncomputable def tyV (K:PySem.W.Frag)(T:String)(x:V)(H:Hp):Prop:=match x with
 | .str _=>T = "str"
 | .int _=>T = "int"
 | .ref p=>(T = "list" /\ ∃xs,SqL K H p xs)\/(T = "tuple" /\ ∃o,K.lookup p=some o/\o.cls = .type "tuple" /\ o.dict=none) \/
  (T = "dict" /\ ((∃kvs,H p=some (.dK kvs))\/∃kvs,H p=some (.dT kvs)))\/(T = "set" /\ ∃S n,H p=some (.set S n))
 | _=>False
theorem zKu {pins:List (Addr×Obj)}{σ:St}{H:Hp}{s:Shared}{T:String}{x:V}{v:Value}(I:Inv X pins σ H s)(r:zBn x v)(ty:tyV X.K T x H) :
 s.TypeIs v T/\∀a,v = .ref a->∃ob,s.heap.get? a=some ob/\ob.dict=none:=by
 cases x with
 | str z=>
  obtain⟨t,rfl⟩:=r
  cases (show T = "str" from ty)
  exact⟨typeIs_str s z t,fun _ e=>nomatch e⟩
 | int i=>
  obtain⟨t,rfl⟩:=r
  cases (show T = "int" from ty)
  exact⟨typeIs_int s i t,fun _ e=>nomatch e⟩
 | ref p=>
  cases r
  rcases ty with ⟨rfl,xs,hq⟩ | ⟨rfl,o,hk,hc,hd⟩ | ⟨rfl,hk⟩ | ⟨rfl,S,n,hk⟩
  . obtain⟨its,_,pl,_⟩:=I.list hq
    refine⟨pl.isList.typeIs,fun a e=>?_⟩
    cases e
    obtain⟨o,n,e,c,hd,_⟩:=pl
    exact⟨o,e,hd⟩
  . refine⟨⟨o,I.kIn p o hk,hc⟩,fun a e=>?_⟩
    cases e
    exact⟨o,I.kIn _ o hk,hd⟩
  . have z:∃o,s.heap.get? p=some o/\o.ExactDict:=by
     rcases hk with ⟨kvs,hk⟩ | ⟨kvs,hk⟩
     . obtain⟨_,_,_,_,o,_,_,e,ex,_⟩:=I.hok p _ hk
       exact⟨o,e,ex⟩
     . obtain⟨_,_,_,_,o,_,_,e,ex,_⟩:=I.hok p _ hk
       exact⟨o,e,ex⟩
    obtain⟨o,e,ex⟩:=z
    refine⟨⟨o,e,ex.1⟩,fun a e2=>?_⟩
    cases e2
    exact⟨o,e,ex.2.1⟩
  . obtain⟨o,_,_,_,e,ex,_⟩:=I.hok p _ hk
    refine⟨⟨o,e,ex.1⟩,fun a e2=>?_⟩
    cases e2
    exact⟨o,e,ex.2.1⟩
 | _=>exact False.elim ty
noncomputable def tBM0 (K:PySem.W.Frag)(T:String)(r:V->List V->Hp->VK->Prop)(to:TE):TE:=fun σ H Q=>to σ H fun x H1=>tyV K T x H1/\r x [] H1 Q
noncomputable def tBM (K:PySem.W.Frag)(T:String)(r:V->List V->Hp->VK->Prop)(to:TE)(t:TA):TE:=fun σ H Q=>to σ H fun x H1=>tyV K T x H1/\t σ H1 fun xs H2=>r x xs H2 Q
variable {o e:Expr}{es:List Expr}{to:TE}{t:TA}{name:Str}{apos cpos:Pos}{T id:String}{r:V->List V->Hp->VK->Prop}
theorem pe_bm0 (pa:PlainAttrs T)(slot:Slot T name id)(hty:typeOf (.builtin id)=pure (.type "method_descriptor")) (hm:MtR X id r)(ho:PE X o to)
 (hbase:attributeBase o name X.env (eval o X.env)=eval o X.env:=by rfl)(hline:(apos.endLine==cpos.line)=true:=by rfl):PE X (.Call (.Attribute o name apos) [] [] cpos) (tBM0 X.K T r to):=by
 intro pins s σ H Q I h
 refine wpAny_Call_method0_late hbase hline (thn (ho pins s σ H _ I h) fun v s1 ⟨x,H1,I1,r1,ty,q1⟩=>?_)
 obtain⟨h1,h2⟩:=zKu I1 r1 ty
 exact⟨T,id,pa,slot,hty,h1,h2,Calls.callWith_builtin rfl (PySem.evalArgs_none (hm pins s1 σ H1 x [] v [] Q I1 r1 .nil q1))⟩
theorem zF0 (pa:PlainAttrs T)(slot:Slot T name id)(hty:typeOf (.builtin id)=pure (.type "method_descriptor")) (hm:MtR X id r)(ho:PE X o to)(ha:PA X (e::es) t)
 (hbase:attributeBase o name X.env (eval o X.env)=eval o X.env:=by rfl)
 (hfew:((backTo cpos (starEach (e::es) X.env)).all (fun x=>!x.1) && (backToKw cpos (keywordEach [] X.env)).all (fun x=>x.1.isSome)
  && decide ((e::es).length+([]:List Keyword).length+(if ([]:List Keyword).isEmpty then 0 else 1)<30))=true:=by rfl)
 (hline:(apos.endLine==cpos.line)=true:=by rfl)(hs:starEach (e::es) X.env=(false,eval e X.env)::starEach es X.env:=by rfl)(hplain:(backTo cpos (starEach es X.env)).any (·.1)=false:=by rfl) :
 PE X (.Call (.Attribute o name apos) (e::es) [] cpos) (tBM X.K T r to t):=by
 intro pins s σ H Q I h
 refine wpAny_Call_method_late hbase hfew hline rfl (thn (ho pins s σ H _ I h) fun v s1 ⟨x,H1,I1,r1,ty,q1⟩=>?_)
 obtain⟨h1,h2⟩:=zKu I1 r1 ty
 refine⟨T,id,pa,slot,hty,h1,h2,?_⟩
 have hA:=ha cpos pins s1 σ H1 _ I1 q1
 rw[hs] at hA ⊢
 refine Calls.callWith_builtin (by show (false || (backTo cpos (starEach es X.env)).any (·.1))=false;rw[hplain] <;> rfl) (Calls.evalArgs_plain ?_)
 exact thn hA fun us s2 ⟨vs,H2,I2,r2,q2⟩=>hm pins s2 σ H2 x vs v us Q I2 r1 r2 q2
end
end L2
namespace L2
open PySem PySem.Spec PyProof.Rows
noncomputable def MtM (X:Cx)(id:String)(r:V->List V->Hp->VK->Prop):Prop:=
 ∀(pins:List (Addr×Obj))(s:Shared)(σ:St)(H:Hp)(x:V)(xs:List V)(v:Value)(us:List Value)(Q:VK),Inv X pins σ H s->zBn x v->zBB xs us->r x xs H Q ->
  wpAny (model X.prog X.w) X.A (call (.builtin id) (v::us)) (EP X pins σ Q) X.xe s
theorem zBB.one:∀{x:V}{us:List Value},zBB [x] us->∃u,us=[u]/\zBn x u
 | _,_,.cons r .nil=>⟨_,rfl,r⟩
theorem zBB.zero:∀{us:List Value},zBB [] us->us=[]
 | _,.nil=>rfl
theorem zBB.eraseIdx:∀{xs:List V}{us:List Value}(i:Nat),zBB xs us->zBB (xs.eraseIdx i) (us.eraseIdx i)
 | _,_,_,.nil=>.nil
 | _,_,0,.cons _ t=>t
 | _,_,i+1,.cons r t=>.cons r (zBB.eraseIdx i t)
theorem zBB.reverse {xs:List V}{us:List Value}(h:zBB xs us):zBB xs.reverse us.reverse:=by
 induction h with
 | nil=>exact .nil
 | cons r t ih=>rw[List.reverse_cons,List.reverse_cons];exact zBB.append ih (.cons r .nil)
theorem zBB.rep {xs:List V}{us:List Value}(h:zBB xs us):∀k:Nat,zBB (List.replicate k xs).flatten (List.replicate k us).flatten
 | 0=>.nil
 | k+1=>by
  rw[zBV,zBV,zAc,zAc]
  exact zBB.append h (zBB.rep h k)
theorem zF7 {α:Type}:∀(l:List α)(i:Nat),(l.eraseIdx i).length<=l.length
 | [],_=>zH _
 | _::_,0=>zBo _
 | _::r,i+1=>Nat.succ_le_succ (zF7 r i)
theorem zGF (its:List Value):∀(k:Nat)(acc:List Value),
 List.foldl (fun x1 x2=>x1++x2) acc.toArray (List.replicate k its.toArray)=(acc++(List.replicate k its).flatten).toArray
 | 0,acc=>by simp
 | k+1,acc=>by
  have e:acc.toArray++its.toArray=(acc++its).toArray:=by simp
  have e2:(acc++its)++(List.replicate k its).flatten=acc++(List.replicate (k+1) its).flatten:=by
   rw[zBV,zAc,zAd]
  rw[<-e2,<-zGF its k (acc++its),<-e,zBV,List.foldl_cons]
section
variable {X:Cx}{pins:List (Addr×Obj)}{σ:St}{H:Hp}{s:Shared}{l b:Addr}{xs ys zs:List V}
theorem Inv.lset {its its':List Value}{n:Nat}{f:Array Value->Array Value}{t':Nat}(I:Inv X pins σ H s)(hH:H l=some (.lst xs))
 (e:s.heap.get? l=some { cls:=.type "list",data:=.seq its.toArray n }) (hf:f its.toArray=its'.toArray)(hv:zBB ys its')(hz:ys.length<=sizeLine) :
 Inv X pins σ (upd H l (.lst ys)) { s with heap:=s.heap.update l (Obj.mapSeq f),toks:=t' }:=by
 have q:=PySem.IsL.update e f
 rw[hf] at q
 refine I.write (x:=l) (e:=l) (by rw[hH];exact trivial) (.inl rfl) (fun b' u hb hu=>(zAn s.heap (Obj.mapSeq f) (Ne.symm hb)).trans hu) ⟨_,q⟩ ?_
 exact⟨hz,its',_,hv,q⟩
theorem Inv.lnew {its:List Value}{t':Nat}(I:Inv X pins σ H s)(hv:zBB ys its)(hz:ys.length<=sizeLine) :
 Inv X pins σ (upd H s.heap.objs.size (.lst ys)) { s with heap:=s.heap.push { cls:=.type "list",data:=.seq its.toArray },toks:=t' }:=
 I.laid (fun _ _ q=>zF _ q) (zH _) ⟨hz,its,0,hv,zN _ rfl⟩
theorem Inv.fresh (I:Inv X pins σ H s):H s.heap.objs.size=none:=I.hok.fresh (zH _)
theorem Inv.lstM (I:Inv X pins σ H s)(hH:H l=some (.lst xs)):xs.length<=sizeLine/\∃(its:List Value)(n:Nat),zBB xs its/\xs.length=its.length/\s.heap.get? l=some { cls:=.type "list",data:=.seq its.toArray n }:=by
 obtain⟨z,its,n,r,e⟩:=I.hok l _ hH
 exact⟨z,its,n,r,r.length,e⟩
theorem zHS {n:Nat}(h:n<=sizeLine):Builtin.List.listTooLong n=false:=by
 unfold Builtin.List.listTooLong
 exact zZ (by omega)
end
section
variable {X:Cx}
noncomputable def zLj:V->List V->Hp->VK->Prop:=fun x vs H Q=>∃l xs y,x = .ref l/\vs=[y]/\H l=some (.lst xs)/\xs.length<sizeLine/\Q .non (upd H l (.lst (xs++[y])))
theorem zCU:MtM X "list.append" zLj:=by
 intro pins s σ H x vs v us Q I rx rv h
 obtain⟨l,xs,y,rfl,rfl,hH,hz,q⟩:=h
 cases rx
 obtain⟨u,rfl,ru⟩:=rv.one
 obtain⟨z,its,n,r,hl,e⟩:=I.lstM hH
 refine call_meets F.slot_list_append ⟨_,e,rfl⟩ F.entry_list_append (F.args_list_append_2 _ _) (PySem.list_append l its.toArray n u (by rw[zS];omega)) ⟨e,?_⟩
 refine⟨.non,_,I.lset (its':=its++[u]) hH e (by simp) (r.append (.cons ru .nil)) ?_,rfl,q⟩
 rw[zC,List.length_singleton]
 omega
noncomputable def rPopAt:V->List V->Hp->VK->Prop:=fun x vs H Q=>∃l xs i k y,x = .ref l/\vs=[.int i]/\H l=some (.lst xs) /\ -(2 ^ 63)<=i/\i<2 ^ 63/\seqIndex? i xs.length=some k/\xs[k]? = some y/\Q y (upd H l (.lst (xs.eraseIdx k)))
theorem zKV:MtM X "list.pop" rPopAt:=by
 intro pins s σ H x vs v us Q I rx rv h
 obtain⟨l,xs,i,k,y,rfl,rfl,hH,h1,h2,hk,hy,q⟩:=h
 cases rx
 obtain⟨u,rfl,ru⟩:=rv.one
 obtain⟨t,rfl⟩:=ru
 obtain⟨z,its,n,r,hl,e⟩:=I.lstM hH
 obtain⟨w,hw,rw'⟩:=r.get hy
 refine call_meets F.slot_list_pop ⟨_,e,rfl⟩ F.entry_list_pop (F.args_list_pop_2 _ _)
  (MeetsSeq.list_pop_at l its.toArray n i t k w (fitsIndex_both h1 h2) (by rw[zS,<-hl];exact hk) (by rw[<-Array.getElem?_toList];exact hw) (by rw[zS];omega)) ⟨e,?_⟩
 refine⟨y,_,I.lset (its':=its.eraseIdx k) hH e ?_ (r.eraseIdx k) ?_,rw',q⟩
 . show its.toArray.eraseIdxIfInBounds k=(its.eraseIdx k).toArray
   rw[List.eraseIdxIfInBounds_toArray]
 . have:=zF7 xs k
   omega
noncomputable def zKK:V->List V->Hp->VK->Prop:=fun x vs H Q=>∃l xs,x = .ref l/\vs=[]/\H l=some (.lst xs)/\Q .non (upd H l (.lst xs.reverse))
theorem zHx:MtM X "list.reverse" zKK:=by
 intro pins s σ H x vs v us Q I rx rv h
 obtain⟨l,xs,rfl,rfl,hH,q⟩:=h
 cases rx
 have hus:=rv.zero
 subst hus
 obtain⟨z,its,n,r,hl,e⟩:=I.lstM hH
 refine call_meets F.slot_list_reverse ⟨_,e,rfl⟩ F.entry_list_reverse (F.args_list_reverse_1 _) (AutoSeq1.list_reverse_list_0 l its.toArray n (by rw[zS];omega)) ⟨e,?_⟩
 refine⟨.non,_,I.lset (its':=its.reverse) hH e (by simp) r.reverse ?_,rfl,q⟩
 rw[List.length_reverse]
 omega
noncomputable def rCat:R2:=fun x y H Q=>∃l b xs zs,x = .ref l/\y = .ref b/\H l=some (.lst xs)/\H b=some (.lst zs)/\xs.length+zs.length<=sizeLine/\∀p,H p=none->Q (.ref p) (upd H p (.lst (xs++zs)))
theorem zF3:OpR X (binaryOp .Add) rCat:=by
 intro pins s σ H x y v u Q I rx ry h
 obtain⟨l,b,xs,zs,rfl,rfl,hH,hB,hz,q⟩:=h
 cases rx
 cases ry
 obtain⟨z,its,n,r,hl,e⟩:=I.lstM hH
 obtain⟨z2,its2,n2,r2,hl2,e2⟩:=I.lstM hB
 refine PySem.P.add_list e e2 ?_ (by rw[zS,zS];omega)
 have ea:its.toArray++its2.toArray=(its++its2).toArray:=by simp
 rw[ea]
 exact⟨.ref _,_,I.lnew (t':=s.toks) (r.append r2) (by rw[zC];omega),rfl,q _ I.fresh⟩
noncomputable def rRep:R2:=fun x y H Q=>∃l k xs,x = .ref l/\y = .int k/\H l=some (.lst xs) /\ -(2 ^ 63)<=k/\k<2 ^ 63/\xs.length*k.toNat<=sizeLine /\
 ∀p,H p=none->Q (.ref p) (upd H p (.lst (List.replicate k.toNat xs).flatten))
theorem zL3 {α:Type}(xs:List α)(k:Nat):(List.replicate k xs).flatten.length=k*xs.length:=by
 induction k with
 | zero=>simp
 | succ k ih=>rw[zBV,zAc,zC,ih,Nat.succ_mul,Nat.add_comm]
theorem op_rep:OpR X (binaryOp .Mult) rRep:=by
 intro pins s σ H x y v u Q I rx ry h
 obtain⟨l,k,xs,rfl,rfl,hH,h1,h2,hz,q⟩:=h
 cases rx
 obtain⟨t,rfl⟩:=ry
 obtain⟨z,its,n,r,hl,e⟩:=I.lstM hH
 have hlen:its.toArray.size*k.toNat<=sizeLine:=by rw[zS,<-hl];exact hz
 have hcap:¬ its.toArray.size*k.toNat > (2 ^ 63-1)/8:=by
  have:(sizeLine:Nat)<=(2 ^ 63-1)/8:=by decide
  omega
 have hfit:¬ (!Builtin.List.listFitsIndex k)=true:=by
  rw[fitsIndex_both h1 h2]
  exact zg
 have hlong:¬ Builtin.List.listTooLong (its.toArray.size*k.toNat)=true:=by
  rw[zHS hlen]
  exact zg
 have hnew:List.foldl (fun x1 x2=>x1++x2) #[] (List.replicate (if its.toArray.isEmpty=true then 0 else k.toNat) its.toArray)=(List.replicate k.toNat its).flatten.toArray:=by
  have f0:∀m:Nat,List.foldl (fun x1 x2=>x1++x2) #[] (List.replicate m its.toArray)=(List.replicate m its).flatten.toArray:=fun m=>by
   have:=zGF its m []
   rw[List.nil_append] at this
   exact this
  rw[f0]
  cases its with
  | nil=>simp
  | cons a r'=>rw[if_neg (by simp)]
 refine wpAny_binaryOp_repeat_ref (T := "list") (U := "int") (by decide) ⟨_,e,rfl⟩ (fun s'=>typeIs_int s' k t) noFill_list_mul F.fills_int_mul F.slot_int_rmul repeat_list F.slot_int_index.lookup
  (call_meets F.slot_int_rmul (typeIs_int s k t) F.entry_int_rmul (F.args_int_rmul_2 _ _) (int___rmul___int_list k t l its.toArray n)
   ⟨e,rfl,⟨_,e,rfl⟩,call_meets F.slot_list_mul ⟨_,e,rfl⟩ F.entry_list_mul (F.args_list_mul_2 _ _) (AutoListH.list___mul___list_int_3 l its.toArray n k t hfit hcap hlong) ⟨e,?_⟩⟩)
 rw[hnew]
 exact⟨.ref _,_,I.lnew (t':=s.toks) (r.rep k.toNat) (by rw[zL3,Nat.mul_comm];exact hz),rfl,q _ I.fresh⟩
end
section
variable {prog:Program}{w:World}{A:Around}{E:Value->Shared->Prop}{s:Shared}
set_option maxRecDepth 100000 in
end
section
variable {X:Cx}
end
end L2
namespace Att
open PySem PySem.W PySem.Calls PyProof.Rows
theorem zEX {P:Params}{h:Heap}:∀(ns:List Int)(vs:List Value),WellAll P h vs (ns.map WData.int)->IntsAre vs ns:=by
 intro ns
 induction ns with
 | nil=>
  intro vs w
  rw[List.map_nil] at w
  cases w
  exact .nil
 | cons n ns ih=>
  intro vs w
  rw[zAV] at w
  cases w with
  | cons a b=>
   cases a
   exact .cons _ _ (ih _ b)
theorem zIg {l:OpenLaw}{n:Nat}(hn:l.most=some n){P:Params}{h:Heap}{args:List WData}{vals:List Value}
 (hpre:l.row.toRowW.claim.pre args=true)(hwl:WellAll P h vals args) :
 ∃a vs ns,vals=[Value.ref a]/\args=[WData.list (ns.map WData.int)]/\h.get? a=some { cls:=.type "list",data:=.seq vs.toArray }/\IntsAre vs ns/\ns.length<=n:=by
 have hsh:WShape.hasAll [] args [.list .int]=true:=(pre_splitW hpre).1
 have hc:l.pre.holds [] { args:=args }=true:=(pre_splitW hpre).2
 obtain⟨d,r,rfl,h1,h2⟩:=hasAllW_cons hsh
 obtain rfl:=hasAllW_nil h2
 obtain⟨xs,rfl,h3⟩:=hasW_list h1
 obtain⟨ns,rfl⟩:=items_int h3
 have hlen:ns.length<=n:=by
  unfold OpenLaw.pre at hc
  have h4:(WTm.not (.lt (.lit (.int (n:Int))) (.len (.arg 0)))).holds [] { args:=[.list (ns.map .int)] }=true:=by
   have h4:=(holds_andW hc).1
   rw[hn] at h4
   exact h4
  have h5:=condW_of h4 (w_not (w_lt w_lit (w_len_list (w_arg rfl))))
  rw[zD] at h5
  refine Nat.le_of_not_lt fun q=>?_
  have q':(n:Int)<((ns.length:Nat):Int):=by omega
  first
   | (rw[zP q'] at h5;exact absurd h5 (by decide))
   | (simp at h5;omega)
 cases hwl with
 | cons w1 w2=>
  cases w2
  cases w1 with
  | list ho hall=>exact⟨_,_,ns,rfl,rfl,ho,zEX ns _ hall,hlen⟩
theorem zIt (l:OpenLaw)(args:List WData):l.row.toRowW.claim.post args (.bool true) args=true:=
 postW_of (r:=l.row.toRowW) (X:=(true==true))
  (show WShape.has [] (.bool true) .bool=true by first | rfl | decide | simp[WShape.has,WShape.arms,WShape.armsAll])
  (show (WTm.eq .res (.lit (.bool true))).value [] { args:=args,res:=some (.bool true),after:=args }=some (.bool (true==true)) from w_eq_bool (w_res rfl) w_lit) rfl
theorem attach_call {l:OpenLaw}{n:Nat}{q:Program}{loose:List Str}{XP:(Str->Option Value)->Heap->Prop}{YP:World->Heap->Prop}{d:DefRec}
 (hn:l.most=some n)(hdf:d.params.defaults=[])
 (call:∀(w:World)(s₀ s₁:Shared)(mg mb:Str->Option Value)(fa:Addr)(o:Obj)(pm cd doc:Value)(a:Addr)(vs:List Value)(ns:List Int),
  Ground q loose [] XP w s₀ mg mb s₁.heap->YP w s₁.heap ->
  s₁.heap.get? fa=some o->o.data = .func (docDef d.name d.params d.body d.scope pm cd doc)->s₁.heap.CodeRec cd d.name->mg d.name=some (.ref fa) ->
  s₁.heap.get? a=some { cls:=.type "list",data:=.seq vs.toArray }->IntsAre vs ns->ns.length<=n->s₁.gens = #[] ->
  codeAny (model l.prog w) callerA (.call (.ref fa) ⟨[.ref a],[]⟩) (fun r s'=>r = .ok (.ret (.bool true))/\OldK s₁.heap s'.heap/\s'.os=s₁.os/\AllBare s'.gens) s₁) :
 WalkO q loose XP YP l.row.toRowW d [] (fun f vs=>PySem.call f vs):=by
 intro w s₀ s₁ mg mb G Y fa o pm cd doc dV kV ho hd hcd hD hmg hg args vals as hpre hlay hrd hwl hlo
 obtain rfl:dV = .none:=Dflts.none hD hdf
 obtain rfl:kV = .none:=Dflts.noKw hD
 obtain⟨a,vs,ns,rfl,rfl,hobj,hints,hlen⟩:=zIg hn hpre hwl
 refine enter_call (codeAny_mono (call w s₀ s₁ mg mb fa o pm cd doc a vs ns G Y ho (fd_plain hd) hcd hmg hobj hints hlen hg) fun r s' hq=>?_)
 obtain⟨rfl,h2,h3,h4⟩:=hq
 exact⟨.inl ⟨.bool true,.bool true,[],rfl,fun _=>rfl,.bool true,zIt l _,fun _=>⟨List.Pairwise.nil,fun _ hm=>(nomatch hm)⟩⟩,h2,h3,h4⟩
section
variable {prog:Program}{w:World}{A:Around}{E:Value->Shared->Prop}{s:Shared}{K:Frag}
end
end Att
namespace L2
open PySem PySem.Spec PyProof.Rows
theorem zFe:∀{vs:List Value}{ns:List Int},IntsAre vs ns->zBB (ns.map V.int) vs
 | _,_,.nil=>.nil
 | _,_,.cons n t h=>.cons ⟨t,rfl⟩ (zFe h)
end L2
namespace L2
open PySem PySem.Spec PyProof.Rows
end L2
namespace L2
open PySem PySem.Spec PyProof.Rows
noncomputable def defArgs (s:Stmt):Arguments:=match s with
 | .FunctionDef _ a _ _ _ _ _ _ _ _=>a
 | _=>{ posonlyargs:=[],args:=[],vararg:=none,kwonlyargs:=[],kw_defaults:=[],kwarg:=none,defaults:=[] }
noncomputable def defBody (s:Stmt):List Stmt:=match s with
 | .FunctionDef _ _ b _ _ _ _ _ _ _=>b
 | _=>[]
noncomputable def defScope (s:Stmt):Scope:=match s with
 | .FunctionDef _ _ _ _ _ _ sc _ _ _=>sc
 | _=>{ kind:=.function,names:=[],isGenerator:=false,isCoroutine:=false }
noncomputable abbrev CX0:CXT:=fun _ _ _ _ _ _=>False
noncomputable abbrev E0:XK:=fun _ _ _=>False
theorem zAX {X:Cx}:zHk CX0 X E0:=fun _ _ _ _ _ _ _ h=>h.elim
structure Fun (K:PySem.W.Frag)(x qual:Str)(st:Stmt)(f:Addr)(fd:FuncData):Prop where
 ex:∃(oc:Value)(od:Option Addr)(kV doc pm:Value)(an:Option Addr)(cdv ct:Value)(osl:Array (Option Value)),
  fd=PySem.W.fnOf x qual (defArgs st) (defBody st) (defScope st) .none kV doc pm an cdv ct/\K.lookup f=some ⟨oc,od,.func fd,osl⟩/\PySem.W.codeIn K cdv qual=true
 kp:PySem.W.keepIn K (.ref f)=true
section
variable {P:Program}{w:World}{K:PySem.W.Frag}{mg:Str->Option Value}{base:Heap}
theorem Fun.ok {x qual:Str}{st:Stmt}{f:Addr}{fd:FuncData}{N ps:List Str}{k:Nat}{sp:Sp}(F:Fun K x qual st f fd)(S:zAH N ps (defScope st))(len:∀vs H Q E,sp vs H Q E->vs.length=ps.length)
 (hbody:∀(cdv:Value)(A:Around)(outer:List Env)(s:Shared)(H:Hp)(vs:List V)(Q:VK)(E:XK),zDF k (A.deeper (envOfC qual (defScope st) s.heap.objs.size f cdv))->sp vs H Q E ->
  ∃t,PSs (zIE CX0 P w K mg base N qual (defScope st) f cdv A outer s H E).nox (defBody st) t/\t { nx:=fun _ H'=>Q .non H',rt:=Q } (start N vs) H):zAi P w K mg base CX0 (k+1) f fd ps sp:=by
 obtain⟨oc,od,kV,doc,pm,an,cdv,ct,osl,rfl,lk,hcd⟩:=F.ex
 refine zME lk hcd S len fun A outer s H vs Q E hr hsp=>?_
 obtain⟨t,h,q⟩:=hbody cdv A outer s H vs Q E hr hsp
 exact⟨t,h.nox,q⟩
theorem Fun.binds {x qual:Str}{st:Stmt}{f:Addr}{fd:FuncData}{ps:List Str}(F:Fun K x qual st f fd)
 (h:∀(kV doc pm:Value)(an:Option Addr)(cdv ct:Value)(us:List Value),us.length=ps.length->bindArgs (PySem.W.fnOf x qual (defArgs st) (defBody st) (defScope st) .none kV doc pm an cdv ct) ⟨us,[]⟩=pure (ps.zip us)):zAA K fd ps []:=by
 obtain⟨oc,od,kV,doc,pm,an,cdv,ct,osl,rfl,lk,hcd⟩:=F.ex
 exact .all (h kV doc pm an cdv ct)
theorem zLG {x qual:Str}{st:Stmt}{f:Addr}{oc:Value}{od an:Option Addr}{osl:Array (Option Value)}{kV doc pm cdv ct:Value}(l:K.lookup f=some ⟨oc,od,.func (PySem.W.fnOf x qual (defArgs st) (defBody st) (defScope st) .none kV doc pm an cdv ct),osl⟩)
 (c:PySem.W.codeIn K cdv qual=true)(k:PySem.W.keepIn K (.ref f)=true):Fun K x qual st f (PySem.W.fnOf x qual (defArgs st) (defBody st) (defScope st) .none kV doc pm an cdv ct):=⟨⟨oc,od,kV,doc,pm,an,cdv,ct,osl,rfl,l,c⟩,k⟩
end
theorem zGz {A:Around}{k:Nat}(hr:zDF k A):A.units+1<cLine:=zAo (Nat.add_le_add_left (by decide:1<=64) _) hr.units
section
variable {X:Cx}
theorem pv (i:Nat){x:Str}{pos:Pos}(hN:X.N[i]? = some x:=by rfl)(hv:Vis X.env.scope x:=by first | exact Or.inl rfl | exact Or.inr (Or.inl rfl) | exact Or.inr (Or.inr rfl))(hd:(x==("__debug__" : Str))=false:=by decide)
 (hcd:(x==("__classdict__" : Str))=false:=by decide):PE X (.Name x pos) (tVar i):=pe_var hN hv hd hcd
end
theorem zCm {A B:Prop}(h:B):if false=true then A else B:=by
 rw[if_neg zg]
 exact h
theorem zDb {A B:Prop}(h:A):if true=true then A else B:=by
 rw[if_pos rfl]
 exact h
theorem zD9 {c A B:Prop} [Decidable c] (h1:c->A)(h2:¬ c->B):if c then A else B:=by
 by_cases h:c
 . rw[if_pos h]
   exact h1 h
 . rw[if_neg h]
   exact h2 h
noncomputable def zA0 (H H':Hp):Prop:=∀b o,H b=some o->H' b=some o
theorem zA0.refl (H:Hp):zA0 H H:=fun _ _ h=>h
theorem zA0.trans {H H1 H2:Hp}(a:zA0 H H1)(b:zA0 H1 H2):zA0 H H2:=fun c o h=>b c o (a c o h)
end L2
namespace L2
open PySem PySem.Spec PyProof.Rows
section
variable {κ:Type} [DecidableEq κ]
theorem zHA {kvs:List (κ×V)}{k:κ}(h:zCQ kvs k=none):¬ k∈kvs.map (·.1):=by
 intro m
 obtain⟨p,hp,e⟩:=zAM.mp m
 have q:(kvs.any fun kv=>decide (kv.1=k))=true:=zB5.mpr ⟨p,hp,zP e⟩
 rw[zCF,h] at q
 exact absurd q (by simp)
theorem zLO {kvs:List (κ×V)}{k:κ}{v:V}(h:zCQ kvs k=some v):k∈kvs.map (·.1):=by
 have q:(kvs.any fun kv=>decide (kv.1=k))=true:=by
  rw[zCF,h]
  all_goals rfl
 obtain⟨p,hp,e⟩:=zB5.mp q
 exact zAM.mpr ⟨p,hp,of_decide_eq_true e⟩
theorem zI7:∀{l:List κ}{k:κ},l.Nodup->¬ k∈l->(l++[k]).Nodup
 | [],k,_,_=>by simp
 | a::r,k,h,hk=>by
  obtain⟨h1,h2⟩:=zAj.mp h
  show (a::(r++[k])).Nodup
  refine zAj.mpr ⟨fun m=>?_,zI7 h2 fun m=>hk (zT.mpr (Or.inr m))⟩
  rcases zK.mp m with q | q
  . exact h1 q
  . exact hk (zT.mpr (Or.inl (zn.mp q).symm))
theorem zI8 {kvs:List (κ×V)}{k:κ}(v:V)(hn:(kvs.map (·.1)).Nodup)(h:zCQ kvs k=none):((zDH kvs k v).map (·.1)).Nodup:=by
 rw[zFK v h,zX]
 exact zI7 hn (zHA h)
theorem zGJ {p:κ×V}{r:List (κ×V)}{k:κ}(e:p.1=k):zCW (p::r) k=zCW r k:=by
 unfold zCW
 rw[List.filter_cons,if_neg (by simp[e])]
theorem zGK {p:κ×V}{r:List (κ×V)}{k:κ}(e:¬ p.1=k):zCW (p::r) k=p::zCW r k:=by
 unfold zCW
 rw[List.filter_cons,if_pos (by simp[e])]
theorem zGL {kvs:List (κ×V)}{k:κ}{p:κ×V}(h:p∈zCW kvs k):p∈kvs:=(zA2.mp h).1
theorem zFR:∀{kvs:List (κ×V)}{k:κ},(kvs.map (·.1)).Nodup->((zCW kvs k).map (·.1)).Nodup
 | [],_,_=>List.nodup_nil
 | p::r,k,h=>by
  have h:(p.1::r.map (·.1)).Nodup:=h
  obtain⟨h1,h2⟩:=zAj.mp h
  by_cases e:p.1=k
  . rw[zGJ e]
    exact zFR h2
  . rw[zGK e]
    show (p.1::(zCW r k).map (·.1)).Nodup
    refine zAj.mpr ⟨fun m=>h1 ?_,zFR h2⟩
    obtain⟨q,hq,eq⟩:=zAM.mp m
    exact zAM.mpr ⟨q,zGL hq,eq⟩
end
end L2
namespace L2
open PySem PySem.Spec PyProof.Rows
section
variable {X:Cx}
end
end L2
set_option Elab.async false
set_option linter.all false
set_option maxRecDepth 100000
set_option maxHeartbeats 4000000
namespace L2
open PySem PySem.Spec PyProof.Rows
theorem zGN {prog:Program}{w:World}{A:Around}{R:Result->Shared->Prop}{s:Shared}{elt target iter:Expr}{ifs:List Expr}{scope:Scope}{pos:Pos}{it acc:Value}{env:Env}(I:Nat->Shared->Prop)
 (turn:∀n s,I n s->wpAny (model prog w) A (pyNext it) (fun r s₁=>match r with
  | none=>R (.ok .next) s₁
  | some v=>wpAny (model prog w) A (letOwnedTupleGo target it v) (fun _ s₁'=>wpAny (model prog w) A (assign target env v) (fun _ s₂=>
   wpAny (model prog w) A (forIn ifs true fun c r=>if r=true then do let ok <-isTrue c env (eval c env);pure (ForInStep.yield ok) else pure (ForInStep.yield r)) (fun ok s₃=>
    if ok=true then wpAny (model prog w) A (eval elt env) (fun x s₄=>
     wpAny (model prog w) A (call (.builtin "list.append") [acc,x]) (fun _ s₅=>∃m,m<n/\I m s₅) (fun _ _=>False) s₄) (fun _ _=>False) s₃
    else ∃m,m<n/\I m s₃) (fun _ _=>False) s₂) (fun _ _=>False) s₁') (fun _ _=>False) s₁) (fun _ _=>False) s)
 (n:Nat)(h:I n s):codeAny (model prog w) A (.compLoop (.ListComp elt [⟨target,iter,ifs,0⟩] scope pos) 0 it acc env) R s:=by
 refine codeAny_loop rfl I (fun n s hI=>?_) n h
 show wpAny _ A ((compTurn (.ListComp elt [⟨target,iter,ifs,0⟩] scope pos) 0 it acc env).onRaise (fun x=>do noteFrame x env;theTreesLotGoes x)) _ _ s
 refine wpAny_noted ?_
 rw[compTurn_list]
 refine zA (wpAny_standAt (zA (zAO (turn n s hI) (fun r s₁ h₁=>?_) fun _ _ h'=>h'.elim)))
 cases r with
 | none=>exact zB h₁
 | some v=>
  refine zA (zAO h₁ (fun _ s₁' h₁'=>?_) fun _ _ h'=>h'.elim)
  refine zA (zAO h₁' (fun _ s₂ h₂=>zA (zAO h₂ (fun ok s₃ h₃=>?_) fun _ _ h'=>h'.elim)) fun _ _ h'=>h'.elim)
  cases ok with
  | false=>exact zB ⟨rfl,h₃⟩
  | true=>
   exact zA (zA (zAO h₃ (fun x s₄ h₄=>zA (zAO h₄ (fun _ s₅ h₅=>zB (zB ⟨rfl,h₅⟩)) fun _ _ h'=>h'.elim)) fun _ _ h'=>h'.elim))
noncomputable def PTs (X:Cx)(ifs:List Expr)(t:TT):Prop:=
 ∀(pins:List (Addr×Obj))(s:Shared)(σ:St)(H:Hp)(Q:Bool->Hp->Prop),Inv X pins σ H s->t σ H Q ->
  wpAny (model X.prog X.w) X.A (forIn ifs true fun c r=>if r=true then do let ok <-isTrue c X.env (eval c X.env);pure (ForInStep.yield ok) else pure (ForInStep.yield r)) (TP X pins σ Q) X.xe s
noncomputable def tYes:TT:=fun _ H Q=>Q true H
theorem zGc {σ:St}{H:Hp}{A B:Hp->Prop}(h:A H):tYes σ H (fun b H3=>if b=true then A H3 else B H3):=by
 show (if true=true then A H else B H)
 exact zDb h
theorem zBv {X:Cx}:PTs X [] tYes:=fun _ _ _ H _ I h=>wpAny_tests_nil ⟨H,I,h⟩
theorem zCo {X:Cx}{c:Expr}{t:TT}(h:PT X c t):PTs X [c] t:=fun pins s σ H Q I q=>wpAny_tests_one (h pins s σ H Q I q)
noncomputable def zD0 (cells:List (Str×Addr)):List (Str×NameKind)->List (Str×Addr)->List (Str×Addr)
 | [],acc=>acc
 | (n,k)::r,acc=>if (k == .free)=true then (match cells.lookup n with | some c=>zD0 cells r ((n,c)::acc) | none=>zD0 cells r acc) else zD0 cells r acc
theorem zDk {cells:List (Str×Addr)}{x:Str}{c:Addr}:∀(names:List (Str×NameKind))(acc:List (Str×Addr)),(zD0 cells names acc).lookup x=some c->acc.lookup x=some c\/cells.lookup x=some c
 | [],acc,h=>.inl h
 | (n,k)::r,acc,h=>by
  unfold zD0 at h
  split at h
  . cases hc:cells.lookup n with
    | none=>rw[hc] at h;exact zDk r acc h
    | some c'=>
     rw[hc] at h
     rcases zDk r _ h with q | q
     . rw[zBd] at q
       cases hx:x==n with
       | true=>
        rw[hx] at q
        have e:x=n:=by simpa using hx
        have e2:c'=c:=by simpa using q
        rw[e,hc,e2]
        exact .inr rfl
       | false=>rw[hx] at q;exact .inl q
     . exact .inr q
  . exact zDk r acc h
theorem zEC {cells:List (Str×Addr)}{x:Str}:∀(names:List (Str×NameKind))(acc:List (Str×Addr)),(∃c,acc.lookup x=some c)->∃c,(zD0 cells names acc).lookup x=some c
 | [],acc,h=>h
 | (n,k)::r,acc,h=>by
  unfold zD0
  split
  . cases hc:cells.lookup n with
    | none=>exact zEC r acc h
    | some c'=>
     refine zEC r _ ?_
     rw[zBd]
     cases hx:x==n with
     | true=>exact⟨c',rfl⟩
     | false=>exact h
  . exact zEC r acc h
theorem zDl {cells:List (Str×Addr)}{x:Str}(hx:∃c,cells.lookup x=some c):∀(names:List (Str×NameKind))(acc:List (Str×Addr)),(x,NameKind.free)∈names->∃c,(zD0 cells names acc).lookup x=some c
 | [],acc,h=>by simp at h
 | (n,k)::r,acc,h=>by
  rcases zT.mp h with e | h
  . cases e
    obtain⟨c,hc⟩:=hx
    unfold zD0
    rw[if_pos (by rfl),hc]
    exact zEC r _ ⟨c,by rw[zBd];simp⟩
  . unfold zD0
    split
    . cases hc:cells.lookup n with
      | none=>exact zDl hx r acc h
      | some c'=>exact zDl hx r _ h
    . exact zDl hx r acc h
theorem zDt {env:Env}:∀(names:List (Str×NameKind))(acc:List (Str×Addr)),(∀y∈names,y.2 = .free->∃c,env.cells.lookup y.1=some c) ->
 (forIn names acc fun (x:Str×NameKind)(cs:List (Str×Addr))=>(if (x.2 == .free)=true then (do let a <-cellOf env x.1;pure (ForInStep.yield ((x.1,a)::cs))) else pure (ForInStep.yield cs):Sem (ForInStep (List (Str×Addr)))))=pure (zD0 env.cells names acc)
 | [],acc,_=>rfl
 | (n,k)::r,acc,h=>by
  rw[List.forIn_cons]
  have hr:∀y∈r,y.2 = .free->∃c,env.cells.lookup y.1=some c:=fun y hy=>h y (zR _ hy)
  unfold zD0
  cases hk:(k==NameKind.free) with
  | true=>
   obtain⟨c,hc⟩:=h (n,k) zY (by simpa using hk)
   simp only[hk,if_true,cellOf,hc,pure_bind]
   exact zDt r _ hr
  | false=>
   simp only[hk,zBi,if_false,pure_bind]
   exact zDt r _ hr
theorem zDj {scope:Scope}{env:Env}(h:∀y∈scope.names,y.2 = .free->∃c,env.cells.lookup y.1=some c):closureFor scope env=pure (zD0 env.cells scope.names []):=by
 have e:=zDt scope.names [] h
 simp only[closureFor]
 simp only[bind_pure]
 exact e
theorem zCh {env:Env}{x:Str}:∀(names:List (Str×NameKind)),
 (names.map fun (n,k)=>if (k==NameKind.free && env.scope.kind == .function && env.kindOf n==some .cell) then (n,NameKind.cell) else (n,k)).lookup x =
  (names.lookup x).map fun k=>if (k==NameKind.free && env.scope.kind == .function && env.kindOf x==some .cell)=true then NameKind.cell else k
 | []=>rfl
 | (n,k)::r=>by
  have ih:=zCh (env:=env) (x:=x) r
  rw[zAV]
  show List.lookup x ((if (k==NameKind.free && env.scope.kind == .function && env.kindOf n==some .cell)=true then (n,NameKind.cell) else (n,k))::_)=_
  by_cases c:(k==NameKind.free && env.scope.kind == .function && env.kindOf n==some .cell)=true
  . rw[if_pos c,zBd,zBd]
    cases hx:x==n with
    | true=>
     have e:x=n:=by simpa using hx
     subst e
     show some NameKind.cell=Option.map _ (some k)
     rw[zBG,if_pos c]
    | false=>exact ih
  . rw[if_neg c,zBd,zBd]
    cases hx:x==n with
    | true=>
     have e:x=n:=by simpa using hx
     subst e
     show some k=Option.map _ (some k)
     rw[zBG,if_neg c]
    | false=>exact ih
noncomputable def zBu (X:Cx)(pl:List (Addr×Obj))(N':List Str)(scope:Scope)(fp:List Addr)(s3:Shared)(H3:Hp):Cx where
 prog:=X.prog
 w:=X.w
 K:=X.K
 mg:=X.mg
 base:=X.base
 A:=X.A
 N:=N'
 s₀:=s3
 H₀:=H3
 env:=compEnvC scope (zD0 X.env.cells scope.names []) s3.heap.objs.size X.env
 outer:=X.stack
 stack:=X.stack
 ex:=fp
 fn:=fun _=>false
 calm:=X.calm
 pn:=pl
 xe:=fun _ _=>False
noncomputable def zGb (X:Cx)(scope:Scope):List Str->List Nat->Prop
 | [],[]=>True
 | x::cn,j::ci=>X.N[j]? = some x/\X.env.kindOf x=some .cell/\scope.names.lookup x=some .free/\zGb X scope cn ci
 | _,_=>False
theorem zGb.get {X:Cx}{scope:Scope}:∀{cn:List Str}{ci:List Nat}{k:Nat}{x:Str},zGb X scope cn ci->cn[k]? = some x->∃j,ci[k]? = some j/\X.N[j]? = some x/\X.env.kindOf x=some .cell/\scope.names.lookup x=some .free
 | [],_,_,_,_,h=>by simp at h
 | _::_,[],_,_,c,_=>c.elim
 | y::cn,j::ci,0,x,c,h=>by
  obtain⟨a,b,b',_⟩:=c
  have e:y=x:=by simpa using h
  subst e
  exact⟨j,rfl,a,b,b'⟩
 | y::cn,j::ci,k+1,x,c,h=>by
  obtain⟨j',h1,h2⟩:=zGb.get (k:=k) c.2.2.2 (by simpa using h)
  exact⟨j',by simpa using h1,h2⟩
structure zEk (X:Cx)(scope:Scope):Prop where
 kind:scope.kind = .function
 nocell:∀y∈scope.names,y.2 ≠ .cell
 names:∀y∈scope.names,y.2 = .local->scope.names.lookup y.1=some .local
 free:∀y∈scope.names,y.2 = .free->X.env.kindOf y.1=some .cell
section
variable {X:Cx}{pins:List (Addr×Obj)}{σ:St}{H3:Hp}{s3:Shared}{scope:Scope}{fp:List Addr}{N' own cn:List Str}{ci:List Nat}{cv:List V}
theorem zHe (ok:X.Ok)(S:zEk X scope){x:Str}(h:(relabel scope X.env).names.lookup x=some .cell\/(relabel scope X.env).names.lookup x=some .free) :
 ∃c,(zD0 X.env.cells scope.names []).lookup x=some c:=by
 have e:(relabel scope X.env).names.lookup x=(scope.names.lookup x).map fun k=>if (k==NameKind.free && X.env.scope.kind == .function && X.env.kindOf x==some .cell)=true then NameKind.cell else k:=zCh scope.names
 have hf:scope.names.lookup x=some .free:=by
  cases q:scope.names.lookup x with
  | none=>rw[e,q] at h;simp at h
  | some k=>
   by_cases hk:k = .free
   . rw[hk]
   . have hb:(k==NameKind.free)=false:=by simpa using hk
     rw[e,q] at h
     simp only[zBG,hb,Bool.false_and,zBi,if_false,Option.some.injEq] at h
     rcases h with h | h
     . exact absurd h (S.nocell _ (PySem.mem_of_lookup q))
     . exact absurd h hk
 exact zDl (ok.has x (.inl (S.free _ (PySem.mem_of_lookup hf) rfl))) scope.names [] (PySem.mem_of_lookup hf)
theorem zDs {x:Str}{c:Addr}(h:(zD0 X.env.cells scope.names []).lookup x=some c):X.env.cells.lookup x=some c:=by
 rcases zDk _ _ h with q | q
 . simp at q
 . exact q
theorem zMH (I:Inv X pins σ H3 s3)(S:zEk X scope)(f:∀b∈fp,zJ1 X pins H3 b)(fz:∀b∈fp,b<s3.heap.objs.size):(zBu X (X.pn++pins) N' scope fp s3 H3).Ok where
 mod:=I.ok.mod
 kind:=S.kind
 glob:=I.ok.glob
 blt:=I.ok.blt
 above:=zH _
 inj:=fun x y c h1 h2=>I.ok.inj x y c (zDs h1) (zDs h2)
 has:=fun x h=>zHe I.ok S h
 cab:=fun x c h=>by cases h
 hd:=I.ok.hd
 frames:=I.ok.frames
 stk:=.inl rfl
 exf:=fun b hb=>⟨zh (fz b hb),fun x c h=>(f b hb).2.2.2.2.1 x c (zDs h)⟩
 bs:=I.bs
 bsz:=zAf I.ok.bsz I.sz
 noex:=fun b o e hb=>by
  rcases (f b hb).2.2.2.1 with z | z
  . exact I.ok.noex b o e z
  . exact absurd (zr (zU e) (zAf I.ok.bsz z)) (zBe _)
 exfs:=fun b hb z=>by
  rcases zT.mp (I.stkSub b z) with q | q
  . exact (f b hb).2.1 q
  . exact (f b hb).2.2.1 q
 funs:=I.stack
 frf:=I.stkFree
theorem zKl {h1:Heap}{t:Nat}(I:Inv X pins σ H3 s3)(S:zEk X scope)(f:∀b∈fp,zJ1 X pins H3 b)(fz:∀b∈fp,b<s3.heap.objs.size)
 (hN:N'=own++cn)(hc:zGb X scope cn ci)(hv:ci.map (fun j=>σ[j]?)=cv.map fun v=>some (some v))(hl:cn.length=ci.length)
 (hns:h1.Ns s3.heap.objs.size (fun _=>none))(hk:∀b o,s3.heap.get? b=some o->h1.get? b=some o) :
 Inv (zBu X (X.pn++pins) N' scope fp s3 H3) [] (List.replicate own.length none++cv.map some) H3 { s3 with heap:=h1,toks:=t }:=by
 have lenv:cv.length=ci.length:=by
  have:=congrArg List.length hv
  simpa using this.symm
 refine⟨zMH I S f fz,rfl,I.bare,Un.kept hk,⟨_,hns,fun i x v e1 e2 e3=>?_⟩,fun x c e=>?_,I.hok.fresh (zH _),fun x c e=>I.freeC x c (zDs e),fun p hp=>?_,I.hok.kept hk,?_⟩
 . -- a captured name
   have hi:own.length<=i:=by
    by_cases hi:own.length<=i
    . exact hi
    . rw[zj (by simpa using hi),List.getElem?_replicate] at e2
      split at e2 <;> cases e2
   rw[zk (by simpa using hi),zAw,zQ] at e2
   have e1':(own++cn)[i]? = some x:=by rw[<-hN];exact e1
   rw[zk hi] at e1'
   obtain⟨j,hj,hNj,hkx,hfr⟩:=hc.get e1'
   have hcv:cv[i-own.length]? = some v:=by
    cases q:cv[i-own.length]? with
    | none=>rw[q] at e2;cases e2
    | some v'=>rw[q] at e2;cases e2;rfl
   have hσ:σ[j]? = some (some v):=by
    have:=congrArg (fun l:List (Option (Option V))=>l[i-own.length]?) hv
    simp only[zQ,hj,hcv,zBG,Option.some.injEq] at this
    exact this
   obtain⟨m,_,hl'⟩:=I.loc
   obtain⟨u,r,q⟩:=hl' j x v hNj hσ (.inr (.inl hkx))
   have hkd:(relabel scope X.env).names.lookup x=some .cell\/(relabel scope X.env).names.lookup x=some .free:=by
    have e:(relabel scope X.env).names.lookup x=(scope.names.lookup x).map fun k=>if (k==NameKind.free && X.env.scope.kind == .function && X.env.kindOf x==some .cell)=true then NameKind.cell else k:=zCh scope.names
    rw[e,hfr,zBG]
    by_cases cc:(NameKind.free==NameKind.free && X.env.scope.kind == .function && X.env.kindOf x==some .cell)=true
    . rw[if_pos cc];exact .inl rfl
    . rw[if_neg cc];exact .inr rfl
   obtain⟨c',hc'⟩:=zHe I.ok S hkd
   refine⟨u,r,.inr ⟨hkd,c',hc',?_⟩⟩
   rcases q with ⟨z,_⟩ | ⟨_,c,hcc,o,ho,hd⟩
   . rw[hkx] at z;cases z
   . have e:c=c':=zf (hcc.symm.trans (zDs hc'))
     subst e
     exact⟨o,hk c o ho,hd⟩
 . obtain⟨v,o,ho,hd⟩:=I.cell x c (zDs e)
   exact⟨v,o,hk c o ho,hd⟩
 . have hp':p∈X.pn++pins:=by rw[zq] at hp;exact hp
   obtain⟨e,n,ne,nf,d⟩:=I.pin p hp'
   refine⟨hk _ _ e,n,zh (zU e),fun z=>?_,d⟩
   rcases zT.mp (I.stkSub p.1 z) with q | q
   . exact ne q
   . exact nf q
 . show (List.replicate own.length none++cv.map some).length=N'.length
   rw[hN,zC,zC,zAw,zD,lenv,hl]
noncomputable def zHl (J:It)(own:Nat)(cv:List V)(g:TG)(ti:TT)(te:TE)(D:Addr)(H1:Hp)(Q:VK):Prop:=∃W:Nat->Nat->List V->Hp->Prop,(∃m,W 0 m [] (upd H1 D (.lst [])))/\∀i m ys H,W i m ys H ->
 (J.stop i H/\Q (.ref D) H)\/(J.go i H/\ys.length<sizeLine/\∃N:List V->Hp->Prop,(∀ys' H',N ys' H'->∃m',m'<m/\W (i+1) m' ys' H') /\
  ∀x H',J.yld i H x H'->g x (List.replicate own none++cv.map some) H' fun σ2 H2=>(σ2.length=own+cv.length/\σ2.drop own=cv.map some) /\
   ti σ2 H2 fun b H3=>if b=true then te σ2 H3 fun y H4=>H4 D=some (.lst ys)/\N (ys++[y]) (upd H4 D (.lst (ys++[y]))) else N ys H3)
noncomputable def zLY (own:Nat)(ci:List Nat)(wi:TI)(g:TG)(ti:TT)(te:TE):TE:=fun σ H Q=>wi σ H fun J H1=>∃cv:List V,ci.map (fun j=>σ[j]?)=cv.map (fun v=>some (some v)) /\
 ∀D,H1 D=none->zHl J own cv g ti te D H1 Q
theorem zGM {elt target iter:Expr}{ifs:List Expr}{pos cpos:Pos}{wi:TI}{g:TG}{ti:TT}{te:TE}{use:Option (Value->Sem Unit)}{Q0:Value->Shared->Prop}{s:Shared}{H:Hp}{Q:VK}(hcalm:X.calm=true)(S:zEk X scope)(hc:zGb X scope cn ci)(hl:cn.length=ci.length)
 (hi:PI X target iter wi)(hg:∀pl fp s3 H3,PG (zBu X pl (own++cn) scope fp s3 H3) target g)(ht:∀pl fp s3 H3,PTs (zBu X pl (own++cn) scope fp s3 H3) ifs ti)
 (he:∀pl fp s3 H3,PE (zBu X pl (own++cn) scope fp s3 H3) elt te)(hs:∀x,foldedSetIterable iter X.env x=pure x)(I:Inv X pins σ H s)(h:zLY own.length ci wi g ti te σ H Q)
 (fin:∀(D C:Addr)(H5:Hp)(s6:Shared)(m6:Str->Option Value),Inv X pins σ H5 s6->s6.heap.Ns C m6->H5 C=none->C≠X.env.locals->X.s₀.heap.objs.size<=C->(∀x c,X.env.cells.lookup x=some c->c≠C) ->
  (∀p∈X.pn++pins,p.1≠C)->Q (.ref D) H5->compPost (model X.prog X.w) X.A X.xe use Q0 (.ref D) C (.ok .next) s6) :
 wpAny (model X.prog X.w) X.A (comprehension (.ListComp elt [⟨target,iter,ifs,0⟩] scope pos) scope X.env cpos (newList []) false (eval iter X.env) use) Q0 X.xe s:=by
 have hcl:closureFor scope X.env=pure (zD0 X.env.cells scope.names []):=zDj fun y hy hf=>I.ok.has y.1 (.inl (S.free y hy hf))
 refine wpAny_comprehension_free (use:=use) rfl hs hcl S.kind S.names ?_
 refine thn (hi pins s σ H _ I h) fun v s1 h1=>thn h1 fun itv s2 h2=>?_
 obtain⟨it,fp,tn,J,H2,e,I2,T,st2,f2,cv,hv,hD⟩:=h2
 subst e
 have lenv:cv.length=ci.length:=by
  have:=congrArg List.length hv
  simpa using this.symm
 have I3:=I2.lnew (ys:=[]) (its:=[]) (t':=s2.toks) .nil (zi _)
 obtain⟨W,⟨m0,w0⟩,turn⟩:=hD s2.heap.objs.size I2.fresh
 have fz:∀b∈fp,b<s2.heap.objs.size:=fun b hb=>by
  obtain⟨o,ho,_⟩:=T.obj _ _ st2 b hb
  exact zU ho
 refine zAS ?_
 refine wpAny_newFunctionEnv S.nocell (by intro y hy;simp at hy) (fun h4 hns4 hsb4=>?_) S.kind
 generalize hs3:({ s2 with heap:=s2.heap.push { cls:=.type "list",dict:=none,data:=.seq ([]:List Value).toArray } }:Shared)=s3 at hns4 hsb4 ⊢
 have I3':Inv X pins σ (upd H2 s2.heap.objs.size (.lst [])) s3:=by rw[<-hs3];exact I3
 have hsz3:s3.heap.objs.size=s2.heap.objs.size+1:=by rw[<-hs3];exact zAr ..
 have k23:∀b o,s2.heap.get? b=some o->s3.heap.get? b=some o:=fun b o e=>by rw[<-hs3];exact zF _ e
 have k34:∀b o,s3.heap.get? b=some o->h4.get? b=some o:=fun b o e=>hsb4.extBut b o (zh (zU e)) (zF _ e)
 have nD:∀b∈fp,b≠s2.heap.objs.size:=fun b hb=>zh (fz b hb)
 have f3:∀b∈fp,zJ1 X pins (upd H2 s2.heap.objs.size (.lst [])) b:=fun b hb=>⟨by rw[zb (nD b hb)];exact (f2 b hb).1,(f2 b hb).2⟩
 have fz3:∀b∈fp,b<s3.heap.objs.size:=fun b hb=>by rw[hsz3];exact zAt (fz b hb)
 have I4:Inv (zBu X (X.pn++pins) (own++cn) scope fp s3 (upd H2 s2.heap.objs.size (.lst []))) [] (List.replicate own.length none++cv.map some) (upd H2 s2.heap.objs.size (.lst [])) { s3 with heap:=h4,toks:=s3.toks+([]:List (Str×Value)).length }:=
  zKl I3' S f3 fz3 rfl hc hv hl hns4 k34
 have st4:tn 0 h4:=T.keep _ _ _ st2 fun b hb o e=>k34 b o (k23 b o e)
 generalize hX:zBu X (X.pn++pins) (own++cn) scope fp s3 (upd H2 s2.heap.objs.size (.lst []))=X' at I4
 have hg':PG X' target g:=by rw[<-hX];exact hg _ _ _ _
 have ht':PTs X' ifs ti:=by rw[<-hX];exact ht _ _ _ _
 have he':PE X' elt te:=by rw[<-hX];exact he _ _ _ _
 have ePr:X'.prog=X.prog:=by rw[<-hX];rfl
 have eW:X'.w=X.w:=by rw[<-hX];rfl
 have eK:X'.K=X.K:=by rw[<-hX];rfl
 have eA:X'.A=X.A:=by rw[<-hX];rfl
 have eE:X'.env=compEnvC scope (zD0 X.env.cells scope.names []) s3.heap.objs.size X.env:=by rw[<-hX];rfl
 have eXe:X'.xe=fun _ _=>False:=by rw[<-hX];rfl
 have eC:X'.calm=true:=by rw[<-hX];exact hcalm
 have eex:X'.ex=fp:=by rw[<-hX];rfl
 have epn:X'.pn=X.pn++pins:=by rw[<-hX];rfl
 have es0:X'.s₀=s3:=by rw[<-hX];rfl
 have eH0:X'.H₀=upd H2 s2.heap.objs.size (.lst []):=by rw[<-hX];rfl
 have efs:X'.fs=frs X.stack:=by rw[<-hX];rfl
 have ok':=I4.ok
 have stat:∀{H':Hp},(∀b∈fp,H' b=none)->∀b∈fp,zJ1 X' [] H' b:=fun hn b hb=>by
  have hb':b∈X'.ex:=by rw[eex];exact hb
  refine⟨hn b hb,(ok'.exf b hb').1,ok'.exfs b hb',.inl hb',(ok'.exf b hb').2,fun p hp=>?_⟩
  rw[epn,zq] at hp
  exact (f2 b hb).2.2.2.2.2 p hp
 have wk:∀(σ2:St),(σ2.length=own.length+cv.length/\σ2.drop own.length=cv.map some)->∀{pl:List (Addr×Obj)}{H':Hp}{s':Shared},Inv X' pl σ2 H' s'->Inv X' pl (List.replicate own.length none++cv.map some) H' s':=fun σ2 hq pl H' s' I'=>by
  refine I'.weak (by rw[hq.1,zC,zAw,zD]) fun i v hi=>?_
  by_cases hlt:i<own.length
  . rw[zj (by simpa using hlt),List.getElem?_replicate] at hi
    split at hi <;> cases hi
  . rw[zk (by simpa using hlt),zAw,<-hq.2,List.getElem?_drop] at hi
    rw[show own.length+(i-own.length)=i by omega] at hi
    exact hi
 have loop:codeAny (model X.prog X.w) X.A (.compLoop (.ListComp elt [⟨target,iter,ifs,0⟩] scope pos) 0 (.ref it) (.ref s2.heap.objs.size) (compEnvC scope (zD0 X.env.cells scope.names []) s3.heap.objs.size X.env))
  (compPost (model X.prog X.w) X.A X.xe use Q0 (.ref s2.heap.objs.size) s3.heap.objs.size) { s3 with heap:=h4,toks:=s3.toks+([]:List (Str×Value)).length }:=by
  refine zGN (fun n s'=>∃i ys H',Inv X' [] (List.replicate own.length none++cv.map some) H' s'/\tn i s'.heap/\(∀b∈fp,H' b=none)/\W i n ys H') ?_ m0
   ⟨0,[],_,I4,st4,fun b hb=>(f3 b hb).1,w0⟩
  rintro n s5 ⟨i,ys,H5,I5,st5,fr5,w5⟩
  rcases turn i n ys H5 w5 with ⟨stop,qn⟩ | ⟨go,hsz,N,hN,step⟩
  . have d:=T.done X' ePr eW eK eC i [] s5 _ H5 (fun _ _=>False) I5 (stat fr5) st5 stop
    rw[eA] at d
    refine thn d fun r s6 ⟨hr,I6⟩=>?_
    subst hr
    obtain⟨m6,hn6,_⟩:=I6.loc
    rw[eE] at hn6
    have hn6':s6.heap.Ns s3.heap.objs.size m6:=hn6
    have un6:Un (frs X.stack) fp (upd H2 s2.heap.objs.size (.lst [])) H5 s3.heap s6.heap:=by
     have b6:=I6.base
     rw[efs,eex,eH0,es0] at b6
     exact b6
    have os6:s6.os=s3.os:=by have o6:=I6.os;rw[es0] at o6;exact o6
    have hok6:HOk X.prog X.w H5 s6.heap:=by have o6:=I6.hok;rw[ePr,eW] at o6;exact o6
    have I7:Inv X pins σ H5 s6:=I3'.call' (ch:=fp) os6 un6 hok6 I6.bare fun b hb=>⟨(f2 b hb).2.2.2.1,(f2 b hb).2.1,(f2 b hb).2.2.2.2.1,(f2 b hb).2.2.2.2.2⟩
    have fr6:H5 s3.heap.objs.size=none:=by
     have q:=I6.free
     rw[eE] at q
     exact q
    refine fin s2.heap.objs.size s3.heap.objs.size H5 s6 m6 I7 hn6' fr6 (Nat.ne_of_gt I3'.lt) I3'.sz (fun x c e=>?_) (fun p hp=>?_) qn
    . obtain⟨_,o,ho,_⟩:=I3'.cell x c e
      exact zh (zU ho)
    . exact zh (zU (I3'.pin p hp).1)
  . have d:=T.item X' ePr eW eK eC i [] s5 _ H5 (fun _ _=>False) I5 (stat fr5) st5 go
    rw[eA] at d
    refine thn d fun r s6 ⟨u,hr,h6⟩=>?_
    subst hr
    refine thn h6 fun _ s7 ⟨x,H7,I7,r7,y7,st7,fr7⟩=>?_
    have I7':=I7.pinned (stat fr7) (T.obj _ _ st7)
    have g7:=hg' _ s7 _ H7 x u _ I7' r7 (step x H7 y7)
    rw[ePr,eW,eA,eE,eXe] at g7
    refine thn g7 fun _ s8 ⟨σ8,H8,I8,q8,ti8⟩=>?_
    have t8:=ht' _ s8 σ8 H8 _ I8 ti8
    rw[ePr,eW,eA,eE,eXe] at t8
    refine thn t8 fun ok s9 ⟨H9,I9,q9⟩=>?_
    have again:∀{ys':List V}{H':Hp}{s':Shared},Inv X' ([]++zFv fp s7.heap) σ8 H' s'->N ys' H' ->
     ∃m,m<n/\∃i ys H',Inv X' [] (List.replicate own.length none++cv.map some) H' s'/\tn i s'.heap/\(∀b∈fp,H' b=none)/\W i m ys H':=fun {ys' H' s'} I' n'=>by
     obtain⟨m',hm,w'⟩:=hN ys' H' n'
     refine⟨m',hm,i+1,ys',H',(wk σ8 q8 I').unpinned,T.keep _ _ _ st7 fun b hb o e=>(I'.pin (b,o) (zAB _ (zAB _ (zC9 hb e)))).1,fun b hb=>?_,w'⟩
     obtain⟨o,e,_⟩:=T.obj _ _ st7 b hb
     exact (I'.pin (b,o) (zAB _ (zAB _ (zC9 hb e)))).2.1
    cases ok with
    | false=>exact again I9 q9
    | true=>
     have e9:=he' _ s9 σ8 H9 _ I9 q9
     rw[ePr,eW,eA,eE,eXe] at e9
     refine thn e9 fun u10 s10 ⟨y,H10,I10,r10,hD10,n10⟩=>?_
     have a10:=zCU (X:=X') _ s10 σ8 H10 (.ref s2.heap.objs.size) [y] (.ref s2.heap.objs.size) [u10] (fun _ H'=>N (ys++[y]) H') I10 rfl (.cons r10 .nil) ⟨_,_,_,rfl,rfl,hD10,hsz,n10⟩
     rw[ePr,eW,eA,eXe] at a10
     exact thn a10 fun _ s11 ⟨_,H11,I11,_,n11⟩=>again I11 n11
 exact codeAny_compStart_list loop (T.self X.A 0 _ _ _ st4 loop)
theorem zBK {elt target iter:Expr}{ifs:List Expr}{pos:Pos}{wi:TI}{g:TG}{ti:TT}{te:TE}(hcalm:X.calm=true)(S:zEk X scope)(hc:zGb X scope cn ci)(hl:cn.length=ci.length)
 (hi:PI X target iter wi)(hg:∀pl fp s3 H3,PG (zBu X pl (own++cn) scope fp s3 H3) target g)(ht:∀pl fp s3 H3,PTs (zBu X pl (own++cn) scope fp s3 H3) ifs ti)
 (he:∀pl fp s3 H3,PE (zBu X pl (own++cn) scope fp s3 H3) elt te)(hs:∀x,foldedSetIterable iter X.env x=pure x:=by intro _;rfl) :
 PE X (.ListComp elt [⟨target,iter,ifs,0⟩] scope pos) (zLY own.length ci wi g ti te):=by
 intro pins s σ H Q I h
 rw[eval_ListComp]
 exact zGM hcalm S hc hl hi hg ht he hs I h fun D C H5 s6 m6 I7 hn fr nL ge nC nP q=>⟨m6,hn,fun h' hs'=>⟨.ref D,H5,I7.turned (t':=s6.toks) (it:=C) (fun b o hb e=>hs'.extBut b o hb e) fr nL (.inr ge) nC nP,rfl,q⟩⟩
theorem zEF {elt target iter:Expr}{ifs:List Expr}{pos pos' cpos:Pos}{wi:TI}{g:TG}{ti:TT}{te:TE}{i:Nat}{x:Str}(hN:X.N.Nodup)(hix:X.N[i]? = some x)(hx:Loc X.env.scope x)(hcalm:X.calm=true)(S:zEk X scope)(hc:zGb X scope cn ci)(hl:cn.length=ci.length)
 (hi:PI X target iter wi)(hg:∀pl fp s3 H3,PG (zBu X pl (own++cn) scope fp s3 H3) target g)(ht:∀pl fp s3 H3,PTs (zBu X pl (own++cn) scope fp s3 H3) ifs ti)
 (he:∀pl fp s3 H3,PE (zBu X pl (own++cn) scope fp s3 H3) elt te)(hs:∀x,foldedSetIterable iter X.env x=pure x:=by intro _;rfl)
 (hsw:swapsWith (.ListComp elt [⟨target,iter,ifs,0⟩] scope cpos) (some (.Name x pos')) pos.line X.env=pure true:=by rfl)
 (hf:X.fn x=true\/X.env.scope.names.lookup x=some .local:=by first | exact .inl rfl | exact .inr rfl | assumption) :
 PS X (.Assign [.Name x pos'] (.ListComp elt [⟨target,iter,ifs,0⟩] scope cpos) pos) (tAsg (zLY own.length ci wi g ti te) (zMA i)):=by
 intro pins s σ H D I h
 rw[exec_Assign_Name_used _ _ _ _ hsw]
 refine zA (wpAny_standAt (zA ?_))
 show wpAny _ X.A (do let _ <-comprehension (.ListComp elt [⟨target,iter,ifs,0⟩] scope cpos) scope X.env _ (newList []) false (eval iter X.env) (some (assign (.Name x pos') X.env))) _ _ s
 refine zA (zAO (zGM (use:=some (assign (.Name x pos') X.env)) (Q0:=fun _ s'=>SP X pins D .next s') hcalm S hc hl hi hg ht he hs I h (fun D' C H5 s6 m6 I7 hn fr nL ge nC nP q=>?_)) (fun _ s' hq=>zB (zB hq)) fun _ _ e=>e)
 obtain⟨oC,es,ep,hoC,hd,r1⟩:=hn
 have nf:C∉X.fs:=fun hb=>by
  obtain⟨_,o,ho,_⟩:=I7.ok.funs.mem hb
  exact absurd (zr (zU ho) ge) (zBe _)
 have I7':Inv X (pins++[(C,oC)]) σ H5 s6:=I7.pins_of fun p hp=>by
  rcases zK.mp hp with z | z
  . exact I7.pin p (zAB _ z)
  . rw[zn.mp z]
    exact⟨hoC,fr,nL,nf,fun v e=>by rw[hd] at e;cases e⟩
 show wpAny _ X.A (assign (.Name x pos') X.env (.ref D')) _ _ s6
 refine wpAny_assign_Name (zD3 I7' hN hix hx (show zBn (.ref D') (.ref D') from rfl) (fun s' I'=>?_) hf)
 have hC':=(I'.pin (C,oC) (zAB _ (zAB _ (zn.mpr rfl)))).1
 refine⟨m6,⟨oC,es,ep,hC',hd,r1⟩,fun h' hs'=>⟨_,H5,?_,q⟩⟩
 have I2:Inv X pins (σ.set i (some (.ref D'))) H5 s':=I'.pins_of fun p hp=>I'.pin p (zAB _ (List.mem_append_left _ hp))
 exact I2.turned (t':=s'.toks) (it:=C) (fun b o hb e=>hs'.extBut b o hb e) fr nL (.inr ge) nC nP
end
noncomputable def cscOk (outer inner:Scope):Bool:=inner.names.all fun y=>(y.2 != .cell) && (y.2 != .local || inner.names.lookup y.1==some .local) && (y.2 != .free || outer.names.lookup y.1==some .cell)
theorem csc {X:Cx}{scope:Scope}(hk:scope.kind = .function)(h:cscOk X.env.scope scope=true):zEk X scope:=by
 have a:=zBI.mp h
 refine⟨hk,fun y hy e=>?_,fun y hy e=>?_,fun y hy e=>?_⟩
 . have:=a y hy
   rw[e] at this
   simp at this
 . have:=a y hy
   rw[e] at this
   simpa using this
 . have:=a y hy
   rw[e] at this
   have h2:X.env.scope.names.lookup y.1=some .cell:=by simpa using this
   exact h2
theorem zCK {l:List Str}(h:decide l.Nodup=true):l.Nodup:=of_decide_eq_true h
section
variable {X:Cx}{pl:List (Addr×Obj)}{N':List Str}{sc:Scope}{fp:List Addr}{s3:Shared}{H3:Hp}
theorem zCB:IxR (zBu X pl N' sc fp s3 H3) (rIxT X.K):=zAE
theorem zHV:IxR (zBu X pl N' sc fp s3 H3) (rIxL X.K):=zAx
theorem zLl {es:List Expr}{k:Nat}{t:TGs}{n:Nat}{pos:Pos}(hc:X.calm=true)(h:PGs (zBu X pl N' sc fp s3 H3) es t)
 (hn:(assignEach es (zBu X pl N' sc fp s3 H3).env).length=n:=by rfl)(hst:(assignEach es (zBu X pl N' sc fp s3 H3).env).findIdx? (·.1)=none:=by rfl):PG (zBu X pl N' sc fp s3 H3) (.Tuple es k pos) (gTup X.K n t):=zFy hc h hn hst
theorem zC3:OpR (zBu X pl N' sc fp s3 H3) (compareOp .NotIn) (rIn X.K true):=zC2
end
theorem zCX {K:PySem.W.Frag}{a:Addr}{xs:List V}{own:Nat}{g:TG}{ti:TT}{te:TE}{cv:List V}{D:Addr}{H1:Hp}{Q:VK}(Pv:Nat->List V->Hp->Prop)(h0:Pv 0 [] (upd H1 D (.lst [])))(hl:∀i ys H,Pv i ys H->SqL K H a xs)(hz:∀i ys H,Pv i ys H->ys.length<sizeLine)
 (hs:∀i x ys H,xs[i]? = some x->Pv i ys H->g x (List.replicate own none++cv.map some) H fun σ2 H2=>(σ2.length=own+cv.length/\σ2.drop own=cv.map some) /\
  ti σ2 H2 fun b H3=>if b=true then te σ2 H3 fun y H4=>H4 D=some (.lst ys)/\Pv (i+1) (ys++[y]) (upd H4 D (.lst (ys++[y]))) else Pv (i+1) ys H3)
 (hd:∀ys H,Pv xs.length ys H->Q (.ref D) H) :
 zHl (Itl K a) own cv g ti te D H1 Q:=by
 refine⟨fun i m ys H=>m=xs.length-i/\i<=xs.length/\Pv i ys H,⟨xs.length,rfl,zi _,h0⟩,?_⟩
 rintro i m ys H ⟨rfl,hi,p⟩
 have q:=hl i ys H p
 by_cases hlt:i<xs.length
 . refine .inr ⟨⟨xs,xs[i],q,by simp[hlt]⟩,hz i ys H p,Pv (i+1),fun ys' H' p'=>⟨xs.length-(i+1),by omega,rfl,hlt,p'⟩,fun x H' y=>?_⟩
   obtain⟨e,y⟩:=y
   subst e
   exact hs i x ys _ (y xs q) p
 . have e:i=xs.length:=by omega
   subst e
   exact .inl ⟨⟨xs,q,zH _⟩,hd ys H p⟩
theorem zCI {K:PySem.W.Frag}{a:Addr}{xs:List V}{own:Nat}{g:TG}{ti:TT}{te:TE}{cv:List V}{D:Addr}{H1:Hp}{Q:VK}(Pv:Nat->List V->Hp->Prop)(h0:Pv 0 [] (upd H1 D (.lst [])))(hl:∀i ys H,Pv i ys H->SqT K H a xs)(hz:∀i ys H,Pv i ys H->ys.length<sizeLine)
 (hs:∀i x ys H,xs[i]? = some x->Pv i ys H->g x (List.replicate own none++cv.map some) H fun σ2 H2=>(σ2.length=own+cv.length/\σ2.drop own=cv.map some) /\
  ti σ2 H2 fun b H3=>if b=true then te σ2 H3 fun y H4=>H4 D=some (.lst ys)/\Pv (i+1) (ys++[y]) (upd H4 D (.lst (ys++[y]))) else Pv (i+1) ys H3)
 (hd:∀ys H,Pv xs.length ys H->Q (.ref D) H) :
 zHl (Itt K a) own cv g ti te D H1 Q:=by
 refine⟨fun i m ys H=>m=xs.length-i/\i<=xs.length/\Pv i ys H,⟨xs.length,rfl,zi _,h0⟩,?_⟩
 rintro i m ys H ⟨rfl,hi,p⟩
 have q:=hl i ys H p
 by_cases hlt:i<xs.length
 . refine .inr ⟨⟨xs,xs[i],q,by simp[hlt]⟩,hz i ys H p,Pv (i+1),fun ys' H' p'=>⟨xs.length-(i+1),by omega,rfl,hlt,p'⟩,fun x H' y=>?_⟩
   obtain⟨e,y⟩:=y
   subst e
   exact hs i x ys _ (y xs q) p
 . have e:i=xs.length:=by omega
   subst e
   exact .inl ⟨⟨xs,q,zH _⟩,hd ys H p⟩
theorem zBt {lo:Int}{n own:Nat}{g:TG}{ti:TT}{te:TE}{cv:List V}{D:Addr}{H1:Hp}{Q:VK}(Pv:Nat->List V->Hp->Prop)(h0:Pv 0 [] (upd H1 D (.lst [])))(hz:∀i ys H,Pv i ys H->ys.length<sizeLine)
 (hs:∀i ys H,i<n->Pv i ys H->g (.int (lo+i)) (List.replicate own none++cv.map some) H fun σ2 H2=>(σ2.length=own+cv.length/\σ2.drop own=cv.map some) /\
  ti σ2 H2 fun b H3=>if b=true then te σ2 H3 fun y H4=>H4 D=some (.lst ys)/\Pv (i+1) (ys++[y]) (upd H4 D (.lst (ys++[y]))) else Pv (i+1) ys H3)
 (hd:∀ys H,Pv n ys H->Q (.ref D) H) :
 zHl (Itr lo n) own cv g ti te D H1 Q:=by
 refine⟨fun i m ys H=>m=n-i/\i<=n/\Pv i ys H,⟨n,rfl,zi _,h0⟩,?_⟩
 rintro i m ys H ⟨rfl,hi,p⟩
 by_cases hlt:i<n
 . refine .inr ⟨hlt,hz i ys H p,Pv (i+1),fun ys' H' p'=>⟨n-(i+1),by omega,rfl,hlt,p'⟩,fun x H' y=>?_⟩
   obtain⟨e,y⟩:=y
   subst e
   subst y
   exact hs i ys _ hlt p
 . have e:i=n:=by omega
   subst e
   exact .inl ⟨zH _,hd ys H p⟩
end L2
namespace SortT
open PySem.W PyProof.Rows
noncomputable def ev {α:Type}(lt:Nat->Nat->Bool):KasT α->α
 | .ret a=>a
 | .ask i j k=>ev lt (k (lt i j))
theorem zDr {α β:Type}(lt:Nat->Nat->Bool)(f:α->KasT β):∀t:KasT α,ev lt (t.bind f)=ev lt (f (ev lt t))
 | .ret _=>rfl
 | .ask i j k=>zDr lt f (k (lt i j))
section
variable {O:KeyOrd}{key:Nat->O.α}
noncomputable def kk (key:Nat->O.α)(p:Array Nat)(i:Nat):O.α:=key (p.getD i 0)
noncomputable def Sr (key:Nat->O.α)(p:Array Nat)(n:Nat):Prop:=∀i j,i<=j->j<n->O.kle (kk key p i) (kk key p j)
noncomputable def Fl (key:Nat->O.α)(p:Array Nat)(n:Nat):Prop:=∀i j,i<=j->j<n->O.kle (kk key p j) (kk key p i)
theorem zDZ {p q:Array Nat}{i j:Nat}(h:p[i]? = q[j]?):kk key p i=kk key q j:=by
 unfold kk;rw[Array.getD_eq_getD_getElem?,Array.getD_eq_getD_getElem?,h]
theorem zJI {p:Array Nat}{i j:Nat}(hj:j<=p.size)(k:Nat):kk key (kas_rev p i j) k=if i<=k/\k<j then kk key p (i+j-1-k) else kk key p k:=by
 have e:=getElem?_mirror_all (i:=i) hj k
 unfold kas_rev
 by_cases h1:i<=k/\k<j
 . rw[if_pos h1] at e ⊢;exact zDZ e
 . rw[if_neg h1] at e ⊢;exact zDZ e
theorem zET {p:Array Nat}{i j:Nat}(hj:j<=p.size)(he:∀k,i<=k->k<j->kk key p k=kk key p (j-1))(k:Nat):kk key (kas_rev p i j) k=kk key p k:=by
 rw[zJI hj]
 split
 . rw[he _ (by omega) (by omega),he k (by omega) (by omega)]
 . rfl
theorem zF8 {p:Array Nat}{src d:Nat}(hs:src<p.size)(hd:d<=src)(k:Nat) :
 kk key (bubble p src d) k=if k=src-d then kk key p src else if src-d<k/\k<=src then kk key p (k-1) else kk key p k:=by
 have e:=getElem?_bubble hs d hd k
 by_cases h1:k=src-d
 . rw[if_pos h1] at e ⊢;exact zDZ e
 . rw[if_neg h1] at e ⊢
   by_cases h2:src-d<k/\k<=src
   . rw[if_pos h2] at e ⊢;exact zDZ e
   . rw[if_neg h2] at e ⊢;exact zDZ e
noncomputable def lt_ (key:Nat->O.α)(i j:Nat):Bool:=O.blt (key i) (key j)
theorem zCG (p:Array Nat)(i j:Nat):(kas_rev p i j).Perm p:=mirror_perm _ _ _ _
theorem zFI (p:Array Nat)(i j:Nat):(kas_rev p i j).size=p.size:=(zCG p i j).size_eq
theorem zJt {p:Array Nat}:∀(f n:Nat),1<=n->Sr key p n->∃m,ev (lt_ key) (kas_asc p f n)=m/\n<=m/\m<=n+f/\Sr key p m/\(m=n+f\/O.klt (kk key p m) (kk key p (m-1)))
 | 0,n,_,hs=>⟨n,rfl,zH _,zH _,hs,.inl rfl⟩
 | f+1,n,h1,hs=>by
  show ∃m,ev (lt_ key) (if lt_ key (p.getD n 0) (p.getD (n-1) 0)=true then KasT.ret n else kas_asc p f (n+1))=m/\_
  cases hl:lt_ key (p.getD n 0) (p.getD (n-1) 0) with
  | true=>exact⟨n,by simp[ev],zH _,by omega,hs,.inr hl⟩
  | false=>
   have hs':Sr key p (n+1):=fun i j hij hj=>by
    by_cases hjn:j<n
    . exact hs i j hij hjn
    . have hj':j=n:=by omega
      subst hj'
      by_cases hi':i=j
      . subst hi';exact KeyOrd.kle_refl _
      . exact KeyOrd.kle_trans (hs i (j-1) (by omega) (by omega)) hl
   obtain⟨m,e,a,b,c,d⟩:=zJt f (n+1) (by omega) hs'
   refine⟨m,by simpa using e,by omega,by omega,c,?_⟩
   rcases d with d | d
   . exact .inl (by omega)
   . exact .inr d
theorem zHD {p:Array Nat}{n nrem:Nat}(h1:1<=n)(hn:n<=nrem)(hz:nrem<=p.size)(hs:Fl key p n) :
 ∃m q,ev (lt_ key) (kas_tail3 n nrem p)=(m,q)/\q.Perm p/\1<=m/\m<=nrem/\Sr key q m:=by
 unfold kas_tail3
 have hs':Sr key (kas_rev p 0 n) n:=fun i j hij hj=>by
  rw[zJI (by omega),zJI (by omega),if_pos (by omega),if_pos (by omega)]
  exact hs _ _ (by omega) (by omega)
 obtain⟨m,e,a,b,c,_⟩:=zJt (nrem-n) n h1 hs'
 exact⟨m,kas_rev p 0 n,by rw[zDr,e];rfl,zCG _ _ _,by omega,by omega,c⟩
theorem zFX:∀(f n q:Nat)(p:Array Nat),1<=n->n+f<=p.size->Fl key p n->q+1<=n->(∀i,n-(q+1)<=i->i<n->kk key p i=kk key p (n-1)) ->
 ∃p' n' q',ev (lt_ key) (kas_desc f p n q)=(p',n',q')/\p'.Perm p/\n<=n'/\n'<=n+f/\Fl key p' n'/\q'+1<=n'/\(∀i,n'-(q'+1)<=i->i<n'->kk key p' i=kk key p' (n'-1))
 | 0,n,q,p,_,_,hs,hq,he=>⟨p,n,q,rfl,.refl _,zH _,zH _,hs,hq,he⟩
 | f+1,n,q,p,h1,hz,hs,hq,he=>by
  show ∃p' n' q',ev (lt_ key) (if lt_ key (p.getD n 0) (p.getD (n-1) 0)=true then _ else KasT.ask _ _ _)=(p',n',q')/\_
  cases hl:lt_ key (p.getD n 0) (p.getD (n-1) 0) with
  | true=>
   have step:∀xs:Array Nat,(∀k,kk key xs k=kk key p k)->Fl key xs (n+1):=fun xs hk i j hij hj=>by
    rw[hk,hk]
    by_cases hjn:j<n
    . exact hs i j hij hjn
    . have hj':j=n:=by omega
      subst hj'
      by_cases hi':i=j
      . subst hi';exact KeyOrd.kle_refl _
      . exact KeyOrd.kle_trans (KeyOrd.kle_of_klt hl) (hs i (j-1) (by omega) (by omega))
   by_cases hq0:q > 0
   . have hk:=zET (key:=key) (p:=p) (i:=n-(q+1)) (j:=n) (by omega) he
     obtain⟨p',n',q',e,a,b,c,d⟩:=zFX f (n+1) 0 (kas_rev p (n-(q+1)) n) (by omega) (by rw[zFI];omega) (step _ hk) (by omega) (fun i h1 h2=>by congr 1;omega)
     exact⟨p',n',q',by simpa [hq0] using e,a.trans (zCG _ _ _),by omega,by omega,d⟩
   . obtain⟨p',n',q',e,a,b,c,d⟩:=zFX f (n+1) 0 p (by omega) (by omega) (step _ fun _=>rfl) (by omega) (fun i h1 h2=>by congr 1;omega)
     exact⟨p',n',q',by simpa [hq0] using e,a,by omega,by omega,d⟩
  | false=>
   show ∃p' n' q',ev (lt_ key) (if lt_ key (p.getD (n-1) 0) (p.getD n 0)=true then KasT.ret (p,n,q) else kas_desc f p (n+1) (q+1))=(p',n',q')/\_
   cases hr:lt_ key (p.getD (n-1) 0) (p.getD n 0) with
   | true=>exact⟨p,n,q,by simp[ev],.refl _,zH _,by omega,hs,hq,he⟩
   | false=>
    have heq:kk key p n=kk key p (n-1):=KeyOrd.kle_antisymm hr hl
    have hs':Fl key p (n+1):=fun i j hij hj=>by
     by_cases hjn:j<n
     . exact hs i j hij hjn
     . have hj':j=n:=by omega
       subst hj'
       by_cases hi':i=j
       . subst hi';exact KeyOrd.kle_refl _
       . rw[heq];exact hs i (j-1) (by omega) (by omega)
    obtain⟨p',n',q',e,a,b,c,d⟩:=zFX f (n+1) (q+1) p (by omega) (by omega) hs' (by omega) (fun i h1 h2=>by
     rw[show n+1-1=n by omega]
     by_cases hix:i=n
     . subst hix;rfl
     . rw[heq];exact he i (by omega) (by omega))
    exact⟨p',n',q',by simpa using e,a,by omega,by omega,d⟩
theorem zEe {p:Array Nat}{n nrem:Nat}(hn:n+1<=nrem)(hz:nrem<=p.size)(hs:Fl key p (n+1)) :
 ∃m q,ev (lt_ key) (kas_descPart n nrem p)=(m,q)/\q.Perm p/\1<=m/\m<=nrem/\Sr key q m:=by
 unfold kas_descPart
 rw[zDr]
 obtain⟨p',n',q',e,a,b,c,d,hq,he⟩:=zFX (nrem-(n+1)) (n+1) 0 p (by omega) (by omega) hs (by omega) (fun i h1 h2=>by congr 1;omega)
 rw[e]
 dsimp only
 have hz':p'.size=p.size:=a.size_eq
 by_cases hq0:q' > 0
 . rw[if_pos hq0]
   have hk:=zET (key:=key) (p:=p') (i:=n'-(q'+1)) (j:=n') (by omega) he
   obtain⟨m,r,e2,a2,b2,c2,d2⟩:=zHD (key:=key) (p:=kas_rev p' (n'-(q'+1)) n') (n:=n') (nrem:=nrem) (by omega) (by omega) (by rw[zFI];omega) (fun i j hij hj=>by rw[hk,hk];exact d i j hij hj)
   exact⟨m,r,e2,a2.trans ((zCG _ _ _).trans a),b2,c2,d2⟩
 . rw[if_neg hq0]
   obtain⟨m,r,e2,a2,b2,c2,d2⟩:=zHD (key:=key) (p:=p') (n:=n') (nrem:=nrem) (by omega) (by omega) (by omega) d
   exact⟨m,r,e2,a2.trans a,b2,c2,d2⟩
theorem zKk {p:Array Nat}{nrem:Nat}(h1:1<=nrem)(hz:nrem<=p.size):∃m q,ev (lt_ key) (kas_count nrem p)=(m,q)/\q.Perm p/\1<=m/\m<=nrem/\Sr key q m:=by
 unfold kas_count
 rw[zDr]
 obtain⟨n,e,a,b,hsn,hor⟩:=zJt (key:=key) (p:=p) (nrem-1) 1 (zH _) (fun i j hij hj=>by have:i=j:=(by omega);subst this;exact KeyOrd.kle_refl _)
 rw[e]
 by_cases hnn:n=nrem
 . rw[if_pos (by simpa using hnn)]
   exact⟨n,p,rfl,.refl _,a,by omega,hsn⟩
 . rw[if_neg (by simpa using hnn)]
   have hlt:O.klt (kk key p n) (kk key p (n-1)):=hor.resolve_left (by omega)
   by_cases hgt:n > 1
   . rw[if_pos hgt]
     show ∃m q,ev (lt_ key) (if lt_ key (p.getD 0 0) (p.getD (n-1) 0)=true then KasT.ret (n,p) else kas_descPart n nrem (kas_rev p 0 n))=(m,q)/\_
     cases hr:lt_ key (p.getD 0 0) (p.getD (n-1) 0) with
     | true=>exact⟨n,p,by simp[ev],.refl _,a,by omega,hsn⟩
     | false=>
      have hall:∀k,0<=k->k<n->kk key p k=kk key p (n-1):=fun k _ hk=>
       KeyOrd.kle_antisymm (hsn k (n-1) (by omega) (by omega)) (KeyOrd.kle_trans hr (hsn 0 k (by omega) hk))
      have hk:=zET (key:=key) (p:=p) (i:=0) (j:=n) (by omega) hall
      obtain⟨m,q,e2,a2,b2,c2,d2⟩:=zEe (key:=key) (p:=kas_rev p 0 n) (n:=n) (nrem:=nrem) (by omega) (by rw[zFI];omega) (fun i j hij hj=>by
       rw[hk,hk]
       by_cases hjn:j<n
       . rw[hall i (by omega) (by omega),hall j (by omega) hjn];exact KeyOrd.kle_refl _
       . have hj':j=n:=by omega
         subst hj'
         by_cases hi':i=j
         . subst hi';exact KeyOrd.kle_refl _
         . rw[hall i (by omega) (by omega)];exact KeyOrd.kle_of_klt hlt)
      exact⟨m,q,by simpa using e2,a2.trans (zCG _ _ _),b2,c2,d2⟩
   . rw[if_neg hgt]
     have hn1:n=1:=by omega
     subst hn1
     refine zEe (by omega) hz fun i j hij hj=>?_
     by_cases hi':i=j
     . subst hi';exact KeyOrd.kle_refl _
     . have hi0:i=0:=by omega
       have hj1:j=1:=by omega
       subst hi0;subst hj1
       exact KeyOrd.kle_of_klt hlt
theorem zFM {p:Array Nat}{k:Nat}(hs:Sr key p k):∀(f l r:Nat),l<=r->r<=k->r-l<=f->(∀i,i<l->O.kle (kk key p i) (kk key p k))->(∀i,r<=i->i<k->O.klt (kk key p k) (kk key p i)) ->
 ∃m,ev (lt_ key) (kas_place p k f l r)=m/\m<=k/\(∀i,i<m->O.kle (kk key p i) (kk key p k))/\(∀i,m<=i->i<k->O.klt (kk key p k) (kk key p i))
 | 0,l,r,hlr,hrk,hf,hlo,hhi=>⟨l,rfl,by omega,hlo,fun i h1 h2=>hhi i (by omega) h2⟩
 | f+1,l,r,hlr,hrk,hf,hlo,hhi=>by
  unfold kas_place
  by_cases hge:l ≥ r
  . rw[if_pos hge]
    exact⟨l,rfl,by omega,hlo,fun i h1 h2=>hhi i (by omega) h2⟩
  . rw[if_neg hge]
    show ∃m,ev (lt_ key) (if lt_ key (p.getD k 0) (p.getD ((l+r)/2) 0)=true then kas_place p k f l ((l+r)/2) else kas_place p k f ((l+r)/2+1) r)=m/\_
    cases hl:lt_ key (p.getD k 0) (p.getD ((l+r)/2) 0) with
    | true=>
     obtain⟨m,e,x⟩:=zFM hs f l ((l+r)/2) (by omega) (by omega) (by omega) hlo (fun i h1 h2=>KeyOrd.klt_of_klt_of_kle hl (hs _ _ h1 h2))
     exact⟨m,by simpa using e,x⟩
    | false=>
     obtain⟨m,e,x⟩:=zFM hs f ((l+r)/2+1) r (by omega) (by omega) (by omega) (fun i h1=>KeyOrd.kle_trans (hs i ((l+r)/2) (by omega) (by omega)) (show O.kle _ _ from hl)) hhi
     exact⟨m,by simpa using e,x⟩
theorem zLM:∀(f:Nat)(p:Array Nat)(k:Nat),k+f=p.size->Sr key p k->∃q,ev (lt_ key) (kas_bin f p k)=q/\q.Perm p/\Sr key q (k+f)
 | 0,p,k,_,hs=>⟨p,rfl,.refl _,hs⟩
 | f+1,p,k,hz,hs=>by
  unfold kas_bin
  rw[zDr]
  obtain⟨l,e,hlk,hlo,hhi⟩:=zFM (key:=key) hs k 0 k (by omega) (by omega) (by omega) (fun i h=>by omega) (fun i h1 h2=>by omega)
  rw[e]
  have hs':Sr key (bubble p k (k-l)) (k+1):=fun i j hij hj=>by
   rw[zF8 (by omega) (by omega),zF8 (by omega) (by omega),show k-(k-l)=l by omega]
   repeat' split
   all_goals first
    | (exfalso;omega)
    | exact KeyOrd.kle_refl _
    | exact hlo _ (by omega)
    | exact KeyOrd.kle_of_klt (hhi _ (by omega) (by omega))
    | exact hs _ _ (by omega) (by omega)
  obtain⟨q,e2,a,b⟩:=zLM f (bubble p k (k-l)) (k+1) (by rw[(bubble_perm p k (k-l)).size_eq];omega) hs'
  exact⟨q,e2,a.trans (bubble_perm _ _ _),by rw[show k+(f+1)=k+1+f by omega];exact b⟩
theorem zLb (n:Nat)(h1:1<=n):∃q,ev (lt_ key) (kas_sort n)=q/\q.Perm (List.range n).toArray/\Sr key q n:=by
 unfold kas_sort
 rw[zDr]
 have hz:(List.range n).toArray.size=n:=by simp
 obtain⟨m,q,e,a,b,c,d⟩:=zKk (key:=key) (p:=(List.range n).toArray) h1 (by omega)
 rw[e]
 dsimp only
 have hq:q.size=n:=by rw[a.size_eq,hz]
 by_cases hm:m<n
 . rw[if_pos hm]
   obtain⟨r,e2,a2,b2⟩:=zLM (key:=key) (n-max m 1) q (max m 1) (by omega) (by rw[show max m 1=m by omega];exact d)
   exact⟨r,e2,a2.trans a,by rw[show max m 1+(n-max m 1)=n by omega] at b2;exact b2⟩
 . rw[if_neg hm]
   have:m=n:=by omega
   subst this
   exact⟨q,rfl,a,d⟩
end
end SortT
namespace SortT
open PySem.W PyProof.Rows
noncomputable def zEu {α:Type}(n:Nat)(R:α->Prop):KasT α->Prop
 | .ret a=>R a
 | .ask i j k=>i<n/\j<n/\∀b,zEu n R (k b)
theorem zEu.bind {α β:Type}{n:Nat}{R:α->Prop}{R':β->Prop}{f:α->KasT β}(hf:∀a,R a->zEu n R' (f a)):∀(t:KasT α),zEu n R t->zEu n R' (t.bind f)
 | .ret a,h=>hf a h
 | .ask _ _ k,h=>⟨h.1,h.2.1,fun b=>zEu.bind hf (k b) (h.2.2 b)⟩
noncomputable def Bd (n:Nat)(p:Array Nat):Prop:=∀i,p.getD i 0<n
theorem Bd.perm {n:Nat}{p q:Array Nat}(h:Bd n q)(hp:p.Perm q):Bd n p:=fun i=>by
 have h0:0<n:=zAo (zi _) (h 0)
 by_cases hi:i<p.size
 . have e:p.getD i 0=p[i]:=by simp[Array.getD,hi]
   rw[e]
   have hm:p[i]∈q.toList:=(Array.perm_iff_toList_perm.mp hp).mem_iff.mp (by simp)
   obtain⟨j,hj,ej⟩:=zx hm
   have hj':j<q.size:=by simpa using hj
   have:=h j
   rw[show q.getD j 0=q[j] by simp[Array.getD,hj']] at this
   rw[<-ej]
   simpa using this
 . have e:p.getD i 0=0:=by simp[Array.getD,hi]
   rw[e];exact h0
theorem zG6 {n:Nat}{p:Array Nat}(hp:Bd n p):∀f m,zEu n (fun _=>True) (kas_asc p f m)
 | 0,_=>trivial
 | f+1,m=>⟨hp _,hp _,fun b=>by
  cases b with
  | true=>exact trivial
  | false=>exact zG6 hp f (m+1)⟩
theorem zEB {n:Nat}:∀(f:Nat)(p:Array Nat)(m q:Nat),Bd n p->zEu n (fun r=>Bd n r.1) (kas_desc f p m q)
 | 0,_,_,_,hp=>hp
 | f+1,p,m,q,hp=>⟨hp _,hp _,fun b=>by
  cases b with
  | true=>
   show zEu n _ (if q > 0 then kas_desc f (kas_rev p (m-(q+1)) m) (m+1) 0 else kas_desc f p (m+1) 0)
   split
   . exact zEB f _ _ _ (hp.perm (zCG _ _ _))
   . exact zEB f _ _ _ hp
  | false=>
   refine⟨hp _,hp _,fun d=>?_⟩
   cases d with
   | true=>exact hp
   | false=>exact zEB f _ _ _ hp⟩
theorem zFj {n m nrem:Nat}{p:Array Nat}(hp:Bd n p):zEu n (fun r=>Bd n r.2) (kas_tail3 m nrem p):=by
 unfold kas_tail3
 exact zEu.bind (R:=fun _=>True) (R':=fun r=>Bd n r.2) (f:=fun k=>KasT.ret (k,kas_rev p 0 m)) (fun a _=>hp.perm (zCG p 0 m)) _ (zG6 (hp.perm (zCG p 0 m)) _ _)
theorem zDz {n m nrem:Nat}{p:Array Nat}(hp:Bd n p):zEu n (fun r=>Bd n r.2) (kas_descPart m nrem p):=
 zEu.bind (fun r hr=>by
  split
  . exact zFj (hr.perm (zCG _ _ _))
  . exact zFj hr) _ (zEB _ _ _ _ hp)
theorem zJg {n nrem:Nat}{p:Array Nat}(hp:Bd n p):zEu n (fun r=>Bd n r.2) (kas_count nrem p):=
 zEu.bind (fun r _=>by
  split
  . exact hp
  . split
    . refine⟨hp _,hp _,fun b=>?_⟩
      cases b with
      | true=>exact hp
      | false=>exact zDz (hp.perm (zCG _ _ _))
    . exact zDz hp) _ (zG6 hp _ _)
theorem zEG {n k:Nat}{p:Array Nat}(hp:Bd n p):∀f l r,zEu n (fun _=>True) (kas_place p k f l r)
 | 0,_,_=>trivial
 | f+1,l,r=>by
  unfold kas_place
  split
  . exact trivial
  . refine⟨hp _,hp _,fun b=>?_⟩
    cases b with
    | true=>exact zEG hp f _ _
    | false=>exact zEG hp f _ _
theorem zJr {n:Nat}:∀(f:Nat)(p:Array Nat)(k:Nat),Bd n p->zEu n (fun _=>True) (kas_bin f p k)
 | 0,_,_,_=>trivial
 | f+1,p,k,hp=>zEu.bind (fun l _=>zJr f _ _ (hp.perm (bubble_perm _ _ _))) _ (zEG hp _ _ _)
theorem zKB {n:Nat}(h:0<n):zEu n (fun _=>True) (kas_sort n):=
 zEu.bind (fun r hr=>by
  split
  . exact zJr _ _ _ hr
  . exact trivial) _ (zJg fun i=>by
    by_cases hi:i<n
    . simp[Array.getD,hi]
    . simp[Array.getD,hi];exact h)
end SortT
namespace SortT
open PySem PySem.W PySem.Calls PyProof.Rows
theorem wp_ev {α:Type}{cmp:Nat->Nat->(Bool->Shared->Prop)->Shared->Prop}{lt:Nat->Nat->Bool}{n:Nat}{s:Shared}(hc:∀i j C,i<n->j<n->C (lt i j) s->cmp i j C s){R:α->Prop}{Q:α->Shared->Prop} :
 ∀t:KasT α,zEu n R t->Q (ev lt t) s->t.kasWp cmp Q s
 | .ret _,_,h=>h
 | .ask i j k,w,h=>hc i j _ w.1 w.2.1 (wp_ev hc (k (lt i j)) (w.2.2 _) h)
section
variable {prog:Program}{w:World}{A:Around}{E:Value->Shared->Prop}{s:Shared}
structure Put {O:KeyOrd}(key:Nat->O.α)(n:Nat)(out:List Nat):Prop where
 perm:out.Perm (List.range n)
 rise:∀(i j a b:Nat),i<=j->out[i]? = some a->out[j]? = some b->O.kle (key a) (key b)
theorem put_of {O:KeyOrd}{key:Nat->O.α}{n:Nat}{q:Array Nat}(hp:q.Perm (List.range n).toArray)(hs:Sr key q n):Put key n q.toList:=by
 have hl:q.toList.Perm (List.range n):=Array.perm_iff_toList_perm.mp hp
 refine⟨hl,fun i j a b hij ha hb=>?_⟩
 have hz:q.size=n:=by have:=hp.size_eq;simpa using this
 have hj:j<q.toList.length:=(zL.mp hb).1
 have hj':j<n:=by rw[<-hz];simpa using hj
 have h:=hs i j hij hj'
 have ga:q.getD i 0=a:=by
  rw[Array.getD_eq_getD_getElem?,<-Array.getElem?_toList,ha];rfl
 have gb:q.getD j 0=b:=by
  rw[Array.getD_eq_getD_getElem?,<-Array.getElem?_toList,hb];rfl
 unfold kk at h
 rw[ga,gb] at h
 exact h
structure Asks (prog:Program)(w:World)(A:Around)(s:Shared)(a:Addr)(vs:List Value){O:KeyOrd}(key:Nat->O.α)(κ:SortKind):Prop where
 kind:∀(h':Heap)(Q:SortKind->Shared->Prop)(E:Value->Shared->Prop),(∀b o,b≠a->s.heap.get? b=some o->h'.get? b=some o)->Q κ { s with heap:=h' }->wpAny (model prog w) A (keyKind' vs.toArray) Q E { s with heap:=h' }
 less:∀(h':Heap)(i j:Nat)(Q:Bool->Shared->Prop)(E:Value->Shared->Prop),(∀b o,b≠a->s.heap.get? b=some o->h'.get? b=some o)->i<vs.length->j<vs.length->Q (O.blt (key i) (key j)) { s with heap:=h' } ->
  wpAny (model prog w) A (keyLt' κ (vs.getD i Value.none) (vs.getD j Value.none)) Q E { s with heap:=h' }
theorem list_sort {a:Addr}{vs:List Value}{n:Nat}{P:PySem.Fin->Shared->Prop}{O:KeyOrd}{key:Nat->O.α}{κ:SortKind}(ho:s.heap.get? a=some (seqObj "list" vs.toArray n)) (h64:vs.length<64)
 (ask:2<=vs.length->Asks prog w A s a vs key κ)
 (h:∀out:List Nat,Put key vs.length out->P (.done (.ret .none)) { s with heap:=sortedHeap s.heap a vs (out.map fun i=>vs.getD i Value.none).toArray }) :
 wpAny (model prog w) A (Builtin.«list.sort» ⟨[.ref a],[]⟩) P E s:=by
 rw[list_sort_plain]
 have ha:a<s.heap.objs.size:=zU ho
 refine zA (listItems_at ho rfl ?_)
 refine zA (listUpdate_at ho rfl ?_ (by rw[zS,sizeLine_eq];omega) (zi _))
 obtain⟨e1,ho1⟩:∃e1,(s.heap.update a (Obj.mapSeq fun _=>#[])).get? a=some (seqObj "list" #[] e1):=⟨_,get?_update_seq ho (fun _=>#[])⟩
 refine zA (seqEpoch_at ho1 rfl ?_)
 refine zA (wpAny_newTuple ?_ (by show vs.length<=_;rw[sizeLine_eq];omega))
 refine zA (wpAny_newList ?_ (zi _))
 refine zw ?_
 have ho6:(((s.heap.update a (Obj.mapSeq fun _=>#[])).push (seqObj "tuple" vs.toArray 0)).push (seqObj "list" #[] 0)).get? a=some (seqObj "list" #[] e1):=by
  rw[Heap.get?_push_ne _ _ _ (by rw[size_push',Heap.size_update];exact zh (zAt ha)),Heap.get?_push_ne _ _ _ (by rw[Heap.size_update];exact zh ha)]
  exact ho1
 have keep:∀b o,b≠a->s.heap.get? b=some o->(((s.heap.update a (Obj.mapSeq fun _=>#[])).push (seqObj "tuple" vs.toArray 0)).push (seqObj "list" #[] 0)).get? b=some o:=fun b o hb e=>by
  refine zF _ (zF _ ?_)
  rw[zBY _ _ _ _ hb]
  exact e
 show wpAny (model prog w) A _ P E { s with heap:=((s.heap.update a (Obj.mapSeq fun _=>#[])).push (seqObj "tuple" vs.toArray 0)).push (seqObj "list" #[] 0) }
 dsimp only
 by_cases h2:vs.toArray.size<2
 . rw[if_pos h2,if_pos h2]
   refine zA (zB ?_)
   rw[StateT.run_pure]
   refine zA (zB ?_)
   dsimp only
   refine zA (seqEpoch_at ho6 rfl ?_)
   refine zA (listUpdate_at ho6 rfl ?_ (zi _) (by rw[Array.size_map];show (pairsOf vs).size<=_;rw[pairsOf_size,sizeLine_eq];omega))
   simp only[bne_self_eq_false,zBi,if_false]
   refine zB ?_
   have hlen:vs.length<2:=by simpa using h2
   have hout:(arrOf (SortSt.mk' general' (vs.toArray.zip vs.toArray) #[] 7 none)).map (·.2)=((List.range vs.length).map fun i=>vs.getD i Value.none).toArray:=by
    show (vs.toArray.zip vs.toArray).map (·.2)=_
    match vs,hlen with
    | [],_=>simp
    | [v],_=>simp
    | _::_::_,h=>exfalso;simp only[zd] at h;omega
   have fin:=h (List.range vs.length) ⟨.refl _,fun i j x y hij hx hy=>by
    have hj:j<(List.range vs.length).length:=(zL.mp hy).1
    rw[zAb] at hj
    have e:i=j:=by omega
    subst e
    rw[hx] at hy
    cases hy
    exact KeyOrd.kle_refl _⟩
   rw[<-hout] at fin
   exact fin
 . rw[if_neg h2,if_neg h2]
   have h2':2<=vs.length:=by
    have:¬ vs.length<2:=by simpa using h2
    omega
   have K:=ask h2'
   refine zA (K.kind _ _ _ keep ?_)
   obtain⟨q,eq,hp,hs⟩:=zLb (key:=key) vs.length (by omega)
   have run:(kas_sort vs.length).kasWp (kas_ask prog w A κ vs) (fun p s'=>p=q/\s'={ s with heap:=((s.heap.update a (Obj.mapSeq fun _=>#[])).push (seqObj "tuple" vs.toArray 0)).push (seqObj "list" #[] 0) })
    { s with heap:=((s.heap.update a (Obj.mapSeq fun _=>#[])).push (seqObj "tuple" vs.toArray 0)).push (seqObj "list" #[] 0) }:=
    wp_ev (lt:=lt_ key) (n:=vs.length) (fun i j C hi hj hC=>K.less _ i j C _ keep hi hj hC) _ (zKB (by omega)) ⟨eq,rfl⟩
   refine zA (zAO (kat_run (ks:=vs) (vs:=vs) (Q:=fun st' s'=>∃p:Array Nat,p.size=vs.length/\arrOf st'=p.map (kas_item (vs.toArray.zip vs.toArray))/\failedOf st'=none/\p=q/\s'={ s with heap:=((s.heap.update a (Obj.mapSeq fun _=>#[])).push (seqObj "tuple" vs.toArray 0)).push (seqObj "list" #[] 0) })
    rfl h2' h64 (fun p' st' s' a1 a2 a3 a4=>⟨p',a1,a2,a3,a4⟩) run) ?_ fun _ _ e=>e)
   rintro ⟨⟨⟩,st'⟩ s' ⟨p,hsz,har,hf,rfl,rfl⟩
   dsimp only
   refine zA (seqEpoch_at ho6 rfl ?_)
   refine zA (listUpdate_at ho6 rfl ?_ (zi _) (by rw[Array.size_map,har,Array.size_map,hsz,sizeLine_eq];omega))
   rw[hf]
   simp only[bne_self_eq_false,zBi,if_false]
   refine zB ?_
   have hout:=kat_snds (ks:=vs) (vs:=vs) rfl har
   have fin:=h p.toList (put_of hp hs)
   rw[<-hout] at fin
   exact fin
theorem sorted_list {l:Addr}{vs:List Value}{Q:Value->Shared->Prop}{O:KeyOrd}{key:Nat->O.α}{κ:SortKind}(hl:s.heap.IsList l vs.toArray)(h64:vs.length<64)
 (ask:2<=vs.length->∀(s':Shared)(a:Addr),(∀b o,s.heap.get? b=some o->b≠a)->(∀b o,s.heap.get? b=some o->s'.heap.get? b=some o)->Asks prog w A.in1.in1 s' a vs key κ)
 (h:∀(D:Addr)(h':Heap)(out:List Nat)(c:Nat),Put key vs.length out->s.heap.objs.size<=D->(∀b o,s.heap.get? b=some o->h'.get? b=some o) ->
  h'.get? D=some (seqObj "list" (out.map fun i=>vs.getD i Value.none).toArray c)->Q (.ref D) { s with heap:=h' }) :
 wpAny (model prog w) A (call (.builtin "sorted") [.ref l]) Q E s:=by
 refine Calls.call_function_entry kind_sorted plain_sorted entry_sorted (args_sorted1 _) ?_
 unfold Builtin.«sorted»
 refine zA (m:=checkCount "sorted" 1 1 _) (zB ?_)
 refine zA (collect_list hl ?_ (by rw[sizeLine_eq];omega))
 refine zA (wpAny_newList ?_ (by rw[sizeLine_eq];omega))
 have hsz:((s.heap.push (seqObj "list" #[] 0)).update s.heap.objs.size (Obj.mapSeq (· ++ vs.toArray))).objs.size=s.heap.objs.size+1:=by
  rw[Heap.size_update,size_push']
 have hoL:(((s.heap.push (seqObj "list" #[] 0)).update s.heap.objs.size (Obj.mapSeq (· ++ vs.toArray))).push (seqObj "list" vs.toArray 0)).get? (s.heap.objs.size+1)=some (seqObj "list" vs.toArray 0):=by
  rw[<-hsz];exact zN _ rfl
 have keep:∀b o,s.heap.get? b=some o->(((s.heap.push (seqObj "list" #[] 0)).update s.heap.objs.size (Obj.mapSeq (· ++ vs.toArray))).push (seqObj "list" vs.toArray 0)).get? b=some o:=fun b o q=>by
  have hlt:b<s.heap.objs.size:=zU q
  rw[Heap.get?_push_ne _ _ _ (by rw[hsz];exact zh (zAt hlt)),zBY _ _ _ _ (zh hlt),Heap.get?_push_ne _ _ _ (zh hlt)]
  exact q
 show wpAny _ _ _ _ _ { s with heap:=((s.heap.push (seqObj "list" #[] 0)).update s.heap.objs.size (Obj.mapSeq (· ++ vs.toArray))).push (seqObj "list" vs.toArray 0) }
 rw[hsz]
 refine zA (zw (zAa slot_list_sort ⟨_,hoL,rfl⟩ entry_list_sort (list_sort (O:=O) (key:=key) (κ:=κ) hoL h64 (fun h2=>ask h2 _ _ (fun b o e=>zh (zAt (zU e))) keep) fun out hp=>⟨_,rfl,?_⟩) (args_list_sort _)))
 refine zB ⟨_,rfl,?_⟩
 obtain⟨c,hc⟩:=sortedAll_at s.heap vs (out.map fun i=>vs.getD i Value.none).toArray
 exact h _ _ out c hp (zBo _) (fun b o e=>sortedAll_old e) hc
end
end SortT
namespace DRaw
open PySem PySem.W PySem.Calls PyProof.Rows
noncomputable def At (h:Heap)(d:Addr)(es:Array DictEntry)(ep:Nat):Prop:=∃o,h.get? d=some o/\o.ExactDict/\o.data = .dict es ep
theorem At.keep {h h':Heap}{d:Addr}{es:Array DictEntry}{ep:Nat}(x:At h d es ep)(k:∀o,h.get? d=some o->h'.get? d=some o):At h' d es ep:=
 let ⟨o,ho,r⟩:=x;⟨o,k o ho,r⟩
theorem At.lt {h:Heap}{d:Addr}{es:Array DictEntry}{ep:Nat}(x:At h d es ep):d<h.objs.size:=let ⟨_,ho,_⟩:=x;zU ho
theorem At.typeIs {s:Shared}{d:Addr}{es:Array DictEntry}{ep:Nat}(x:At s.heap d es ep):s.TypeIs (.ref d) "dict" := let ⟨o,ho,hc,_⟩:=x;⟨o,ho,hc.1⟩
section
variable {prog:Program}{w:World}{A:Around}{E:Value->Shared->Prop}{s:Shared}{it d:Addr}{es:Array DictEntry}{i ep:Nat}
theorem iter {Q:Value->Shared->Prop}(hd:(d==sysModules)=false)(hm:At s.heap d es ep)
 (hQ:Q (.ref s.heap.objs.size) { s with heap:=s.heap.push { cls:=.type "dict_keyiterator",data:=.fields #[.ref d,.int 0 0,.int es.size 0,.int ep 0] } }) :
 wpAny (model prog w) A (pyIter (.ref d)) Q E s:=by
 obtain⟨o,ho,hc,hdat⟩:=id hm
 have hT:=hm.typeIs
 refine wpAny_pyIter_slot hT F.slot_dict_iter (zAa F.slot_dict_iter hT F.entry_dict_iter ?_ (F.args_dict_iter_1 _))
 unfold Builtin.«dict.__iter__»
 refine zA ?_
 unfold Builtin.Dict.dictSlotNone
 refine zA (wpAny_notOrdered_dict hT ?_)
 show wpAny _ _ (pure (Value.ref d)) _ _ s
 refine zB ?_
 show wpAny _ _ (Builtin.Dict.showsAll d >>= _) _ _ s
 unfold Builtin.Dict.showsAll
 rw[if_neg (by rw[hd];exact zg)]
 refine zA (zB ?_)
 refine zA (wpAny_dictEntries ho hdat ?_)
 refine zA (wpAny_dictEpoch ho hdat ?_)
 refine zA (zAS (zB ⟨_,rfl, "dict_keyiterator",_,⟨_,zN _ rfl,rfl⟩,F.slot_dict_keyiterator_next.lookup,?_⟩))
 simpa [rawInt] using hQ
theorem next {Q:Option Value->Shared->Prop}(hit:s.heap.IsKeyIter it d i es.size ep)(hm:At s.heap d es ep)(hlt':i<es.size)
 (hQ:∀h',h'.IsKeyIter it d (i+1) es.size ep->Heap.SameBut it s.heap h'->Q (some es[i].key) { s with heap:=h' }):wpAny (model prog w) A (pyNext (.ref it)) Q E s:=by
 obtain⟨o,ho,hc,hd⟩:=id hit
 obtain⟨od,hod,hcd,hdd⟩:=id hm
 unfold pyNext
 refine zA (wpAny_attempt (zAs (name:=Str.ofString "__next__") hit.typeIs F.slot_dict_keyiterator_next
  (zAa F.slot_dict_keyiterator_next hit.typeIs F.entry_dict_keyiterator_next ?_ (F.args_dict_keyiterator_next_1 _))))
 refine zA (zB ?_)
 refine zA ?_
 refine zA ?_
 first | refine zA (zB4 hit.typeIs (zB ?_)) | refine zA (wpAny_typeNameOf_keyiter hit.typeIs (zB ?_))
 refine zA (wpAny_fieldsOf ho hd ?_)
 have hown:Builtin.Dict_items.ownsTuple "dict_keyiterator" = false:=by decide
 simp only[hown,zBi,if_false]
 show wpAny _ _ (if (Value.ref d==Value.none)=true then _ else _) _ _ s
 rw[if_neg (show ¬ ((Value.ref d==Value.none)=true) from zg)]
 refine zA (zB ?_)
 refine zA (wpAny_dictEntries hod hdd ?_)
 rw[if_neg (by simp)]
 refine zA (zB ?_)
 refine zA (wpAny_dictEpoch hod hdd ?_)
 rw[if_neg (by simp)]
 refine zB ?_
 simp only[show ¬ ((i:Int)<0) from by omega,if_false,zAU,Array.getElem?_eq_getElem hlt']
 refine zA ?_
 first | refine zA (zB4 hit.typeIs (zB ?_)) | refine zA (wpAny_typeNameOf_keyiter hit.typeIs (zB ?_))
 refine zA (wpAny_isOneOf_keyiter hit.typeIs ?_)
 show wpAny _ _ (setField (.ref it) 1 (rawInt ((i:Int)+1)) >>= _) _ _ s
 refine zA (zB6 ho hd (by simp) ?_)
 have hit':(s.heap.update it (Obj.mapFields (·.setIfInBounds 1 (rawInt ((i:Int)+1))))).IsKeyIter it d (i+1) es.size ep:=
  ⟨_,zv _ ho (Obj.isFreed_of_fields (Obj.data_mapFields hd _)),(Obj.cls_mapFields ..).trans hc,by rw[Obj.data_mapFields hd];simp[rawInt]⟩
 refine zA (zw ?_)
 refine zA (wpAny_isOneOf_keyiter (s:={ s with heap:=s.heap.update it (Obj.mapFields (·.setIfInBounds 1 (rawInt ((i:Int)+1)))) }) hit'.typeIs ?_)
 show wpAny _ _ (pure es[i].key) _ _ _
 exact zB (zB ⟨_,rfl,zB (hQ _ hit' (zAp ..))⟩)
theorem stop {Q:Option Value->Shared->Prop}(hh:A.handled=none)(hit:s.heap.IsKeyIter it d i es.size ep)(hm:At s.heap d es ep)(hge:es.size<=i)
 (hQ:∀h',Heap.ExtBut it s.heap h'->Q none { s with heap:=h' }):wpAny (model prog w) A (pyNext (.ref it)) Q E s:=by
 obtain⟨o,ho,hc,hd⟩:=id hit
 obtain⟨od,hod,hcd,hdd⟩:=id hm
 unfold pyNext
 refine zA (wpAny_attempt (zAs (name:=Str.ofString "__next__") hit.typeIs F.slot_dict_keyiterator_next
  (zAa F.slot_dict_keyiterator_next hit.typeIs F.entry_dict_keyiterator_next ?_ (F.args_dict_keyiterator_next_1 _))))
 refine zA (zB ?_)
 refine zA ?_
 refine zA ?_
 first | refine zA (zB4 hit.typeIs (zB ?_)) | refine zA (wpAny_typeNameOf_keyiter hit.typeIs (zB ?_))
 refine zA (wpAny_fieldsOf ho hd ?_)
 have hown:Builtin.Dict_items.ownsTuple "dict_keyiterator" = false:=by decide
 simp only[hown,zBi,if_false]
 show wpAny _ _ (if (Value.ref d==Value.none)=true then _ else _) _ _ s
 rw[if_neg (show ¬ ((Value.ref d==Value.none)=true) from zg)]
 refine zA (zB ?_)
 refine zA (wpAny_dictEntries hod hdd ?_)
 rw[if_neg (by simp)]
 refine zA (zB ?_)
 refine zA (wpAny_dictEpoch hod hdd ?_)
 rw[if_neg (by simp)]
 refine zB ?_
 simp only[show ¬ ((i:Int)<0) from by omega,if_false,zAU,Array.getElem?_eq_none hge]
 refine zA ?_
 first | refine zA (zB4 hit.typeIs (zB ?_)) | refine zA (wpAny_typeNameOf_keyiter hit.typeIs (zB ?_))
 show wpAny _ _ (setField (.ref it) 0 .none >>= _) _ _ s
 refine zA (zB6 ho hd (by simp) ?_)
 show wpAny _ _ (newExc (.type "StopIteration") [] >>= _) _ _ _
 refine zA ?_
 simp only[newExc,newTuple]
 refine zA (zAS ?_ (by size_fits))
 refine zA (m:=firstArgMember _ _) (wpAny_of_eq (a:=Value.none) (by first | rfl | (simp only[firstArgMember];rfl)) ?_)
 refine zAS ?_ (by size_fits)
 simp only[raiseNew]
 refine zA (wpAny_handled ?_)
 rw[show A.in1.handled=none from hh]
 refine zA (zB (wpAny_throw ?_))
 refine zA (zAq (T := "StopIteration") (b:=true) ⟨_,zN _ rfl,rfl⟩ isSubtype_stop ?_)
 exact zB (hQ _ (((zAp ..).extBut.push _).push _))
end
section
variable {prog:Program}{w:World}{A:Around}{d:Addr}{es:Array DictEntry}{ep:Nat}
theorem walks (hh:A.handled=none)(I:Addr)(hne:d≠I):Walks prog w A I [I,d] [I] es.size (fun i v=>∃e,es[i]? = some e/\v=e.key) (fun i h=>h.IsKeyIter I d i es.size ep/\At h d es ep) where
 sub:=fun b hb=>by simp at hb;simp[hb]
 frame:=fun _ _ _ st hk=>⟨st.1.at fun o e=>hk I (by simp) o e,st.2.keep fun o e=>hk d (by simp) o e⟩
 item:=fun i s Q E hi st hQ=>next st.1 st.2 hi fun h' hit' hs'=>
  hQ _ h' s.toks ⟨es[i],by simp[hi],rfl⟩ ⟨hit',st.2.keep fun o e=>hs'.extBut d o hne e⟩ fun b o hb e=>hs'.extBut b o (fun h=>hb (by simp[h])) e
 done:=fun s Q E st hQ=>stop hh st.1 st.2 (zH _) fun h' he'=>hQ h' s.toks fun b o hb e=>he' b o (fun h=>hb (by simp[h])) e
 self:=fun _ _ _ _ st hQ=>wpAny_pyIter_keyiter st.1 hQ
theorem src (lo:(d==sysModules)=false):KdlSrc prog w "dict" d d es.size (fun i v=>∃e,es[i]? = some e/\v=e.key) (fun h=>At h d es ep) where
 type:=fun _ hm=>hm.typeIs
 there:=fun _ hm=>⟨hm.lt,hm.lt⟩
 keep:=fun _ _ hm hk=>hm.keep fun o e=>hk d (.inl rfl) o e
 notList:=by decide
 notTuple:=by decide
 hint:=fun _ _ _ _ hm hq=>kdl_hint_dict hm.typeIs hq
 iter:=fun _ _ hh hm=>⟨_,_,(fun _ _ hq=>iter lo hm hq),walks hh _ (zh hm.lt),⟨⟨_,zN _ rfl,rfl,rfl⟩,hm.keep fun o e=>zF _ e⟩⟩
end
end DRaw
namespace SortT
open PySem PySem.W PySem.Calls PyProof.Rows
theorem sorted_dict {prog:Program}{w:World}{A:Around}{E:Value->Shared->Prop}{s:Shared}{d:Addr}{es:Array DictEntry}{ep:Nat}{vs:List Value}{Q:Value->Shared->Prop}{O:KeyOrd}{key:Nat->O.α}{κ:SortKind}
 (hh:A.handled=none)(lo:(d==sysModules)=false)(hm:DRaw.At s.heap d es ep)(hvs:vs=es.toList.map (·.key))(h64:vs.length<64)
 (ask:2<=vs.length->∀(s':Shared)(a:Addr),(∀b o,s.heap.get? b=some o->b≠a)->(∀b o,s.heap.get? b=some o->s'.heap.get? b=some o)->Asks prog w A.in1.in1 s' a vs key κ)
 (h:∀(h1:Heap)(D:Addr)(h':Heap)(t':Nat)(out:List Nat)(c:Nat),Put key vs.length out->(∀b o,s.heap.get? b=some o->h1.get? b=some o)->h1.objs.size<=D->(∀b o,h1.get? b=some o->h'.get? b=some o) ->
  h'.get? D=some (seqObj "list" (out.map fun i=>vs.getD i Value.none).toArray c)->Q (.ref D) { s with heap:=h',toks:=t' }) :
 wpAny (model prog w) A (call (.builtin "sorted") [.ref d]) Q E s:=by
 have hlen:vs.length=es.size:=by rw[hvs];simp
 refine call_function_entry kind_sorted plain_sorted entry_sorted (args_sorted1 _) ?_
 unfold Builtin.«sorted»
 refine zA (m:=checkCount "sorted" 1 1 _) (zB ?_)
 refine zA (kdu_collect (A:=A.in1) (DRaw.src (es:=es) (ep:=ep) lo) hh hm (by rw[sizeLine_eq];omega) fun h1 tk acc hk hacc=>?_)
 have el:acc.toList=vs:=by
  apply List.ext_getElem?
  intro j
  by_cases hj:j<es.size
  . have hz:j<acc.size:=by rw[hacc.1];exact hj
    obtain⟨e,he,hv⟩:=hacc.2 j acc[j] (by simp[hz])
    rw[Array.getElem?_toList,Array.getElem?_eq_getElem hz,hv,hvs,zQ,Array.getElem?_toList,he]
    rfl
  . rw[zz (by rw[Array.length_toList,hacc.1];omega),zz (by omega)]
 rw[el]
 refine zA (wpAny_newList ?_ (by rw[sizeLine_eq];omega))
 have hoL:(h1.push (seqObj "list" vs.toArray 0)).get? h1.objs.size=some (seqObj "list" vs.toArray 0):=zN _ rfl
 have keep1:∀b o,h1.get? b=some o->(h1.push (seqObj "list" vs.toArray 0)).get? b=some o:=fun b o q=>zF _ q
 refine zA (zw (zAa slot_list_sort ⟨_,hoL,rfl⟩ entry_list_sort (list_sort (O:=O) (key:=key) (κ:=κ) hoL h64
  (fun h2=>ask h2 _ _ (fun b o e=>zh (zU (hk b o e))) fun b o e=>keep1 b o (hk b o e)) fun out hp=>⟨_,rfl,?_⟩) (args_list_sort _)))
 refine zB ⟨_,rfl,?_⟩
 obtain⟨c,hc⟩:=sortedHeap_at (vs:=vs) (out:=(out.map fun i=>vs.getD i Value.none).toArray) hoL
 refine h h1 _ _ _ out c hp hk (zH _) (fun b o e=>?_) hc
 have hb:b<h1.objs.size:=zU e
 rw[sortedHeap_old (zh hb) (by rw[zAr];exact zAt hb)]
 exact keep1 b o e
end SortT
namespace L2
open PySem PySem.Spec PyProof.Rows
theorem zE5:∀a:List Int,HT.lexLt a a=false
 | []=>rfl
 | x::r=>by rw[HT.lexLt_cons,if_pos rfl];exact zE5 r
theorem zEQ:∀a b c:List Int,HT.lexLt a b=true->HT.lexLt b c=true->HT.lexLt a c=true
 | [],[],_,h,_=>by cases h
 | [],_::_,[],_,h=>by cases h
 | [],_::_,_::_,_,_=>rfl
 | _::_,[],_,h,_=>by cases h
 | _::_,_::_,[],_,h=>by cases h
 | x::a,y::b,z::c,h1,h2=>by
  rw[HT.lexLt_cons] at h1 h2 ⊢
  by_cases e1:x=y
  . subst e1
    rw[if_pos rfl] at h1
    by_cases e2:x=z
    . subst e2
      rw[if_pos rfl] at h2 ⊢
      exact zEQ a b c h1 h2
    . rw[if_neg e2] at h2 ⊢;exact h2
  . rw[if_neg e1] at h1
    have l1:x<y:=of_decide_eq_true h1
    by_cases e2:y=z
    . subst e2;rw[if_neg e1];exact h1
    . rw[if_neg e2] at h2
      have l2:y<z:=of_decide_eq_true h2
      rw[if_neg (by omega)]
      exact zP (by omega)
theorem zER:∀a b:List Int,HT.lexLt a b=false->HT.lexLt b a=false->a=b
 | [],[],_,_=>rfl
 | [],_::_,h,_=>by cases h
 | _::_,[],_,h=>by cases h
 | x::a,y::b,h1,h2=>by
  rw[HT.lexLt_cons] at h1 h2
  by_cases e:x=y
  . subst e
    rw[if_pos rfl] at h1 h2
    rw[zER a b h1 h2]
  . rw[if_neg e] at h1
    rw[if_neg (Ne.symm e)] at h2
    have l1:=of_decide_eq_false h1
    have l2:=of_decide_eq_false h2
    omega
theorem zL2 (a b c:List Int)(h:HT.lexLt a c=true):HT.lexLt a b=true\/HT.lexLt b c=true:=by
 cases h1:HT.lexLt a b with
 | true=>exact .inl rfl
 | false=>
  cases h2:HT.lexLt b a with
  | true=>exact .inr (zEQ b a c h2 h)
  | false=>rw[<-zER a b h1 h2];exact .inr h
noncomputable def zKY:KeyOrd:=⟨List Int,HT.lexLt,zE5,zEQ,zL2,zER⟩
noncomputable def zJv (ms:List (List Int)):Prop:=ms.Pairwise fun a b=>HT.lexLt b a=false
noncomputable def zAk (H:Hp):List V->List (List Int)->Prop
 | [],[]=>True
 | x::xs,k::ks=>(∃a,x = .ref a/\H a=some (.tup (k.map V.int))/\k≠[])/\zAk H xs ks
 | _,_=>False
theorem zAk.length {H:Hp}:∀{xs:List V}{ks:List (List Int)},zAk H xs ks->xs.length=ks.length
 | [],[],_=>rfl
 | [],_::_,h=>h.elim
 | _::_,[],h=>h.elim
 | _::_,_::_,h=>by rw[zd,zd,zAk.length h.2]
theorem zAk.get {H:Hp}:∀{xs:List V}{ks:List (List Int)}{i:Nat}{x:V},zAk H xs ks->xs[i]? = some x->∃a k,x = .ref a/\ks[i]? = some k/\H a=some (.tup (k.map V.int))/\k≠[]
 | [],_,_,_,_,h=>by simp at h
 | _::_,[],_,_,h,_=>h.elim
 | y::_,k::_,0,x,h,e=>by
  obtain⟨⟨a,h1,h2,h3⟩,_⟩:=h
  have e':y=x:=by simpa using e
  subst e'
  exact⟨a,k,h1,rfl,h2,h3⟩
 | _::_,_::_,i+1,x,h,e=>by
  obtain⟨a,k,h1,h2,h3⟩:=zAk.get (i:=i) h.2 (by simpa using e)
  exact⟨a,k,h1,by simpa using h2,h3⟩
theorem zAk.mk {H:Hp}:∀{xs:List V}{ks:List (List Int)},xs.length=ks.length->(∀(i:Nat)(x:V)(k:List Int),xs[i]? = some x->ks[i]? = some k->∃a,x=V.ref a/\H a=some (.tup (k.map V.int))/\k≠[])->zAk H xs ks
 | [],[],_,_=>trivial
 | [],_::_,e,_=>by simp at e
 | _::_,[],e,_=>by simp at e
 | x::xs,k::ks,e,h=>⟨h 0 x k rfl rfl,zAk.mk (by simpa using e) fun i x' k' h1 h2=>h (i+1) x' k' (by simpa using h1) (by simpa using h2)⟩
theorem zAk.keep {H H':Hp}{xs:List V}{ks:List (List Int)}(h:zAk H xs ks)(k:∀b ys,H b=some (.tup ys)->H' b=some (.tup ys)):zAk H' xs ks:=
 zAk.mk h.length fun i x c h1 h2=>by
  obtain⟨a,c',e1,e2,e3,e4⟩:=h.get h1
  rw[h2] at e2
  cases e2
  exact⟨a,e1,k a _ e3,e4⟩
theorem zAk.snoc {H:Hp}:∀{xs:List V}{ks:List (List Int)}{x:V}{k:List Int},zAk H xs ks->(∃a,x = .ref a/\H a=some (.tup (k.map V.int))/\k≠[])->zAk H (xs++[x]) (ks++[k])
 | [],[],_,_,_,h=>⟨h,trivial⟩
 | [],_::_,_,_,t,_=>t.elim
 | _::_,[],_,_,t,_=>t.elim
 | _::_,_::_,_,_,t,h=>⟨t.1,zAk.snoc t.2 h⟩
section
variable {prog:Program}{w:World}{A:Around}{s:Shared}
theorem zEV {fin:Bool}{Q:Bool->Shared->Prop}:∀(ns ms:List Int)(us ws:List Value)(i:Nat),IntsAre us ns->IntsAre ws ms->fin=decide (ns.length<ms.length)->Q (HT.lexLt ns ms) s ->
 PySem.W.KatLex prog w A true fin Q (us.zip ws) i s
 | [],[],_,_,_,.nil,.nil,e,q=>by subst e;exact q
 | [],_::_,_,_,_,.nil,.cons _ _ _,e,q=>by subst e;exact q
 | _::_,[],_,_,_,.cons _ _ _,.nil,e,q=>by subst e;exact q
 | n::ns,m::ms,_,_,i,.cons _ t hu,.cons _ u hw,e,q=>by
  rw[HT.lexLt_cons] at q
  refine PySem.W.kat_cons (wpAny_eqBool_int ?_)
  by_cases h:n=m
  . rw[if_pos h] at q
    rw[show (n==m)=true by simpa using h]
    exact PySem.W.kat_yes (zEV ns ms _ _ (i+1) hu hw (by rw[e];simp) q)
  . rw[if_neg h] at q
    rw[show (n==m)=false by simpa using h]
    refine PySem.W.kat_no ?_
    cases i with
    | zero=>exact oneLt_int q
    | succ j=>exact PySem.W.kat_one _ _ (PyProof.Rows.lt_int q)
theorem zGY {X:Cx}{pins:List (Addr×Obj)}{σ:St}{H:Hp}{s s':Shared}{a:Addr}{ys:List V}{ks:List (List Int)}{vs:List Value}{A:Around}(I:Inv X pins σ H s)(T:zAk H ys ks)(r:zBB ys vs)(hne:0<vs.length)
 (fa:∀b o,s.heap.get? b=some o->b≠a)(kp:∀b o,s.heap.get? b=some o->s'.heap.get? b=some o):SortT.Asks X.prog X.w A s' a vs (O:=zKY) (fun i=>ks.getD i []) (tuples' true):=by
 have hl:=T.length
 have hv:=r.length
 have at_:∀(h':Heap),(∀b o,b≠a->s'.heap.get? b=some o->h'.get? b=some o)->∀i,i<vs.length->∃(p:Addr)(k:List Int)(us:List Value)(o:Obj)(n:Nat),vs[i]? = some (Value.ref p)/\ks[i]? = some k/\k≠[]/\IntsAre us k/\h'.get? p=some o/\o.cls = .type "tuple" /\ o.data = .seq us.toArray n:=fun h' kh i hi=>by
  have hy:i<ys.length:=by omega
  obtain⟨p,k,e1,e2,e3,e4⟩:=T.get (i:=i) (x:=ys[i]) (by simp[hy])
  obtain⟨u,hu,ru⟩:=r.get (i:=i) (x:=ys[i]) (by simp[hy])
  rw[e1] at ru
  cases (show u=Value.ref p from ru)
  obtain⟨_,its,rv,o,ho,hc,n,hd⟩:=I.hok p _ e3
  exact⟨p,k,its,o,n,hu,e2,e4,zBa rv,kh p o (fa p o ho) (kp p o ho),hc,hd⟩
 refine⟨fun h' Q E kh q=>?_,fun h' i j Q E kh hi hj q=>?_⟩
 . -- all keys are tuples whose first items are ints
   have tups:∀(m:Nat),m<=vs.length->∃fs:List Value,PySem.W.KatTups h' (vs.drop (vs.length-m)) fs/\fs.length=m/\∀f∈fs,∃x t,f=Value.int x t:=by
    intro m
    induction m with
    | zero=>intro _;exact⟨[],by rw[Nat.sub_zero,List.drop_length];exact trivial,rfl,fun f hf=>by simp at hf⟩
    | succ m ih=>
     intro hm
     obtain⟨fs,t,e,hf⟩:=ih (by omega)
     obtain⟨p,k,us,o,n,hu,hk,hk0,hI,ho,hc,hd⟩:=at_ h' kh (vs.length-(m+1)) (by omega)
     have ed:vs.drop (vs.length-(m+1))=Value.ref p::vs.drop (vs.length-m):=by
      have hlt:vs.length-(m+1)<vs.length:=by omega
      rw[List.drop_eq_getElem_cons hlt,show vs.length-(m+1)+1=vs.length-m by omega]
      have:vs[vs.length-(m+1)]=Value.ref p:=by
       rw[zE hlt] at hu
       exact zf hu
      rw[this]
     cases hI with
     | nil=>exact absurd rfl hk0
     | cons x tx hI'=>
      refine⟨Value.int x tx::fs,by rw[ed];exact PySem.W.KatTups.cons ho hc hd rfl t,by rw[zd,e],fun f hf'=>?_⟩
      rcases zT.mp hf' with rfl | hf'
      . exact⟨x,tx,rfl⟩
      . exact hf f hf'
   obtain⟨fs,t,e,hf⟩:=tups vs.length (zH _)
   rw[Nat.sub_self,List.drop_zero] at t
   refine PySem.W.kat_kind (T:=Value.type "int") t (by omega) (fun v hv=>?_) (by rfl) q
   obtain⟨x,tx,rfl⟩:=hf v hv
   exact PySem.W.Looks.of_pure rfl
 . obtain⟨p,k,us,o,n,hu,hk,_,hI,ho,hc,hd⟩:=at_ h' kh i hi
   obtain⟨p2,k2,us2,o2,n2,hu2,hk2,_,hI2,ho2,hc2,hd2⟩:=at_ h' kh j hj
   have e1:vs.getD i Value.none = .ref p:=by rw[zM,hu];rfl
   have e2:vs.getD j Value.none = .ref p2:=by rw[zM,hu2];rfl
   have g1:ks.getD i []=k:=by rw[zM,hk];rfl
   have g2:ks.getD j []=k2:=by rw[zM,hk2];rfl
   rw[e1,e2]
   refine PySem.W.kat_lt (s:={ s' with heap:=h' }) ho hd ho2 hd2 ?_
   have q':Q (HT.lexLt k k2) { s' with heap:=h' }:=by
    have:zKY.blt (ks.getD i []) (ks.getD j [])=HT.lexLt k k2:=by rw[g1,g2];rfl
    rw[<-this];exact q
   have l1:=hI.length
   have l2:=hI2.length
   exact zEV k k2 us us2 0 hI hI2 (by simp only[zS];rw[l1,l2]) q'
theorem zHK {H:Hp}{ys:List V}{ks:List (List Int)}{vs:List Value}{out:List Nat}(T:zAk H ys ks)(r:zBB ys vs)(p:SortT.Put (O:=zKY) (fun i=>ks.getD i []) vs.length out) :
 ∃zs ms,zAk H zs ms/\ms.Perm ks/\zJv ms/\zBB zs (out.map fun i=>vs.getD i Value.none)/\zs.length=ys.length:=by
 have hl:=T.length
 have hv:=r.length
 have hb:∀i∈out,i<vs.length:=fun i hi=>zB9.mp (p.perm.mem_iff.mp hi)
 refine⟨out.map fun i=>ys.getD i .non,out.map fun i=>ks.getD i [],zAk.mk (by rw[zD,zD]) fun j x k hx hk=>?_,?_,?_,?_,?_⟩
 . rw[zQ] at hx hk
   cases e:out[j]? with
   | none=>rw[e] at hx;cases hx
   | some i=>
    rw[e] at hx hk
    have hi:=hb i (zW e)
    have hy:i<ys.length:=by omega
    obtain⟨a,c,e1,e2,e3,e4⟩:=T.get (i:=i) (x:=ys[i]) (by simp[hy])
    have ex:ys.getD i .non=x:=zf hx
    have ek:ks.getD i []=k:=zf hk
    rw[zM,zE hy] at ex
    rw[zM,e2] at ek
    have ex':ys[i]=x:=ex
    have ek':c=k:=ek
    subst ek'
    exact⟨a,by rw[<-ex'];exact e1,e3,e4⟩
 . have h1:=p.perm.map fun i=>ks.getD i []
   have h2:(List.range vs.length).map (fun i=>ks.getD i [])=ks:=by
    rw[show vs.length=ks.length by omega]
    apply List.ext_getElem?
    intro j
    rw[zQ]
    by_cases hj:j<ks.length
    . rw[List.getElem?_range hj,zE hj];simp[hj]
    . rw[zz (by rw[zAb];omega),zz (by omega)];rfl
   rw[h2] at h1
   exact h1
 . refine zu.mpr fun i j hi hj hij=>?_
   rw[zD] at hi hj
   have:=p.rise i j out[i] out[j] (zAl hij) (by simp) (by simp)
   have h3:HT.lexLt (ks.getD out[j] []) (ks.getD out[i] [])=false:=this
   simpa using h3
 . have:∀l:List Nat,(∀i∈l,i<vs.length)->zBB (l.map fun i=>ys.getD i .non) (l.map fun i=>vs.getD i Value.none):=by
    intro l
    induction l with
    | nil=>intro _;exact .nil
    | cons i l ih=>
     intro h
     have hi:=h i zY
     have hy:i<ys.length:=by omega
     obtain⟨u,hu,ru⟩:=r.get (i:=i) (x:=ys[i]) (by simp[hy])
     refine .cons ?_ (ih fun j hj=>h j (zR _ hj))
     show zBn (ys.getD i V.non) (vs.getD i Value.none)
     rw[zM,zE hy,zM,hu]
     exact ru
   exact this out hb
 . rw[zD,p.perm.length_eq,zAb];omega
theorem zCi {X:Cx}{pins:List (Addr×Obj)}{σ:St}{H:Hp}{s:Shared}{h':Heap}{D:Addr}{c t':Nat}{zs:List V}{us:List Value}(I:Inv X pins σ H s)(hD:s.heap.objs.size<=D)(kp:∀b o,s.heap.get? b=some o->h'.get? b=some o)
 (ho:h'.get? D=some (seqObj "list" us.toArray c)) (r:zBB zs us)(hz:zs.length<=sizeLine):Inv X pins σ (upd H D (.lst zs)) { s with heap:=h',toks:=t' }:=
 I.laid kp hD (show zBP X.prog X.w _ _ _ (.lst zs) from ⟨hz,us,c,r,ho⟩)
end
section
variable {X:Cx}
theorem zG4:zDN X (.builtin "sorted") (fun xs H Q=>∃p ys ks,xs=[.ref p]/\SqL X.K H p ys/\zAk H ys ks/\ks.length<64 /\
 ∀l zs ms,H l=none->zAk H zs ms->ms.Perm ks->zJv ms->Q (.ref l) (upd H l (.lst zs))):=by
 intro pins s σ H xs us Q I r h
 obtain⟨p,ys,ks,rfl,hq,T,h64,q⟩:=h
 obtain⟨u,rfl,rx⟩:=zDB r
 cases rx
 obtain⟨its,r',pl,hz⟩:=I.list hq
 have hl:=T.length
 have hv:=r'.length
 refine SortT.sorted_list (O:=zKY) (key:=fun i=>ks.getD i []) (κ:=tuples' true) pl.isList (by omega) (fun h2 s' a fa kp=>zGY I T r' (by omega) fa kp) fun D h' out c pt hD kp ho=>?_
 obtain⟨zs,ms,T2,hp,hr,rz,hlz⟩:=zHK T r' pt
 exact⟨.ref D,_,zCi (t':=s.toks) I hD kp ho rz (by omega),rfl,q D zs ms (I.hok.fresh hD) T2 hp hr⟩
theorem zGQ (hc:X.calm=true):zDN X (.builtin "sorted") (fun xs H Q=>∃p kvs ks,xs=[.ref p]/\H p=some (.dT kvs)/\kvs.map (·.1)=ks.map (List.map Sum.inl)/\(∀k∈ks,k≠[])/\ks.length<64 /\
 ∀l zs ms,H l=none->zAk H zs ms->ms.Perm ks->zJv ms->Q (.ref l) (upd H l (.lst zs))):=by
 intro pins s σ H xs us Q I r h
 obtain⟨p,kvs,ks,rfl,hd,hks,hk0,h64,q⟩:=h
 obtain⟨u,rfl,rx⟩:=zDB r
 cases rx
 obtain⟨hz,lo,xs,rel,o,es,ep,ho,hx,hdat,hes,hnd⟩:=I.hok p _ hd
 have key:∀(kvs:List (List Key×V))(xs:List (List Key×Addr×Value))(ks:List (List Int)),KT H kvs xs->kvs.map (·.1)=ks.map (List.map Sum.inl)->(∀k∈ks,k≠[]) ->
  zAk H (xs.map fun q=>V.ref q.2.1) ks/\zBB (xs.map fun q=>V.ref q.2.1) ((xs.map (entryOfKey (tupleKind (zA7 X.prog X.w)))).map (·.key)):=by
  intro kvs xs ks rel
  induction rel generalizing ks with
  | nil=>
   intro e _
   cases ks with
   | nil=>exact⟨trivial,.nil⟩
   | cons k ks=>simp at e
  | cons hpq _ ih=>
   intro e h0
   cases ks with
   | nil=>simp at e
   | cons k ks=>
    simp only[zAV,List.cons.injEq] at e
    obtain⟨T,V⟩:=ih ks e.2 fun c hc=>h0 c (zR _ hc)
    obtain⟨e1,e2,_⟩:=hpq
    refine⟨⟨⟨_,rfl,?_,h0 k zY⟩,T⟩,.cons rfl V⟩
    rw[e2,e.1,List.map_map]
    rfl
 obtain⟨T,rv⟩:=key kvs xs ks rel hks hk0
 have hl:=T.length
 have hv:=rv.length
 have evs:(xs.map (entryOfKey (tupleKind (zA7 X.prog X.w)))).map (·.key)=es.toList.map (·.key):=by rw[hes]
 refine SortT.sorted_dict (O:=zKY) (key:=fun i=>ks.getD i []) (κ:=tuples' true) (vs:=(xs.map (entryOfKey (tupleKind (zA7 X.prog X.w)))).map (·.key)) (I.ok.hd hc) lo ⟨o,ho,hx,hdat⟩ evs (by omega) (fun h2 s' a fa kp=>zGY I T rv (by omega) fa kp) fun h1 D h' t' out c pt k1 hD k2 ho=>?_
 obtain⟨zs,ms,T2,hp,hr,rz,hlz⟩:=zHK T rv pt
 have I1:Inv X pins σ H { s with heap:=h1,toks:=s.toks }:=I.kept k1
 refine⟨.ref D,_,zCi (s:={ s with heap:=h1,toks:=s.toks }) (t':=t') I1 hD k2 ho rz ?_,rfl,q D zs ms (I1.hok.fresh hD) T2 hp hr⟩
 have:sizeLine=16777216:=rfl
 omega
end
end L2
namespace L2
open PySem PySem.Spec PyProof.Rows
mutual
inductive zAy (H:Hp):V->PyData->Prop
 | non:zAy H .non .none
 | bl (b:Bool):zAy H (.bl b) (.bool b)
 | int (i:Int):zAy H (.int i) (.int i)
 | str (x:Str):zAy H (.str x) (.str x)
 | tup {a:Addr}{xs:List V}{ds:List PyData}:H a=some (.tup xs)->zAT H xs ds->zAy H (.ref a) (.tuple ds)
 | lst {a:Addr}{xs:List V}{ds:List PyData}:H a=some (.lst xs)->zAT H xs ds->zAy H (.ref a) (.list ds)
inductive zAT (H:Hp):List V->List PyData->Prop
 | nil:zAT H [] []
 | cons {x:V}{xs:List V}{d:PyData}{ds:List PyData}:zAy H x d->zAT H xs ds->zAT H (x::xs) (d::ds)
end
section
variable {P:Program}{w:World}{H:Hp}{h:Heap}
mutual
theorem zAy.reads (ok:HOk P w H h):∀{x:V}{d:PyData},zAy H x d->∀{u:Value},zBn x u->∃as,Reads h u d as
 | _,_,.non,u,r=>by cases (show u=Value.none from r);exact⟨_,.none⟩
 | _,_,.bl b,u,r=>by cases (show u=Value.bool b from r);exact⟨_,.bool b⟩
 | _,_,.int i,u,r=>by obtain⟨t,rfl⟩:=r;exact⟨_,.int i t⟩
 | _,_,.str x,u,r=>by obtain⟨t,rfl⟩:=r;exact⟨_,.str x t⟩
 | _,_,.tup (a:=a) e s,u,r=>by
  cases (show u=Value.ref a from r)
  obtain⟨_,its,rv,o,ho,hc,n,hd⟩:=ok a _ e
  obtain⟨as,ra⟩:=zAT.reads ok s rv
  exact⟨_,.tuple ho hc hd (by simpa using ra)⟩
 | _,_,.lst (a:=a) e s,u,r=>by
  cases (show u=Value.ref a from r)
  obtain⟨_,its,n,rv,ho⟩:=ok a _ e
  obtain⟨as,ra⟩:=zAT.reads ok s rv
  exact⟨_,.list ho rfl rfl (by simpa using ra)⟩
theorem zAT.reads (ok:HOk P w H h):∀{xs:List V}{ds:List PyData},zAT H xs ds->∀{us:List Value},zBB xs us->∃as,ReadsAll h us ds as
 | _,_,.nil,us,r=>by cases r;exact⟨_,.nil⟩
 | _,_,.cons s t,us,r=>by
  cases r with
  | cons r1 r2=>
   obtain⟨a1,h1⟩:=zAy.reads ok s r1
   obtain⟨a2,h2⟩:=zAT.reads ok t r2
   exact⟨_,.cons h1 h2⟩
end
end
structure Fn (n p:Nat)(d:PyData):Prop where
 wt:d.weight<=n
 dp:d.depth<=p
 cl:d.canLay0=true
 sh:d.intsShort 13=true
 sw:d.showable=true
theorem Fn.mono {n p n' p':Nat}{d:PyData}(h:Fn n p d)(hn:n<=n')(hp:p<=p'):Fn n' p' d:=⟨zAf h.wt hn,zAf h.dp hp,h.cl,h.sh,h.sw⟩
theorem zH4 {i:Int}(h:i.natAbs<1000000000):i.natAbs.log2<30:=by
 by_cases h0:i.natAbs=0
 . rw[h0];decide
 . exact (Nat.log2_lt h0).mpr (by omega)
theorem fn_int {i:Int}(h:i.natAbs<1000000000):Fn 30 0 (.int i):=by
 have hl:=zH4 h
 refine⟨?_,zH _,rfl,?_,?_⟩
 . simp only[PyData.weight]
   split <;> omega
 . simp only[PyData.intsShort,PyData.shown]
   refine zP ?_
   have e:=int_text_length_le10 (a:=i) (k:=9) (by decide) (by simpa using h)
   have e2:(Str.ofString (toString i)).length=(toString i).length:=by
    rw[Str.ofString_eq_toList]
    show ((toString i).toList.map Char.toNat).toArray.size=_
    rw[zS,zD,String.length_toList]
   show (Str.ofString (toString i)).length<=13
   omega
 . simp only[PyData.showable]
   exact zP (by omega)
theorem zLH {n p:Nat}:∀{ds:List PyData},(∀d∈ds,Fn n p d)->PyData.weightAll ds<=ds.length*(n+1)/\PyData.depthAll ds<=p/\PyData.canLayAll0 ds=true/\PyData.intsShortAll 13 ds=true/\PyData.showableAll ds=true
 | [],_=>⟨by simp[PyData.weightAll],by simp[PyData.depthAll],by simp[PyData.canLayAll0],by simp[PyData.intsShortAll],by simp[PyData.showableAll]⟩
 | d::ds,h=>by
  obtain⟨a,b,c,e,f⟩:=zLH (ds:=ds) fun x hx=>h x (zR _ hx)
  have g:=h d zY
  refine⟨?_,?_,?_,?_,?_⟩
  . simp only[PyData.weightAll,zd]
    have:=g.wt
    rw[Nat.add_mul]
    omega
  . simp only[PyData.depthAll]
    have:=g.dp
    omega
  . simp only[PyData.canLayAll0,g.cl,c,Bool.and_self]
  . simp only[PyData.intsShortAll,g.sh,e,Bool.and_self]
  . simp only[PyData.showableAll,g.sw,f,Bool.and_self]
theorem fn_tup {n p L:Nat}{ds:List PyData}(h:∀d∈ds,Fn n p d)(hl:ds.length<=L):Fn (L*(n+1)) (p+1) (.tuple ds):=by
 obtain⟨a,b,c,e,f⟩:=zLH h
 refine⟨?_,?_,?_,?_,?_⟩
 . simp only[PyData.weight]
   exact zAf a (Nat.mul_le_mul_right _ hl)
 . simp only[PyData.depth];omega
 . simp only[PyData.canLay0];exact c
 . simp only[PyData.intsShort];exact e
 . simp only[PyData.showable];exact f
theorem Fn.len {n p:Nat}{d:PyData}(h:Fn n p d)(hn:n<=1048576)(hp:p<=60):d.shown.length<=sizeLine/\d.hasDict=false:=by
 have hl:PyData.layable0 d=true:=by
  show (PyData.canLay0 d && decide (PyData.depth d<=64) && decide (PyData.weight d<=2 ^ 20))=true
  rw[h.cl,zP (show PyData.depth d<=64 by have:=h.dp;omega),zP (show PyData.weight d<=2 ^ 20 by have:=h.wt;omega)]
  rfl
 have e:=shown_le13 hl h.sh
 have:sizeLine=16777216:=rfl
 exact⟨by omega,PyData.hasDict_of_layable hl⟩
section
variable {X:Cx}
theorem zGR {k:Nat}(hr:zDF k X.A):zDN X (.builtin "repr") (fun xs H Q=>∃x d,xs=[x]/\zAy H x d/\Fn 1048576 50 d/\Q (.str d.shown) H):=by
 intro pins s σ H xs us Q I r h
 obtain⟨x,d,rfl,sh,f,q⟩:=h
 obtain⟨u,rfl,rx⟩:=zDB r
 obtain⟨hz,hnd⟩:=f.len (zH _) (by decide)
 have hu:=hr.units
 cases sh with
 | non=>
  cases (show u=Value.none from rx)
  exact PySem.P.repr_of_none ⟨.str _,H,I.tok _,⟨_,rfl⟩,by simpa only [PyData.shown] using q⟩
 | bl b=>
  cases (show u=Value.bool b from rx)
  exact PySem.P.repr_of_bool ⟨.str _,H,I.tok _,⟨_,rfl⟩,by simpa only [PyData.shown] using q⟩
 | int i=>
  obtain⟨t,rfl⟩:=rx
  exact PySem.P.repr_of_int (by have:=f.sw;simpa only [PyData.showable,decide_eq_true_eq] using this) ⟨.str _,H,I.tok _,⟨_,rfl⟩,by simpa only [PyData.shown] using q⟩
 | str z=>
  obtain⟨t,rfl⟩:=rx
  exact PySem.P.repr_of_str ⟨.str _,H,I.tok _,⟨_,rfl⟩,by simpa only [PyData.shown] using q⟩ (by simpa only [PyData.shown] using hz)
 | tup e al=>
  cases (show u=Value.ref _ from rx)
  obtain⟨as,rd⟩:=zAy.reads I.hok (.tup e al) (u:=.ref _) rfl
  exact repr_of_reads' rd f.sw (PyData.noDict_hsm hnd) hr.gd (by have:=f.dp;omega) (fun _ _ e=>e) (fun h' u tk hk=>⟨.str _,H,I.kept hk,⟨u,rfl⟩,q⟩) hz
 | lst e al=>
  cases (show u=Value.ref _ from rx)
  obtain⟨as,rd⟩:=zAy.reads I.hok (.lst e al) (u:=.ref _) rfl
  exact repr_of_reads' rd f.sw (PyData.noDict_hsm hnd) hr.gd (by have:=f.dp;omega) (fun _ _ e=>e) (fun h' u tk hk=>⟨.str _,H,I.kept hk,⟨u,rfl⟩,q⟩) hz
end
end L2
namespace L2
open PySem PySem.Spec PyProof.Rows
section
variable {X:Cx}{es xs:List Expr}{t t1:TA}
theorem zCd {i j pos} (hr:PA X es t):PA X (.Constant (.int i) j pos::es) (zLX (tC (.int i)) t):=zG ze hr (by rfl)
theorem pa_lst {pos} (h:PA X xs t1)(hr:PA X es t):PA X (.List xs pos::es) (zLX (tLst t1) t):=zG (zCN h) hr (by rfl)
end
inductive zDv:List Expr->List Int->Prop where
 | nil:zDv [] []
 | cons {i:Int}{j:Nat}{pos:Pos}{es:List Expr}{ns:List Int}:zDv es ns->zDv (.Constant (.int i) j pos::es) (i::ns)
theorem zIx {X:Cx}{es:List Expr}{ns:List Int}(h:zDv es ns):PA X es (fun _ H Q=>Q (ns.map V.int) H):=by
 induction h with
 | nil=>exact zO
 | cons _ ih=>
  intro pos pins s σ H Q I q
  exact (zCd ih) pos pins s σ H Q I q
inductive zDn:List Expr->List (List Int)->Prop where
 | nil:zDn [] []
 | cons {xs:List Expr}{ns:List Int}{pos:Pos}{es:List Expr}{nss:List (List Int)}:zDv xs ns->ns.length<=sizeLine->zDn es nss->zDn (.List xs pos::es) (ns::nss)
noncomputable def zKw:List (List Int)->TA
 | []=>tNil
 | ns::r=>fun σ H Q=>∀p,H p=none->zKw r σ (upd H p (.lst (ns.map V.int))) fun xs H2=>Q (.ref p::xs) H2
theorem zKT {X:Cx}{es:List Expr}{nss:List (List Int)}(h:zDn es nss):PA X es (zKw nss):=by
 induction h with
 | nil=>exact zO
 | cons hx hl _ ih=>
  intro pos pins s σ H Q I q
  exact (pa_lst (zIx hx) ih) pos pins s σ H Q I ⟨by rw[zD];exact hl,fun p hp=>q p hp⟩
end L2
namespace WM
theorem zE2 {α:Type} [DecidableEq α]:∀{l₁ l₂:List α},l₁.Nodup->(∀x∈l₁,x∈l₂)->l₁.length<=l₂.length
 | [],_,_,_=>zi _
 | x::r,l₂,h,s=>by
  obtain⟨h1,h2⟩:=zAj.mp h
  have hx:x∈l₂:=s x zY
  have ih:=zE2 (l₁:=r) (l₂:=l₂.erase x) h2 fun y hy=>by
   have hne:y≠x:=fun e=>h1 (e ▸ hy)
   exact (List.mem_erase_of_ne hne).mpr (s y (zR _ hy))
  rw[List.length_erase_of_mem hx] at ih
  have:0<l₂.length:=List.length_pos_of_mem hx
  rw[zd]
  omega
noncomputable def lowTo (n:Nat):List Int:=(List.range n).map fun (i:Nat)=>(i:Int)
theorem zCs {n:Nat}{x:Int}:x∈lowTo n↔0<=x/\x<n:=by
 unfold lowTo
 rw[zAM]
 constructor
 . rintro ⟨i,hi,rfl⟩
   have:=zB9.mp hi
   omega
 . rintro ⟨h0,h1⟩
   exact⟨x.toNat,zB9.mpr (by omega),by omega⟩
theorem nd_len {n:Nat}{l:List Int}(h:l.Nodup)(hb:∀x∈l,0<=x/\x<n):l.length<=n:=by
 have:=zE2 h (l₂:=lowTo n) fun x hx=>zCs.mpr (hb x hx)
 simpa [lowTo] using this
theorem zFs:∀{l₁ l₂:List Int},l₁.Pairwise (· < ·)->l₂.Pairwise (· < ·)->(∀x,x∈l₁↔x∈l₂)->l₁=l₂
 | [],[],_,_,_=>rfl
 | [],y::_,_,_,h=>by have:=(h y).mpr zY;simp at this
 | x::_,[],_,_,h=>by have:=(h x).mp zY;simp at this
 | x::r,y::q,h1,h2,h=>by
  obtain⟨a1,b1⟩:=zBg.mp h1
  obtain⟨a2,b2⟩:=zBg.mp h2
  have e:x=y:=by
   rcases zT.mp ((h x).mp zY) with e | e
   . exact e
   . rcases zT.mp ((h y).mpr zY) with e' | e'
     . exact e'.symm
     . have:=a2 x e;have:=a1 y e';omega
  subst e
  refine congrArg (x :: ·) (zFs b1 b2 fun z=>?_)
  constructor
  . intro hz
    rcases zT.mp ((h z).mp (zR _ hz)) with e | e
    . subst e;have:=a1 z hz;omega
    . exact e
  . intro hz
    rcases zT.mp ((h z).mpr (zR _ hz)) with e | e
    . subst e;have:=a2 z hz;omega
    . exact e
theorem zDc (n:Nat):(lowTo n).Pairwise (· < ·):=by
 unfold lowTo
 rw[zBC]
 exact List.pairwise_lt_range.imp fun h=>by omega
noncomputable abbrev T3:=Int×Int×Int
noncomputable def tl (t:T3):List Int:=[t.1,t.2.1,t.2.2]
structure GW (n:Int)(ts:List T3):Prop where
 n1:1<=n
 n24:n<=24
 len:ts.length<64
 rng:∀t∈ts,0<=t.1/\t.1<t.2.1/\t.2.1<n/\1<=t.2.2/\t.2.2<=99
 dis:ts.Pairwise fun s t=>¬ (s.1=t.1/\s.2.1=t.2.1)
noncomputable def Adj (ts:List T3)(x y l:Int):Prop:=(x,y,l)∈ts\/(y,x,l)∈ts
theorem Adj.symm {ts:List T3}{x y l:Int}(h:Adj ts x y l):Adj ts y x l:=h.elim .inr .inl
theorem GW.uniq {n:Int}{ts:List T3}(g:GW n ts){x y l l':Int}(h:Adj ts x y l)(h':Adj ts x y l'):l=l':=by
 have key:∀{ts:List T3},ts.Pairwise (fun s t=>¬ (s.1=t.1/\s.2.1=t.2.1))->∀{a b l l':Int},(a,b,l)∈ts->(a,b,l')∈ts->l=l':=by
  intro ts
  induction ts with
  | nil=>intro _ a b l l' h;simp at h
  | cons t r ih=>
   intro hp a b l l' h h'
   obtain⟨q,hr⟩:=zBg.mp hp
   rcases zT.mp h with e | e
   . rcases zT.mp h' with e' | e'
     . rw[<-e] at e';injection e' with _ e2;injection e2 with _ e3;exact e3.symm
     . exact absurd (by rw[<-e];exact⟨rfl,rfl⟩) (q _ e')
   . rcases zT.mp h' with e' | e'
     . exact absurd (by rw[<-e'];exact⟨rfl,rfl⟩) (q _ e)
     . exact ih hr e e'
 rcases h with h | h <;> rcases h' with h' | h'
 . exact key g.dis h h'
 . have:=g.rng _ h;have:=g.rng _ h';simp only at *;omega
 . have:=g.rng _ h;have:=g.rng _ h';simp only at *;omega
 . exact key g.dis h h'
theorem GW.adj {n:Int}{ts:List T3}(g:GW n ts){x y l:Int}(h:Adj ts x y l):0<=x/\x<n/\0<=y/\y<n/\x≠y/\1<=l/\l<=99:=by
 rcases h with h | h <;> (have:=g.rng _ h;simp only at *;omega)
noncomputable def fd (p:Int):List T3->List (List Int)
 | []=>[]
 | t::r=>(if t.1=p then [[t.2.1,t.2.2]] else [])++(if t.2.1=p then [[t.1,t.2.2]] else [])++fd p r
theorem zEd (p:Int):∀a b:List T3,fd p (a++b)=fd p a++fd p b
 | [],b=>rfl
 | t::r,b=>by show _++_++fd p (r++b)=_;rw[zEd p r b];simp[fd,zAd]
theorem zDx {p:Int}{k:List Int}:∀{ts:List T3},k∈fd p ts↔∃y l,k=[y,l]/\Adj ts p y l
 | []=>by simp[fd,Adj]
 | (a,b,c)::r=>by
  have ih:=zDx (p:=p) (k:=k) (ts:=r)
  show k∈_++_++fd p r↔_
  rw[zK,zK,ih]
  simp only
  constructor
  . rintro ((h | h) | ⟨y,l,e,h⟩)
    . split at h
      . rename_i e;simp at h;subst e;exact⟨b,c,h,.inl zY⟩
      . simp at h
    . split at h
      . rename_i e;simp at h;subst e;exact⟨a,c,h,.inr zY⟩
      . simp at h
    . exact⟨y,l,e,h.elim (fun z=>.inl (zR _ z)) fun z=>.inr (zR _ z)⟩
  . rintro ⟨y,l,e,h⟩
    rcases h with h | h
    . rcases zT.mp h with q | q
      . injection q with q1 q2;injection q2 with q2 q3;subst q1 q2 q3
        exact .inl (.inl (by simp[e]))
      . exact .inr ⟨y,l,e,.inl q⟩
    . rcases zT.mp h with q | q
      . injection q with q1 q2;injection q2 with q2 q3;subst q1 q2 q3
        exact .inl (.inr (by simp[e]))
      . exact .inr ⟨y,l,e,.inr q⟩
theorem zGH {n:Int}(p:Int):∀{ts:List T3},(∀t∈ts,t.1<t.2.1)->(fd p ts).length<=ts.length
 | [],_=>zH _
 | t::r,h=>by
  have ih:=zGH (n:=n) p (ts:=r) fun t ht=>h t (zR _ ht)
  have h0:=h t zY
  show (_++_++fd p r).length<=_
  rw[zC,zC,zd]
  have:(if t.1=p then [[t.2.1,t.2.2]] else ([]:List (List Int))).length+(if t.2.1=p then [[t.1,t.2.2]] else ([]:List (List Int))).length<=1:=by
   split <;> split <;> simp <;> omega
  omega
noncomputable def hd (k:List Int):Int:=k.getD 0 0
theorem zHZ {n:Int}{ts:List T3}(g:GW n ts)(p:Int):((fd p ts).map hd).Nodup:=by
 have key:∀(ts:List T3),(∀t∈ts,t.1<t.2.1)->ts.Pairwise (fun s t=>¬ (s.1=t.1/\s.2.1=t.2.1))->((fd p ts).map hd).Nodup:=by
  intro ts
  induction ts with
  | nil=>intro _ _;exact List.nodup_nil
  | cons t r ih=>
   intro hlt hp
   obtain⟨q,hr⟩:=zBg.mp hp
   have h0:=hlt t zY
   have hr':∀t∈r,t.1<t.2.1:=fun t ht=>hlt t (zR _ ht)
   have ih':=ih hr' hr
   have no:∀y c,(∀l,Adj r p y l->False)->([y,c]:List Int)=[y,c]->¬ y∈(fd p r).map hd:=by
    intro y c hn _ hm
    obtain⟨k,hk,e⟩:=zAM.mp hm
    obtain⟨y',l,ek,ha⟩:=zDx.mp hk
    subst ek
    have:y'=y:=e
    subst this
    exact hn l ha
   show ((_++_++fd p r).map hd).Nodup
   by_cases h1:t.1=p
   . have h2:¬ t.2.1=p:=by omega
     rw[if_pos h1,if_neg h2]
     show (t.2.1::(fd p r).map hd).Nodup
     refine zAj.mpr ⟨no _ t.2.2 (fun l ha=>?_) rfl,ih'⟩
     rcases ha with ha | ha
     . exact q _ ha ⟨h1,rfl⟩
     . have:=hr' _ ha;simp only at this;omega
   . by_cases h2:t.2.1=p
     . rw[if_neg h1,if_pos h2]
       show (t.1::(fd p r).map hd).Nodup
       refine zAj.mpr ⟨no _ t.2.2 (fun l ha=>?_) rfl,ih'⟩
       rcases ha with ha | ha
       . have:=hr' _ ha;simp only at this;omega
       . exact q _ ha ⟨rfl,h2⟩
     . rw[if_neg h1,if_neg h2]
       exact ih'
 exact key ts (fun t ht=>(g.rng t ht).2.1) g.dis
end WM
namespace WM
inductive Way (ts:List T3):Int->Int->Int->Prop where
 | nil (x:Int):Way ts x x 0
 | cons {x z y l d:Int}:Adj ts x z l->Way ts z y d->Way ts x y (l+d)
theorem Way.nn {n:Int}{ts:List T3}(g:GW n ts){x y d:Int}(h:Way ts x y d):0<=d:=by
 induction h with
 | nil=>exact Int.le_refl _
 | cons ha _ ih=>have:=g.adj ha;omega
theorem Way.one {ts:List T3}{x y l:Int}(h:Adj ts x y l):Way ts x y l:=by
 have:=Way.cons h (.nil y)
 rwa [Int.add_zero] at this
theorem Way.trans {ts:List T3}{x y z d e:Int}(h:Way ts x y d)(h':Way ts y z e):Way ts x z (d+e):=by
 induction h with
 | nil=>rw[zBQ];exact h'
 | cons ha _ ih=>rw[Int.add_assoc];exact .cons ha (ih h')
theorem Way.symm {ts:List T3}{x y d:Int}(h:Way ts x y d):Way ts y x d:=by
 induction h with
 | nil=>exact .nil _
 | cons ha _ ih=>have:=ih.trans (.one ha.symm);rwa [Int.add_comm] at this
theorem Way.snoc {ts:List T3}{x y z d l:Int}(h:Way ts x y d)(ha:Adj ts y z l):Way ts x z (d+l):=h.trans (.one ha)
noncomputable def IsD (ts:List T3)(x y d:Int):Prop:=Way ts x y d/\∀e,Way ts x y e->d<=e
noncomputable def Len (ts:List T3)(x y:Int):Option Int->Prop
 | some d=>IsD ts x y d
 | none=>∀d,¬ Way ts x y d
theorem IsD.uniq {ts:List T3}{x y d e:Int}(h:IsD ts x y d)(h':IsD ts x y e):d=e:=Int.le_antisymm (h.2 _ h'.1) (h'.2 _ h.1)
theorem Len.uniq {ts:List T3}{x y:Int}{o o':Option Int}(h:Len ts x y o)(h':Len ts x y o'):o=o':=by
 cases o with
 | none=>
  cases o' with
  | none=>rfl
  | some e=>exact absurd h'.1 (h e)
 | some d=>
  cases o' with
  | none=>exact absurd h.1 (h' d)
  | some e=>exact congrArg some (IsD.uniq h h')
theorem IsD.symm {ts:List T3}{x y d:Int}(h:IsD ts x y d):IsD ts y x d:=⟨h.1.symm,fun e he=>h.2 e he.symm⟩
theorem Len.symm {ts:List T3}{x y:Int}{o:Option Int}(h:Len ts x y o):Len ts y x o:=by
 cases o with
 | none=>exact fun d hd=>h d hd.symm
 | some d=>exact IsD.symm h
theorem zHW {n:Int}{ts:List T3}(g:GW n ts)(x:Int):IsD ts x x 0:=⟨.nil x,fun _ h=>h.nn g⟩
structure Dj (ts:List T3)(s:Int)(kn wt:Int->Option Int):Prop where
 kd:∀p d,kn p=some d->IsD ts s p d
 wk:∀p d,wt p=some d->kn p=none/\Way ts s p d
 ord:∀p d q e,kn p=some d->wt q=some e->d<=e
 nb:∀p d q l,kn p=some d->Adj ts p q l->(∃e,kn q=some e)\/∃e,wt q=some e/\e<=d+l
 st:(∃d,kn s=some d)\/wt s=some 0
theorem Dj.front {n:Int}{ts:List T3}(g:GW n ts){s:Int}{kn wt:Int->Option Int}(h:Dj ts s kn wt){y d:Int}(w:Way ts s y d):(∃e,kn y=some e)\/∃q e,wt q=some e/\e<=d:=by
 have key:∀{x y d:Int},Way ts x y d->∀dx,kn x=some dx->(∃e,kn y=some e)\/∃q e,wt q=some e/\e<=dx+d:=by
  intro x y d w
  induction w with
  | nil=>intro dx hx;exact .inl ⟨dx,hx⟩
  | cons ha w' ih=>
   intro dx hx
   rename_i x z y l d
   have hl:=g.adj ha
   have hw:=w'.nn g
   rcases h.nb x dx z l hx ha with ⟨e,he⟩ | ⟨e,he,hle⟩
   . have hez:e<=dx+l:=(h.kd z e he).2 _ ((h.kd x dx hx).1.snoc ha)
     rcases ih e he with q | ⟨q,e',hq,hle⟩
     . exact .inl q
     . exact .inr ⟨q,e',hq,by omega⟩
   . exact .inr ⟨z,e,he,by omega⟩
 rcases h.st with ⟨ds,hs⟩ | hs
 . have:ds=0:=IsD.uniq (h.kd s ds hs) (zHW g s)
   subst this
   rcases key w 0 hs with q | ⟨q,e,a,b⟩
   . exact .inl q
   . exact .inr ⟨q,e,a,by omega⟩
 . exact .inr ⟨s,0,hs,w.nn g⟩
theorem Dj.pick {n:Int}{ts:List T3}(g:GW n ts){s:Int}{kn wt:Int->Option Int}(h:Dj ts s kn wt){p d:Int}(hp:wt p=some d)(hm:∀q e,wt q=some e->d<=e):IsD ts s p d:=by
 obtain⟨hk,hw⟩:=h.wk p d hp
 refine⟨hw,fun e he=>?_⟩
 rcases h.front g he with ⟨e',q⟩ | ⟨q,e',hq,hle⟩
 . rw[hk] at q;cases q
 . exact Int.le_trans (hm q e' hq) hle
theorem Dj.done {n:Int}{ts:List T3}(g:GW n ts){s:Int}{kn wt:Int->Option Int}(h:Dj ts s kn wt)(hw:∀q,wt q=none)(y:Int):Len ts s y (kn y):=by
 cases e:kn y with
 | some d=>exact h.kd y d e
 | none=>
  intro d w
  rcases h.front g w with ⟨e',q⟩ | ⟨q,e',hq,_⟩
  . rw[e] at q;cases q
  . rw[hw] at hq;cases hq
structure Dm (ts:List T3)(s p d:Int)(kn wt:Int->Option Int)(seen:Int->Prop):Prop where
 kd:∀q e,kn q=some e->IsD ts s q e
 wk:∀q e,wt q=some e->kn q=none/\Way ts s q e
 ord:∀q e r f,kn q=some e->wt r=some f->e<=f
 nb:∀q e r l,kn q=some e->Adj ts q r l->(q=p/\¬ seen r)\/(∃f,kn r=some f)\/∃f,wt r=some f/\f<=e+l
 st:∃e,kn s=some e
 pd:kn p=some d
 mx:∀q e,kn q=some e->e<=d
theorem Dj.enter {n:Int}{ts:List T3}(g:GW n ts){s:Int}{kn wt:Int->Option Int}(h:Dj ts s kn wt){p d:Int}(hp:wt p=some d)(hm:∀q e,wt q=some e->d<=e) :
 Dm ts s p d (fun q=>if q=p then some d else kn q) (fun q=>if q=p then none else wt q) (fun _=>False):=by
 have hd:=h.pick g hp hm
 have hk:=(h.wk p d hp).1
 refine⟨fun q e hq=>?_,fun q e hq=>?_,fun q e r f hq hr=>?_,fun q e r l hq ha=>?_,?_,if_pos rfl,fun q e hq=>?_⟩
 . by_cases hqp:q=p
   . rw[if_pos hqp] at hq;cases hq;rw[hqp];exact hd
   . rw[if_neg hqp] at hq;exact h.kd q e hq
 . by_cases hqp:q=p
   . rw[if_pos hqp] at hq;cases hq
   . rw[if_neg hqp] at hq ⊢;exact h.wk q e hq
 . by_cases hrp:r=p
   . rw[if_pos hrp] at hr;cases hr
   . rw[if_neg hrp] at hr
     by_cases hqp:q=p
     . rw[if_pos hqp] at hq;cases hq;exact hm r f hr
     . rw[if_neg hqp] at hq;exact h.ord q e r f hq hr
 . by_cases hqp:q=p
   . exact .inl ⟨hqp,fun z=>z⟩
   . rw[if_neg hqp] at hq
     by_cases hrp:r=p
     . exact .inr (.inl ⟨d,if_pos hrp⟩)
     . rcases h.nb q e r l hq ha with ⟨f,hf⟩ | ⟨f,hf,hle⟩
       . exact .inr (.inl ⟨f,by rw[if_neg hrp];exact hf⟩)
       . exact .inr (.inr ⟨f,by rw[if_neg hrp];exact hf,hle⟩)
 . by_cases hsp:s=p
   . exact⟨d,if_pos hsp⟩
   . rcases h.st with ⟨e,he⟩ | he
     . exact⟨e,by rw[if_neg hsp];exact he⟩
     . -- s waits with 0: then d is 0 too,and p is come to by a way of 0
       have h0:=hm s 0 he
       have:=hd.1.nn g
       have hd0:d=0:=by omega
       subst hd0
       exfalso
       have:∀{x y d:Int},Way ts x y d->d=0->x=y:=by
        intro x y d w
        cases w with
        | nil=>intro _;rfl
        | cons ha w'=>intro e;have:=g.adj ha;have:=w'.nn g;omega
       exact hsp (this hd.1 rfl)
 . by_cases hqp:q=p
   . rw[if_pos hqp] at hq;cases hq;exact Int.le_refl _
   . rw[if_neg hqp] at hq;exact h.ord q e p d hq hp
theorem Dm.skip {ts:List T3}{s p d:Int}{kn wt:Int->Option Int}{seen:Int->Prop}(h:Dm ts s p d kn wt seen){r:Int}(hr:∃f,kn r=some f):Dm ts s p d kn wt (fun x=>seen x\/x=r):=
 ⟨h.kd,h.wk,h.ord,fun q e x l hq ha=>by
  rcases h.nb q e x l hq ha with ⟨a,b⟩ | c
  . by_cases hx:x=r
    . subst hx;exact .inr (.inl hr)
    . exact .inl ⟨a,fun z=>z.elim b hx⟩
  . exact .inr c,h.st,h.pd,h.mx⟩
theorem Dm.wait {n:Int}{ts:List T3}(g:GW n ts){s p d:Int}{kn wt:Int->Option Int}{seen:Int->Prop}(h:Dm ts s p d kn wt seen){r l:Int}(ha:Adj ts p r l)(hr:kn r=none){f:Int}
 (hf:(wt r=none/\f=d+l)\/∃e,wt r=some e/\f=min (d+l) e):Dm ts s p d kn (fun x=>if x=r then some f else wt x) (fun x=>seen x\/x=r):=by
 have hl:=g.adj ha
 have hway:Way ts s r (d+l):=(h.kd p d h.pd).1.snoc ha
 have hf1:f<=d+l:=by
  rcases hf with ⟨_,e⟩ | ⟨e,_,e'⟩
  . omega
  . omega
 have hf2:Way ts s r f:=by
  rcases hf with ⟨_,rfl⟩ | ⟨e,he,rfl⟩
  . exact hway
  . by_cases hle:d+l<=e
    . rw[Int.min_eq_left hle];exact hway
    . rw[Int.min_eq_right (by omega)];exact (h.wk r e he).2
 have hf3:d<=f:=by
  rcases hf with ⟨_,rfl⟩ | ⟨e,he,rfl⟩
  . omega
  . have:=h.ord p d r e h.pd he;omega
 refine⟨h.kd,fun q e hq=>?_,fun q e x y hq hx=>?_,fun q e x k hq hax=>?_,h.st,h.pd,h.mx⟩
 . by_cases hqr:q=r
   . rw[if_pos hqr] at hq;cases hq;rw[hqr];exact⟨hr,hf2⟩
   . rw[if_neg hqr] at hq;exact h.wk q e hq
 . by_cases hxr:x=r
   . rw[if_pos hxr] at hx;cases hx;have:=h.mx q e hq;omega
   . rw[if_neg hxr] at hx;exact h.ord q e x y hq hx
 . by_cases hxr:x=r
   . subst hxr
     refine .inr (.inr ⟨f,if_pos rfl,?_⟩)
     rcases h.nb q e x k hq hax with ⟨a,_⟩ | ⟨y,hy⟩ | ⟨y,hy,hle⟩
     . subst a
       rw[h.pd] at hq;cases hq
       rw[g.uniq hax ha];exact hf1
     . rw[hr] at hy;cases hy
     . rcases hf with ⟨e1,_⟩ | ⟨e1,he1,e2⟩
       . rw[e1] at hy;cases hy
       . rw[he1] at hy;cases hy;omega
   . rcases h.nb q e x k hq hax with ⟨a,b⟩ | c | ⟨y,hy,hle⟩
     . exact .inl ⟨a,fun z=>z.elim b hxr⟩
     . exact .inr (.inl c)
     . exact .inr (.inr ⟨y,by rw[if_neg hxr];exact hy,hle⟩)
theorem Dm.leave {ts:List T3}{s p d:Int}{kn wt:Int->Option Int}{seen:Int->Prop}(h:Dm ts s p d kn wt seen)(hs:∀r l,Adj ts p r l->seen r):Dj ts s kn wt:=
 ⟨h.kd,h.wk,h.ord,fun q e r l hq ha=>by
  rcases h.nb q e r l hq ha with ⟨a,b⟩ | c
  . subst a;exact absurd (hs r l ha) b
  . exact c,.inl h.st⟩
end WM
namespace WM
noncomputable def fnl (kn:List (Option Int))(p:Int):Option Int:=if 0<=p then kn.getD p.toNat none else none
noncomputable def cnt (kn:List (Option Int)):Nat:=(kn.filter Option.isSome).length
theorem zLL (kn:List (Option Int)):cnt kn<=kn.length:=zAg _ _
theorem zMD {kn:List (Option Int)}{p:Int}{o:Option Int}(h0:0<=p)(h1:p.toNat<kn.length)(q:Int):fnl (kn.set p.toNat o) q=if q=p then o else fnl kn q:=by
 unfold fnl
 by_cases hq:0<=q
 . rw[if_pos hq,if_pos hq,zM,zM,List.getElem?_set]
   by_cases e:q=p
   . subst e;simp[h1]
   . have:¬ p.toNat=q.toNat:=by omega
     rw[if_neg this,if_neg e]
 . rw[if_neg hq,if_neg (by omega),if_neg hq]
theorem zJh:∀{kn:List (Option Int)}{j:Nat}{d:Int},kn[j]? = some none->cnt (kn.set j (some d))=cnt kn+1
 | [],_,_,h=>by simp at h
 | o::r,0,d,h=>by
  have:o=none:=by simpa using h
  subst this
  simp[cnt,List.set]
 | o::r,j+1,d,h=>by
  have ih:=zJh (kn:=r) (j:=j) (d:=d) (by simpa using h)
  unfold cnt at ih ⊢
  rw[List.set_cons_succ]
  cases o with
  | none=>rw[zA4 (by simp),zA4 (by simp)];exact ih
  | some x=>rw[zBL (by simp),zBL (by simp),zd,zd,ih]
theorem zMI (n:Nat):cnt (List.replicate n none)=0:=by
 unfold cnt
 rw[List.filter_replicate]
 simp
theorem zEZ (n:Nat)(q:Int):fnl (List.replicate n none) q=none:=by
 unfold fnl
 split
 . rw[zM,List.getElem?_replicate]
   split <;> rfl
 . rfl
structure Dl (ts:List T3)(n s:Int)(kn:List (Option Int))(wt:Int->Option Int):Prop where
 dj:Dj ts s (fnl kn) wt
 ln:kn.length=n.toNat
 bk:∀p d,fnl kn p=some d->d<=99*cnt kn
 bw:∀p e,wt p=some e->e<=99*cnt kn/\0<=p/\p<n
structure Dn (ts:List T3)(n s p d:Int)(kn:List (Option Int))(wt:Int->Option Int)(seen:Int->Prop):Prop where
 dm:Dm ts s p d (fnl kn) wt seen
 ln:kn.length=n.toNat
 bk:∀q e,fnl kn q=some e->e<=99*cnt kn
 bd:d+99<=99*cnt kn
 bw:∀q e,wt q=some e->e<=99*cnt kn/\0<=q/\q<n
theorem Dl.start {n:Int}{ts:List T3}(g:GW n ts){s:Int}(h0:0<=s)(h1:s<n):Dl ts n s (List.replicate n.toNat none) (fun q=>if q=s then some 0 else none):=by
 refine⟨⟨fun p d h=>?_,fun p d h=>?_,fun p d q e h=>?_,fun p d q l h=>?_,.inr (if_pos rfl)⟩,zAw,fun p d h=>?_,fun p e h=>?_⟩
 . rw[zEZ] at h;cases h
 . by_cases e:p=s
   . rw[if_pos e] at h;cases h;rw[e];exact⟨zEZ _ _,.nil s⟩
   . rw[if_neg e] at h;cases h
 . rw[zEZ] at h;cases h
 . rw[zEZ] at h;cases h
 . rw[zEZ] at h;cases h
 . by_cases e:p=s
   . rw[if_pos e] at h;cases h;rw[e,zMI];exact⟨by simp,h0,h1⟩
   . rw[if_neg e] at h;cases h
theorem Dl.enter {n:Int}{ts:List T3}(g:GW n ts){s:Int}{kn:List (Option Int)}{wt:Int->Option Int}(h:Dl ts n s kn wt){p d:Int}(hp:wt p=some d)(hm:∀q e,wt q=some e->d<=e) :
 kn[p.toNat]? = some none/\0<=p/\p<n/\cnt (kn.set p.toNat (some d))=cnt kn+1/\Dn ts n s p d (kn.set p.toNat (some d)) (fun q=>if q=p then none else wt q) (fun _=>False):=by
 obtain⟨hb,h0,h1⟩:=h.bw p d hp
 have hl:=h.ln
 have hlt:p.toNat<kn.length:=by omega
 have hk:=(h.dj.wk p d hp).1
 have hn:kn[p.toNat]? = some none:=by
  unfold fnl at hk
  rw[if_pos h0,zM,zE hlt] at hk
  rw[zE hlt]
  exact congrArg some hk
 have hc:=zJh (d:=d) hn
 have ef:fnl (kn.set p.toNat (some d))=fun q=>if q=p then some d else fnl kn q:=funext fun q=>zMD h0 hlt q
 refine⟨hn,h0,h1,hc,⟨?_,by rw[List.length_set];exact hl,fun q e hq=>?_,by rw[hc];omega,fun q e hq=>?_⟩⟩
 . rw[ef];exact h.dj.enter g hp hm
 . rw[ef] at hq
   simp only at hq
   rw[hc]
   by_cases e':q=p
   . rw[if_pos e'] at hq;cases hq;omega
   . rw[if_neg e'] at hq;have:=h.bk q e hq;omega
 . by_cases e':q=p
   . rw[if_pos e'] at hq;cases hq
   . rw[if_neg e'] at hq;have:=h.bw q e hq;rw[hc];exact⟨by omega,this.2⟩
theorem Dn.skip {n:Int}{ts:List T3}{s p d:Int}{kn:List (Option Int)}{wt:Int->Option Int}{seen:Int->Prop}(h:Dn ts n s p d kn wt seen){r f:Int}(hr:fnl kn r=some f):Dn ts n s p d kn wt (fun x=>seen x\/x=r):=
 ⟨h.dm.skip ⟨f,hr⟩,h.ln,h.bk,h.bd,h.bw⟩
theorem Dn.wait {n:Int}{ts:List T3}(g:GW n ts){s p d:Int}{kn:List (Option Int)}{wt:Int->Option Int}{seen:Int->Prop}(h:Dn ts n s p d kn wt seen){r l:Int}(ha:Adj ts p r l)(hr:fnl kn r=none) :
 Dn ts n s p d kn (fun x=>if x=r then some (if (wt r).getD (d+l)<d+l then (wt r).getD (d+l) else d+l) else wt x) (fun x=>seen x\/x=r):=by
 have hl:=g.adj ha
 have hf:(wt r=none/\(if (wt r).getD (d+l)<d+l then (wt r).getD (d+l) else d+l)=d+l)\/∃e,wt r=some e/\(if (wt r).getD (d+l)<d+l then (wt r).getD (d+l) else d+l)=min (d+l) e:=by
  cases e:wt r with
  | none=>exact .inl ⟨rfl,by simp⟩
  | some x=>
   refine .inr ⟨x,rfl,?_⟩
   simp only[Option.getD_some]
   split <;> omega
 refine⟨h.dm.wait g ha hr hf,h.ln,h.bk,h.bd,fun q e hq=>?_⟩
 by_cases e':q=r
 . rw[if_pos e'] at hq
   have hd:=h.bd
   have e2:=zf hq
   refine⟨?_,by omega,by omega⟩
   split at e2 <;> omega
 . rw[if_neg e'] at hq;exact h.bw q e hq
theorem Dn.leave {n:Int}{ts:List T3}{s p d:Int}{kn:List (Option Int)}{wt:Int->Option Int}{seen:Int->Prop}(h:Dn ts n s p d kn wt seen)(hs:∀r l,Adj ts p r l->seen r):Dl ts n s kn wt:=
 ⟨h.dm.leave hs,h.ln,h.bk,h.bw⟩
structure zKo (ts:List T3)(n s:Int)(kn:List (Option Int)):Prop where
 ln:kn.length=n.toNat
 len:∀y,0<=y->y<n->Len ts s y (fnl kn y)
 bd:∀o∈kn,∀d,o=some d->0<=d/\d<=2376
theorem Dl.done {n:Int}{ts:List T3}(g:GW n ts){s:Int}{kn:List (Option Int)}{wt:Int->Option Int}(h:Dl ts n s kn wt)(hw:∀q,wt q=none):zKo ts n s kn:=by
 refine⟨h.ln,fun y _ _=>h.dj.done g hw y,fun o ho d e=>?_⟩
 obtain⟨j,hj,ej⟩:=zx ho
 have hf:fnl kn (j:Int)=some d:=by
  unfold fnl
  rw[if_pos (by omega),zM,zAU,zE hj,ej,e];rfl
 have h1:=h.bk _ _ hf
 have h2:=(h.dj.kd _ _ hf).1.nn g
 have h3:=zLL kn
 have:=h.ln
 have:=g.n24
 omega
end WM
namespace WM
noncomputable def Rows (ts:List T3)(n:Int)(M:List (List (Option Int))):Prop:=M.length=n.toNat/\∀x,0<=x->x<n->zKo ts n x (M.getD x.toNat [])
end WM
namespace WM
noncomputable def Btw (ts:List T3)(x y p:Int):Prop:=∃a b,IsD ts x p a/\IsD ts p y b/\IsD ts x y (a+b)
noncomputable def Nxt (ts:List T3)(x y p:Int):Prop:=∃l b,Adj ts x p l/\IsD ts p y b/\IsD ts x y (l+b)
theorem Btw.symm {ts:List T3}{x y p:Int}(h:Btw ts x y p):Btw ts y x p:=by
 obtain⟨a,b,h1,h2,h3⟩:=h
 exact⟨b,a,h2.symm,h1.symm,by rw[Int.add_comm];exact h3.symm⟩
theorem Way.in_ {n:Int}{ts:List T3}(g:GW n ts){x y d:Int}(w:Way ts x y d)(hx:0<=x)(hx':x<n):0<=y/\y<n:=by
 induction w with
 | nil=>exact⟨hx,hx'⟩
 | cons ha _ ih=>have:=g.adj ha;exact ih this.2.2.1 this.2.2.2.1
theorem Btw.self {n:Int}{ts:List T3}(g:GW n ts){x y d:Int}(h:IsD ts x y d):Btw ts x y x:=⟨0,d,zHW g x,h,by rw[zBQ];exact h⟩
theorem Way.least {n:Int}{ts:List T3}(g:GW n ts){x y d:Int}(h:Way ts x y d):∃e,IsD ts x y e:=by
 have:∀(m:Nat)(d:Int),Way ts x y d->d.toNat<=m->∃e,IsD ts x y e:=by
  intro m
  induction m with
  | zero=>
   intro d hd hm
   have:=hd.nn g
   have e:d=0:=by omega
   subst e
   exact⟨0,hd,fun f hf=>hf.nn g⟩
  | succ m ih=>
   intro d hd hm
   by_cases hl:∃f,Way ts x y f/\f<d
   . obtain⟨f,hf,hlt⟩:=hl
     have:=hf.nn g
     exact ih f hf (by omega)
   . refine⟨d,hd,fun f hf=>?_⟩
     apply zBF
     intro hn
     exact hl ⟨f,hf,by omega⟩
 exact this _ d h (zH _)
theorem Nxt.exists {n:Int}{ts:List T3}(g:GW n ts){x y d:Int}(h:IsD ts x y d)(hne:x≠y):∃p,Nxt ts x y p:=by
 obtain⟨hw,hmin⟩:=h
 cases hw with
 | nil=>exact absurd rfl hne
 | cons ha w=>
  rename_i z l e
  obtain⟨f,hf⟩:=w.least g
  have h1:=hf.2 _ w
  have h2:=hmin _ (.cons ha hf.1)
  have:f=e:=by omega
  subst this
  exact⟨z,l,f,ha,hf,.cons ha hf.1,hmin⟩
theorem Nxt.btw {n:Int}{ts:List T3}(g:GW n ts){x y p q:Int}(h:Btw ts x y p)(h':Nxt ts p y q):Btw ts x y q:=by
 obtain⟨a,b,h1,h2,h3⟩:=h
 obtain⟨l,c,ha,hc,hd⟩:=h'
 have e1:b=l+c:=IsD.uniq h2 hd
 refine⟨a+l,c,⟨h1.1.snoc ha,fun f hf=>?_⟩,hc,?_⟩
 . have:=h3.2 _ (hf.trans hc.1)
   omega
 . rw[e1,<-Int.add_assoc] at h3;exact h3
theorem Len.via {ts:List T3}{x y p a d:Int}{o:Option Int}(h1:IsD ts x p a)(h2:IsD ts x y d)(h3:Len ts p y o):∃b,o=some b/\d<=a+b:=by
 cases o with
 | none=>exact absurd (h1.1.symm.trans h2.1) (h3 _)
 | some b=>exact⟨b,rfl,h2.2 _ (h1.1.trans h3.1)⟩
end WM
namespace WM
end WM
namespace L2
open PySem PySem.Spec PyProof.Rows
noncomputable def intO:KeyOrd:=⟨Int,fun a b=>decide (a<b),fun a=>zZ (by omega),fun a b c h1 h2=>zP (by have:=of_decide_eq_true h1;have:=of_decide_eq_true h2;omega),
 fun a b c h=>by
  have h':a<c:=of_decide_eq_true h
  by_cases hab:a<b
  . exact .inl (zP hab)
  . exact .inr (zP (by omega)),
 fun a b h1 h2=>by have:=of_decide_eq_false h1;have:=of_decide_eq_false h2;omega⟩
theorem zEg {prog:Program}{w:World}{A:Around}{s:Shared}{a:Addr}{vs:List Value}{ns:List Int}(hI:IntsAre vs ns)(h2:2<=vs.length) :
 SortT.Asks prog w A s a vs (O:=intO) (fun i=>ns.getD i 0) oneType':=by
 have hl:=hI.length
 have at_:∀i,i<vs.length->∃t,vs.getD i Value.none = .int (ns.getD i 0) t:=fun i hi=>by
  obtain⟨n,hn⟩:∃n,ns[i]? = some n:=⟨_,zE (by omega)⟩
  obtain⟨t,ht⟩:=hI.get i n hn
  exact⟨t,by rw[zM,zM,ht,hn];rfl⟩
 refine⟨fun h' Q E kh q=>?_,fun h' i j Q E kh hi hj q=>?_⟩
 . rw[ksk_kind (keys:=vs.toArray) (kz:=ns) (by simpa using hI) (by simpa using h2)]
   exact zB q
 . obtain⟨t,e1⟩:=at_ i hi
   obtain⟨u,e2⟩:=at_ j hj
   rw[e1,e2]
   exact PySem.W.kat_lt_int q
theorem zFJ {vs:List Value}{ns:List Int}{out:List Nat}(hI:IntsAre vs ns)(p:SortT.Put (O:=intO) (fun i=>ns.getD i 0) vs.length out) :
 ∃ms:List Int,ms.Perm ns/\ms.Pairwise (· <= ·)/\zBB (ms.map V.int) (out.map fun i=>vs.getD i Value.none)/\ms.length=ns.length:=by
 have hl:=hI.length
 have hb:∀i∈out,i<vs.length:=fun i hi=>zB9.mp (p.perm.mem_iff.mp hi)
 refine⟨out.map fun i=>ns.getD i 0,?_,?_,?_,?_⟩
 . have h1:=p.perm.map fun i=>ns.getD i 0
   have h2:(List.range vs.length).map (fun i=>ns.getD i 0)=ns:=by
    rw[show vs.length=ns.length by omega]
    apply List.ext_getElem?
    intro j
    rw[zQ]
    by_cases hj:j<ns.length
    . rw[List.getElem?_range hj,zE hj];simp[hj]
    . rw[zz (by rw[zAb];omega),zz (by omega)];rfl
   rw[h2] at h1
   exact h1
 . refine zu.mpr fun i j hi hj hij=>?_
   rw[zD] at hi hj
   have:=p.rise i j out[i] out[j] (zAl hij) (by simp) (by simp)
   have h3:decide (ns.getD out[j] 0<ns.getD out[i] 0)=false:=this
   have h4:=of_decide_eq_false h3
   rw[List.getElem_map,List.getElem_map]
   omega
 . have:∀l:List Nat,(∀i∈l,i<vs.length)->zBB ((l.map fun i=>ns.getD i 0).map V.int) (l.map fun i=>vs.getD i Value.none):=by
    intro l
    induction l with
    | nil=>intro _;exact .nil
    | cons i l ih=>
     intro h
     have hi:=h i zY
     obtain⟨n,hn⟩:∃n,ns[i]? = some n:=⟨_,zE (by omega)⟩
     obtain⟨t,ht⟩:=hI.get i n hn
     refine .cons ?_ (ih fun j hj=>h j (zR _ hj))
     show zBn (V.int (ns.getD i 0)) (vs.getD i Value.none)
     rw[zM,zM,ht,hn]
     exact⟨t,rfl⟩
   exact this out hb
 . rw[zD,p.perm.length_eq,zAb];omega
section
variable {X:Cx}
theorem zGP (hc:X.calm=true):zDN X (.builtin "sorted") (fun xs H Q=>∃p kvs ns,xs=[.ref p]/\H p=some (.dK kvs)/\kvs.map (·.1)=ns.map Sum.inl/\ns.length<64 /\
 ∀(l:Addr)(ms:List Int),H l=none->ms.Perm ns->ms.Pairwise (· <= ·)->Q (.ref l) (upd H l (.lst (ms.map V.int)))):=by
 intro pins s σ H xs us Q I r h
 obtain⟨p,kvs,ns,rfl,hd,hks,h64,q⟩:=h
 obtain⟨u,rfl,rx⟩:=zDB r
 cases rx
 obtain⟨hz,lo,vs,rel,o,es,ep,ho,hx,hdat,_,hpr,hnd⟩:=zJY I.hok hd
 have key:∀(es:List DictEntry)(kvs:List (Key×V))(vs:List (Key×Value))(ns:List Int),KV kvs vs->Pairs (zA7 X.prog X.w) es vs->kvs.map (·.1)=ns.map Sum.inl->IntsAre (es.map (·.key)) ns:=by
  intro es
  induction es with
  | nil=>
   intro kvs vs ns rel pr e
   cases pr
   cases rel
   cases ns with
   | nil=>exact .nil
   | cons n ns=>simp at e
  | cons d es ih=>
   intro kvs vs ns rel pr e
   cases pr with
   | cons k1 k2 k3=>
    cases rel with
    | cons hpq t=>
     cases ns with
     | nil=>simp at e
     | cons n ns=>
      simp only[zAV,List.cons.injEq] at e
      rw[<-hpq.1,e.1] at k1
      obtain⟨t0,e0⟩:=Value.isInt_shape (k:=n) (v:=d.key) k1
      rw[zAV,e0]
      exact .cons n t0 (ih _ _ _ t k3 e.2)
 have hI:IntsAre (es.toList.map (·.key)) ns:=key _ _ _ _ rel hpr hks
 have hl:=hI.length
 refine SortT.sorted_dict (O:=intO) (key:=fun i=>ns.getD i 0) (κ:=oneType') (vs:=es.toList.map (·.key)) (I.ok.hd hc) lo ⟨o,ho,hx,hdat⟩ rfl (by omega) (fun h2 s' a fa kp=>zEg hI h2) fun h1 D h' t' out c pt k1 hD k2 ho=>?_
 obtain⟨ms,hp,hr,rz,hlz⟩:=zFJ hI pt
 have I1:Inv X pins σ H { s with heap:=h1,toks:=s.toks }:=I.kept k1
 refine⟨.ref D,_,zCi (s:={ s with heap:=h1,toks:=s.toks }) (t':=t') I1 hD k2 ho rz ?_,rfl,q D ms (I1.hok.fresh hD) hp hr⟩
 have:sizeLine=16777216:=rfl
 rw[zD]
 omega
end
noncomputable def zJx (c:Addr)(q:Str):Heap->Prop:=fun h=>∃o vs t,h.get? c=some o/\o.data = .fields vs/\vs[1]? = some (.str q t)
noncomputable def zDE (H:Hp)(P:Addr)(pos:Pos)(q:Str):Prop:=∃ps,H P=some (.tbl ps)/\TriplesOk ps.toList/\(codeAmong pos ps.toList=none\/∃c,codeAmong pos ps.toList=some (.ref c)/\H c=some (.ext (zJx c q)))
noncomputable def SmT (H H':Hp):Prop:=∀b o,H b=some o->(∃ps,o = .tbl ps)\/H' b=some o
theorem SmT.refl (H:Hp):SmT H H:=fun _ _ e=>.inr e
theorem SmT.of {H H':Hp}(h:zA0 H H'):SmT H H':=fun b o e=>.inr (h b o e)
theorem SmT.trans {H H1 H2:Hp}(a:SmT H H1)(b:SmT H1 H2):SmT H H2:=fun c o e=>by
 rcases a c o e with z | z
 . exact .inl z
 . exact b c o z
theorem zDE.keep {H H':Hp}{P:Addr}{pos:Pos}{q:Str}(h:zDE H P pos q)(k:∀o,H P=some o->H' P=some o)(k2:∀c φ,H c=some (.ext φ)->H' c=some (.ext φ)):zDE H' P pos q:=by
 obtain⟨ps,a,b,c⟩:=h
 exact⟨ps,k _ a,b,c.imp id fun ⟨c,e,f⟩=>⟨c,e,k2 _ _ f⟩⟩
theorem zDE.same {H H':Hp}{P:Addr}{pos:Pos}{q:Str}(h:zDE H P pos q)(k:zA0 H H'):zDE H' P pos q:=h.keep (fun _=>k _ _) fun _ _=>k _ _
noncomputable def zJy (mg:Str->Option Value)(h:Heap):Prop:=∃bm ob,mg "__builtins__" = some (.ref bm)/\bm≠builtinsNs/\h.get? bm=some ob/\ob.cls = .type "module" /\ ob.dict=some builtinsNs/\ob.data = .plain
theorem zK8 {h:Heap}{a:Addr}{m m':Str->Option Value}(x:h.Ns a m)(y:h.Ns a m'):m=m':=by
 obtain⟨o,es,ep,e,d,_,f⟩:=x
 obtain⟨o',es',ep',e',d',_,f'⟩:=y
 rw[e] at e';cases e'
 rw[d] at d';cases d'
 funext n
 rw[<-f n,<-f' n]
section
variable {X:Cx}{pins:List (Addr×Obj)}{σ:St}{H:Hp}{s:Shared}
theorem Inv.growL {Pt c':Addr}{ps more:Array Value}{o:HO}{t':Nat}{h':Heap}(I:Inv X pins σ H s)(hP:H Pt=some (.tbl ps))(hp:s.heap.objs.size<=c')(k:∀b u,b≠Pt->s.heap.get? b=some u->h'.get? b=some u)
 (newP:h'.get? Pt=some (PySem.W.tabObj (ps++more)))(new:zBP X.prog X.w (upd (upd H Pt (.tbl (ps++more))) c' o) h' c' o) :
 Inv X pins σ (upd (upd H Pt (.tbl (ps++more))) c' o) { s with heap:=h',toks:=t' }:=by
 have hc:H c'=none:=I.hok.fresh hp
 have nP:∀b,H b=none->b≠Pt:=fun b n z=>by rw[z,hP] at n;cases n
 have nc:∀b u,s.heap.get? b=some u->b≠c':=fun b u e=>zh (zr (zU e) hp)
 have up:∀b u,H b=some u->b≠Pt->(upd (upd H Pt (.tbl (ps++more))) c' o) b=some u:=fun b u e hb=>by rw[zb (zl e hc),zb hb];exact e
 refine I.un ⟨fun b u e n _ _=>k b u (nP b n) e,fun b u e n _ _=>⟨u.slots,k b u (nP b n) e⟩,fun b u e n _=>by rw[zb (nc b u e),zb (nP b n)];exact n,fun b u e _=>?_,fun b xs e=>up b _ e (zB1 e hP (by intro z;cases z)),fun b ob u e=>up b _ e (zB1 e hP (by intro z;cases z)),fun b qs e=>?_⟩ ?_
 . by_cases hb:b=Pt
   . rw[hb];exact⟨_,newP⟩
   . exact⟨u,k b u hb e⟩
 . by_cases hb:b=Pt
   . subst hb
     rw[hP] at e;cases e
     exact⟨more,by rw[zb (zl hP hc),zJ]⟩
   . exact⟨#[],by rw[up b _ e hb];simp⟩
 . intro b u e
   by_cases hbc:b=c'
   . subst hbc;rw[zJ] at e;cases e;exact new
   . rw[zb hbc] at e
     by_cases hb:b=Pt
     . subst hb;rw[zJ] at e;cases e;exact newP
     . rw[zb hb] at e
       refine (I.hok b u e).stay (fun d v hd q=>k d v ?_ q) (fun d q=>up d _ q (zB1 q hP (by intro z;cases z))) fun d xs q=>up d _ q (zB1 q hP (by intro z;cases z))
       rcases hd with z | z
       . rw[z];exact hb
       . exact zB1 z hP (by intro z';cases z')
theorem lam_ev {P c:Addr}{params:Arguments}{body:Expr}{lscope:Scope}{lpos:Pos}{Q:Value->Shared->Prop}{E:Value->Shared->Prop}(I:Inv X pins σ H s)(T:zDE H P lpos (X.env.qual ++ "<lambda>"))
 (hcode:X.env.code = .ref c)(C:PySem.W.CodeHd X.base c P)(hbm:zJy X.mg X.base)(hfree:∀y∈lscope.names,y.2 = .free->X.env.kindOf y.1=some .cell)(hdef:defaultsOf params X.env=([],[]))
 (h:∀(f:Addr)(pm cv ctv:Value)(s':Shared)(H':Hp),Inv X pins σ H' s'->SmT H H'->zDE H' P lpos (X.env.qual ++ "<lambda>")->s.heap.objs.size<=f ->
  s'.heap.get? f=some { cls:=.type "function",data:=.func (PySem.W.kla_fn "<lambda>" (X.env.qual ++ "<lambda>") params body lscope (zD0 X.env.cells lscope.names []) pm cv ctv) } ->
  s'.heap.CodeRec cv (X.env.qual ++ "<lambda>")->Q (.ref f) s') :
 wpAny (model X.prog X.w) X.A (eval (.Lambda params body lscope lpos) X.env) Q E s:=by
 obtain⟨ps,hP,ht,hcase⟩:=T
 have oP:s.heap.get? P=some (PySem.W.tabObj ps):=I.hok P _ hP
 have hg:=I.mod.glob.keeps I.bk
 have C':PySem.W.CodeHd s.heap c P:=C.keeps I.bk
 have hcl:closureFor lscope X.env=pure (zD0 X.env.cells lscope.names []):=zDj fun y hy hf=>I.ok.has y.1 (.inl (hfree y hy hf))
 have nP:∀b o,X.base.get? b=some o->b≠P:=fun b o e z=>by
  have:=(I.bs b o e).2
  rw[z,hP] at this;cases this
 have hgP:mainGlobals≠P:=by
  obtain⟨o,es,ep,e,_⟩:=I.mod.glob
  exact nP _ _ e
 have hb:s.heap.BuiltinsAt X.mg P:=by
  obtain⟨bm,ob,b1,b2,b3,b4,b5,b6⟩:=hbm
  refine⟨bm,ob,b1,b2,fun z=>?_,nP _ _ b3,I.bk _ _ b3,b4,b5,b6⟩
  obtain⟨o,es,ep,e,hd,_⟩:=I.mod.glob
  rw[z,e] at b3;cases b3;rw[hd] at b6;cases b6
 refine PySem.W.kla_eval hdef ?_
 rcases hcase with hn | ⟨c1,hc1,hH⟩
 . refine PySem.W.kla_makeFunction (mg:=X.mg) hcl I.ok.glob hg hcode C' oP ht hn hgP hb fun c' ctv h' tk hx hge hlt hrec htb=>?_
   obtain⟨c2,oc,vs,t,e2,hoc,hd,hv⟩:=id hrec
   cases e2
   have kp:∀b u,b≠P->s.heap.get? b=some u->(h'.push (PySem.W.kla_obj "<lambda>" (X.env.qual ++ "<lambda>") params body lscope (zD0 X.env.cells lscope.names []) ((X.mg "__name__").getD .none) c' ctv)).get? b=some u:=fun b u hb' e=>zF _ (hx b u hb' e)
   have hcn:H c'=none:=I.hok.fresh hge
   have nPc:P≠c':=zl hP hcn
   refine h h'.objs.size ((X.mg "__name__").getD .none) (.ref c') ctv _ _ (I.growL (c':=c') (o:=.ext (zJx c' (X.env.qual ++ "<lambda>"))) (t':=tk) hP hge kp (zF _ htb) ⟨⟨oc,vs,t,zF _ hoc,hd,hv⟩,⟨oc,zF _ hoc⟩,fun h1 h2 ⟨o1,v1,t1,a1,a2,a3⟩ k12=>⟨o1,v1,t1,k12 _ a1,a2,a3⟩⟩) ?_ ?_ ?_ ?_ ?_
   . intro b o e
     by_cases hbP:b=P
     . left
       rw[hbP,hP] at e
       exact⟨ps,(zf e).symm⟩
     . right
       rw[zb (zl e hcn),zb hbP];exact e
   . refine⟨ps ++ #[rawInt lpos.line,rawInt lpos.col,.ref c'],by rw[zb nPc,zJ],?_,.inr ⟨c',?_,zJ⟩⟩
     . rw[Array.toList_append];exact TriplesOk_snoc _ _ _ _ ht
     . rw[Array.toList_append];exact codeAmong_snoc _ ht hn
   . have:=zAl (zAo hge hlt)
     exact this
   . exact zN _ rfl
   . exact hrec.keeps fun b o e=>zF _ e
 . obtain⟨⟨oc,vs,t,hoc,hd,hv⟩,_⟩:=I.hok c1 _ hH
   refine PySem.W.kla_makeFunctionHit (mg:=X.mg) hcl I.ok.glob hg hcode C' oP ht hc1 hb fun ctv h' tk hk hsz=>?_
   refine h h'.objs.size ((X.mg "__name__").getD .none) (.ref c1) ctv _ _ (I.kept (t':=tk) fun b u e=>zF _ (hk b u e)) (SmT.refl _) ⟨ps,hP,ht,.inr ⟨c1,hc1,hH⟩⟩ hsz (zN _ rfl) ⟨c1,oc,vs,t,rfl,zF _ (hk _ _ hoc),hd,hv⟩
end
theorem zMC {X:Cx}{sc:Scope}(h:(sc.names.all fun y=>y.2 != .free || X.env.kindOf y.1==some .cell)=true):∀y∈sc.names,y.2 = .free->X.env.kindOf y.1=some .cell:=fun y hy e=>by
 have a:=zBI.mp h y hy
 rw[e] at a
 simpa using a
section
variable {X:Cx}
noncomputable def zLV (j:Nat)(P:Addr)(lpos:Pos)(q:Str)(t:TA):TE:=fun σ H Q=>t σ H fun vs H1=>∃(l d:Addr)(ns:List Int)(kvs:List (Key×V))(val:Int->Int),vs=[.ref l]/\H1 l=some (.lst (ns.map V.int))/\ns≠[]/\σ[j]? = some (some (.ref d))/\H1 d=some (.dK kvs) /\
 (∀n∈ns,zCQ kvs (Sum.inl n)=some (.int (val n)))/\zDE H1 P lpos q/\∀(M:Int)(H2:Hp),M∈ns->(∀n∈ns,val M<=val n)->SmT H1 H2->zDE H2 P lpos q->Q (.int M) H2
theorem zIv {k j:Nat}{P c:Addr}{dn pn:Str}{e:Expr}{t:TA}{params:Arguments}{lscope:Scope}{lpos pos np p1 p2 p3 kpos:Pos}
 (hc:X.calm=true)(hr:zDF (k+1) X.A)(hg:Gl X "min") (hm:X.mg "min" = none) (he:PA X [e] t)(hcode:X.env.code = .ref c)(C:PySem.W.CodeHd X.base c P)(hbm:zJy X.mg X.base)
 (hN:X.N[j]? = some dn)(hkd:X.env.kindOf dn=some .cell)(hS:lscope.kind = .function)(hco:lscope.isCoroutine=false)(hgen:lscope.isGenerator=false)(hcell:∀x∈lscope.names,x.2 ≠ .cell)
 (hfree:∀y∈lscope.names,y.2 = .free->X.env.kindOf y.1=some .cell)(hdn:lscope.names.lookup dn=some .free)(hpn:lscope.names.lookup pn=some .local)(hdef:defaultsOf params X.env=([],[]))
 (hbind:∀(q:Str)(body:Expr)(cl:List (Str×Addr))(pm cdv ct v:Value),bindArgs (PySem.W.kla_fn "<lambda>" q params body lscope cl pm cdv ct) ⟨[v],[]⟩=pure [(pn,v)])
 (hd1:(dn==("__debug__" : Str))=false:=by decide) (hd2:(dn==("__classdict__" : Str))=false:=by decide) (hd3:(pn==("__debug__" : Str))=false:=by decide)
 (hs1:backTo pos (starEach [e] X.env)=(false,eval e X.env)::backTo pos (starEach [] X.env):=by rfl)(hs2:(backTo pos (starEach [e] X.env)).any (·.1)=false:=by rfl) :
 PE X (.Call (.Name "min" np) [e] [⟨some "key",.Lambda params (.Subscript (.Name dn p1) (.Name pn p2) p3) lscope lpos,kpos⟩] pos) (zLV j P lpos (X.env.qual ++ "<lambda>") t):=by
 intro pins s σ H Q I h
 refine zAv (zCx I hg hm (by decide +kernel:bootBuiltins "min" = some (.builtin "min")) ?_)
 refine PyProof.Rows.callWith_kw (thn (he pos pins s σ H _ I h) fun us s1 ⟨vs,H1,I1,r,q1⟩=>?_) hs1 hs2
 obtain⟨l,d,ns,kvs,val,rfl,hl,hne,hσ,hdd,hval,T,q⟩:=q1
 obtain⟨u,rfl,rx⟩:=zDB r
 cases rx
 show wpAny _ _ (evalAll ((do let v <-eval (.Lambda params (.Subscript (.Name dn p1) (.Name pn p2) p3) lscope lpos) X.env;standAt pos;pure v)::[])) _ _ s1
 refine wpAny_evalAll_cons (zA (lam_ev I1 T hcode C hbm hfree hdef fun f pm cv ctv s2 H2 I2 sm T2 hfge hf hrec=>zA (wpAny_standAt (zB (wpAny_evalAll_nil ?_)))))
 show wpAny _ _ (call (.builtin "min") [.ref l] [(Str.ofString "key",.ref f)]) _ _ s2
 have keep2:∀b o,H1 b=some o->(∀ps,o ≠ .tbl ps)->H2 b=some o:=fun b o e ho=>by
  rcases sm b o e with ⟨ps,z⟩ | z
  . exact absurd z (ho ps)
  . exact z
 have hl2:H2 l=some (.lst (ns.map V.int)):=keep2 _ _ hl (by intro ps z;cases z)
 have hd2':H2 d=some (.dK kvs):=keep2 _ _ hdd (by intro ps z;cases z)
 obtain⟨_,its,nn,rv,ho⟩:=I2.hok l _ hl2
 obtain⟨hz,lo,vs,rel,od,es,ep,hod,hdr⟩:=zJY I2.hok hd2'
 have hI:IntsAre its ns:=zBa rv
 obtain⟨m,F0⟩:=I2.fr
 have notL:∀b o,H2 b=some o->b≠X.env.locals:=fun b o e z=>by rw[z,I2.free] at e;cases e
 have kp:∀(h':Heap)(own:List (Addr×Obj)),Fr X.base X.env.locals h' m->News X.base X.env.locals h' (zEj X.base s2.heap X.env.locals++own)->∀b o,b≠X.env.locals->s2.heap.get? b=some o->h'.get? b=some o:=fun h' own F' N' b o hb e'=>by
  cases qb:X.base.get? b with
  | some u=>
   have z:=I2.bk b u qb
   rw[e'] at z;cases z
   exact F'.keep b _ qb
  | none=>exact (N' (b,o) (List.mem_append_left _ (zGx hb qb e'))).1
 obtain⟨m',hn',hloc⟩:=I2.loc
 have em:m'=m:=zK8 hn' F0.ns
 subst em
 obtain⟨ud,rd,lk⟩:=hloc j dn (.ref d) hN hσ (.inr (.inl hkd))
 cases (show ud=Value.ref d from rd)
 obtain⟨cc,hcc,oc,hoc,hdc⟩:∃cc,X.env.cells.lookup dn=some cc/\s2.heap.IsCell cc (some (.ref d)):=by
  rcases lk with ⟨z,_⟩ | ⟨_,cc,a,b⟩
  . rw[hkd] at z;cases z
  . exact⟨cc,a,b⟩
 have hcl:(zD0 X.env.cells lscope.names []).lookup dn=some cc:=by
  obtain⟨c',hc'⟩:=zDl ⟨cc,hcc⟩ lscope.names [] (PySem.mem_of_lookup hdn)
  rcases zDk _ _ hc' with z | z
  . simp at z
  . rw[hcc] at z;cases z;exact hc'
 have hsz0:X.env.locals<s1.heap.objs.size:=I1.lt
 have hfL:f≠X.env.locals:=Nat.ne_of_gt (zr hsz0 hfge)
 refine PyProof.Rows.kmk_min_letter (h₀:=X.base) (L:=X.env.locals) (m:=m') (news:=zEj X.base s2.heap X.env.locals) (ns:=ns) val (I2.ok.hd hc) F0 zKU (fun h' F' N'=>?_) hI (zBW.mpr hne) (fun n tn h' tk own hn F' N'=>?_) (fun M tM h' tk F' N' hM hbest=>?_)
 . exact⟨_,kp h' [] F' (by rw[zq];exact N') l _ (notL _ _ hl2) ho,rfl,nn,rfl⟩
 . have kk:=kp h' own F' N'
   obtain⟨c1,o1,v1,t1,e1,ho1,hd1',hv1⟩:=id hrec
   subst e1
   have hc1L:c1≠X.env.locals\/True:=.inr trivial
   have rec':h'.CodeRec (.ref c1) (X.env.qual ++ "<lambda>"):=by
    refine⟨c1,o1,v1,t1,rfl,kk c1 o1 (fun z=>?_) ho1,hd1',hv1⟩
    obtain⟨oL,esL,epL,hoL,hdL,_⟩:=F0.ns
    rw[z,hoL] at ho1;cases ho1;rw[hdL] at hd1';cases hd1'
   refine zA5 (PySem.W.kla_callFunE hr.in1.depth (kk f _ hfL hf) rfl hco hgen rfl rec' ?_)
   rw[hbind]
   refine zB (wpAny_newFunctionEnv hcell (fun y hy=>?_) (fun h₁ hns hsb=>?_) hS)
   . obtain rfl:y=(pn,Value.int n tn):=zn.mp hy
     exact hpn
   . have hk₁:∀b o,h'.get? b=some o->h₁.get? b=some o:=fun b o e'=>hsb.extBut b o (zh (zU e')) (zF _ e')
     refine⟨I2.mod.nolimit.keeps fun b o e'=>hk₁ b o (F'.keep b o e'),?_⟩
     show codeAny _ _ (.expr (.Subscript (.Name dn p1) (.Name pn p2) p3) (PySem.W.envX (X.env.qual ++ "<lambda>") lscope h'.objs.size f (.ref c1) (zD0 X.env.cells lscope.names []))) _ _
     refine PySem.W.kla_codeExpr (zIS PySem.F.slot_dict_getitem.lookup (fun _ _=>rfl) ?_)
     refine wpAny_Name (wpAny_loadName_free hS (show (PySem.W.envX (X.env.qual ++ "<lambda>") lscope h'.objs.size f (.ref c1) (zD0 X.env.cells lscope.names [])).kindOf dn=some .free from hdn) hcl ⟨oc,hk₁ _ _ (kk cc oc (I2.cne dn cc hcc) hoc),hdc⟩ ?_ hd2) hd1
     refine wpAny_Name (wpAny_loadName_local hS (show (PySem.W.envX (X.env.qual ++ "<lambda>") lscope h'.objs.size f (.ref c1) (zD0 X.env.cells lscope.names [])).kindOf pn=some .local from hpn) hns (v:=.int n tn) (by simp) ?_) hd3
     have dd:h₁.DictOf (zA7 X.prog X.w) d vs:=⟨od,es,ep,hk₁ _ _ (kk d od (notL _ _ hd2') hod),hdr⟩
     refine⟨dd.typeIs,?_⟩
     obtain⟨w',hw,rw'⟩:=zFc.some_of (v:=.int (val n)) (o:=valueAt vs (Sum.inl n)) (by rw[<-hval n hn];exact rel.val (Sum.inl n))
     obtain⟨t',rfl⟩:=rw'
     refine wpAny_getItem_of (zGB (k:=Sum.inl n) ⟨tn,rfl⟩) dd.mapOf hw ?_
     exact⟨h₁,_,t',rfl,rfl,⟨F'.ns.keeps hk₁,fun b o e'=>hk₁ b o (F'.keep b o e'),F'.above⟩,fun p hp=>⟨hk₁ _ _ (N' p hp).1,(N' p hp).2⟩⟩
 . have kk:=kp h' [] F' (by rw[zq];exact N')
   have I3:Inv X pins σ H2 { s2 with heap:=h',toks:=tk }:=by
    refine I2.step (g':=s2.gens) (d':=s2.drawn) (ch:=[]) (fun _ z=>nomatch z) (fun b o hb _ _ e' _=>kk b o hb e') (fun b o hb _ _ e' _=>⟨o.slots,kk b o hb e'⟩) (fun _ _ _ _ n=>n) (fun b o _ e'=>?_) (fun _ _ e'=>e') (fun _ _ _ e'=>e') (fun b ps e'=>⟨#[],by rw[e'];simp⟩) (fun mm hmm=>?_) ?_ I2.bare
    . by_cases hb:b=X.env.locals
      . obtain⟨oL,esL,epL,hoL,_⟩:=F'.ns
        exact⟨oL,by rw[hb];exact hoL⟩
      . exact⟨o,kk b o hb e'⟩
    . have:=zK8 hmm F0.ns
      subst this
      exact F'.ns
    . intro b u e'
      refine (I2.hok b u e').stay (fun x v hx z=>kk x v ?_ z) (fun _ z=>z) fun _ _ z=>z
      rcases hx with z1 | z1
      . rw[z1];exact notL _ _ e'
      . exact notL _ _ z1
   exact⟨.int M,H2,I3,⟨tM,rfl⟩,q M H2 hM hbest sm T2⟩
end
theorem zJG {P:Program}{w:World}{K:PySem.W.Frag}{mg mb:Str->Option Value}{CX:CXT}{k:Nat}{fa a PT:Addr}{fd:FuncData}{x:Str}{sp:Sp}{s₁:Shared}{vs:List Value}{ns:List Int}
 (KX:K.In s₁.heap)(hns:s₁.heap.Ns mainGlobals mg)(hb:s₁.heap.Ns builtinsNs mb)(hbb:∀x:Str,x ≠ "__name__" -> mb x=bootBuiltins x) (hlim:s₁.heap.NoLimit)(hg:s₁.gens = #[])
 (ha:s₁.heap.get? a=some { cls:=.type "list",data:=.seq vs.toArray }) (hi:IntsAre vs ns)(hl:ns.length<=sizeLine)(hr:zDF k callerA)
 (hT:s₁.heap.get? PT=some (PySem.W.tabObj #[]))(hC:isCodeTable s₁.heap PT)(hK:PySem.W.noTabs K=true)(hbm:zJy mg s₁.heap)
 (F:∀base:Heap,K.In base->base.Ns mainGlobals mg->zJy mg base->zAi P w K mg base CX k fa fd [x] sp)(hbind:∀(s:Shared)(u:Value),BindsTo s fd ⟨[u],[]⟩ [(x,u)])
 (hsp:∀H:Hp,H PT=some (.tbl #[])->SqL K H a (ns.map V.int)->sp [.ref a] H (fun v _=>v = .bl true) fun _ _ _=>False)
 (hCX:∀H e s',CX [] H s₁ (fun _ _ _=>False) e s'->False) :
 codeAny (model P w) callerA (.call (.ref fa) ⟨[.ref a],[]⟩) (fun r s'=>r = .ok (.ret (.bool true))/\OldK s₁.heap s'.heap/\s'.os=s₁.os/\AllBare s'.gens) s₁:=by
 have rv:=zFe hi
 have lenV:=hi.length
 have npa:PT≠a:=fun e=>by rw[e,ha] at hT;cases hT
 have kPT:K.lookup PT=none:=by
  cases q:K.lookup PT with
  | none=>rfl
  | some o=>
   have e:=KX PT o q
   rw[hT] at e
   cases e
   have h2:=zBI.mp hK (PT,_) (PySem.W.mem_of_lookupK q)
   exact absurd (show false=true from h2) zg
 have core:∀H:Hp,(∀b u,H b=some u->(b=PT/\u = .tbl #[])\/(b=a/\K.lookup a=none/\∃o xs,u = .frz o (.lst xs)))->H PT=some (.tbl #[])->SqL K H a (ns.map V.int)->HOk P w H s₁.heap ->
  codeAny (model P w) callerA (.call (.ref fa) ⟨[.ref a],[]⟩) (fun r s'=>r = .ok (.ret (.bool true))/\OldK s₁.heap s'.heap/\s'.os=s₁.os/\AllBare s'.gens) s₁:=by
  intro H hA hP hS hok
  have base_of:∀{b:Addr}{o:Obj},s₁.heap.get? b=some o->H b=none->(zJz s₁.heap H).get? b=some o:=fun e n=>zKb e n
  have noA:∀{b:Addr}{o:Obj},s₁.heap.get? b=some o->(∀ps,o.data ≠ .fields ps)->(∀ps n,o.data ≠ .seq ps n)->H b=none:=fun {b o} e d1 d2=>by
   cases q:H b with
   | none=>rfl
   | some u=>
    rcases hA b u q with ⟨rfl,_⟩ | ⟨rfl,_⟩
    . rw[hT] at e;cases e;exact absurd rfl (d1 #[])
    . rw[ha] at e;cases e;exact absurd rfl (d2 _ _)
  have nsK:∀{b:Addr}{m:Str->Option Value},s₁.heap.Ns b m->(zJz s₁.heap H).Ns b m:=fun {b m} ⟨o,es,ep,e,d,r⟩=>⟨o,es,ep,base_of e (noA e (fun ps z=>by rw[d] at z;cases z) (fun ps n z=>by rw[d] at z;cases z)),d,r⟩
  have hKb:K.In (zJz s₁.heap H):=fun b o e=>base_of (KX b o e) (by
   cases q:H b with
   | none=>rfl
   | some u=>
    rcases hA b u q with ⟨rfl,_⟩ | ⟨rfl,z,_⟩
    . rw[kPT] at e;cases e
    . rw[z] at e;cases e)
  have hBm:zJy mg (zJz s₁.heap H):=by
   obtain⟨bm,ob,b1,b2,b3,b4,b5,b6⟩:=hbm
   exact⟨bm,ob,b1,b2,base_of b3 (noA b3 (fun ps z=>by rw[b6] at z;cases z) (fun ps n z=>by rw[b6] at z;cases z)),b4,b5,b6⟩
  have hM:Mod K mg (zJz s₁.heap H):=⟨hKb,nsK hns,⟨mb,nsK hb,hbb⟩,let ⟨mc,h1,h2⟩:=hlim;⟨mc,nsK h1,h2⟩⟩
  have e0:zMO P w K mg (zJz s₁.heap H) callerA [] s₁ H:=⟨rfl,hM,fun b o e=>zLy e,Nat.le_of_eq (zJR _ _),trivial,fun b hb=>absurd (show b∈([]:List Addr) from hb) (by simp),hok,.of_eq hg⟩
  refine codeAny_mono ((F _ hKb (nsK hns) hBm).run callerA [] s₁ H ⟨[.ref a],[]⟩ [.ref a] [.ref a] _ _ hr e0 (hbind s₁ (.ref a)) (.cons rfl .nil) (hsp H hP hS)) fun r s' h=>?_
  cases r with
  | error e=>exact (hCX H e s' h).elim
  | ok fl=>
   cases fl with
   | next=>exact False.elim h
   | brk=>exact False.elim h
   | cont=>exact False.elim h
   | ret u=>
    obtain⟨v,H',os,bare,un,hok',r',q⟩:=h
    have q':v = .bl true:=q
    subst q'
    obtain rfl:u=Value.bool true:=r'
    obtain⟨more,hPn⟩:=un.tbls PT _ hP
    have objP:s'.heap.get? PT=some { cls:=.none,data:=.fields (#[]++more) }:=hok' PT _ hPn
    have keep:∀b o,b≠PT->s₁.heap.get? b=some o->s'.heap.get? b=some o:=fun b o hb e=>by
     cases q:H b with
     | none=>exact un.keep b o e q (by intro z;exact absurd (show b∈([]:List Addr) from z) (by simp)) (by simp)
     | some u=>
      rcases hA b u q with ⟨z,_⟩ | ⟨_,_,ob,xs,z⟩
      . exact absurd z hb
      . subst z
        have z2:=un.frzs b ob _ q
        obtain⟨e1,_⟩:=hok b _ q
        obtain⟨e2,_⟩:=hok' b _ z2
        rw[e] at e1;cases e1
        exact e2
    refine⟨rfl,⟨fun b o e=>?_,fun b o e=>?_⟩,os,bare⟩
    . by_cases hb:b=PT
      . subst hb
        rw[hT] at e;cases e
        exact .inr (.inl ⟨hC,rfl,#[],more,rfl,objP⟩)
      . exact .inl (keep b o hb e)
    . by_cases hb:b=PT
      . rw[hb];exact⟨_,objP⟩
      . exact⟨o,keep b o hb e⟩
 have okP:∀H:Hp,zBP P w H s₁.heap PT (.tbl #[]):=fun H=>hT
 cases hk:K.lookup a with
 | some o=>
  have e:=KX a o hk
  rw[ha] at e
  cases e
  refine core (fun b=>if b=PT then some (.tbl #[]) else none) (fun b u z=>?_) (if_pos rfl) (.inr ⟨_,vs.toArray,_,hk,rfl,rfl,rfl,by rw[zS,lenV];exact hl,by simpa using rv⟩) (fun b u z=>?_)
  all_goals
   have z':(if b=PT then some (HO.tbl #[]) else none)=some u:=z
   by_cases hb:b=PT
   . rw[if_pos hb] at z';cases z'
     first
      | exact .inl ⟨hb,rfl⟩
      | (subst hb;exact okP _)
   . rw[if_neg hb] at z';cases z'
 | none=>
  refine core (fun b=>if b=PT then some (.tbl #[]) else if b=a then some (.frz { cls:=.type "list",data:=.seq vs.toArray } (.lst (ns.map V.int))) else none) (fun b u z=>?_) (if_pos rfl)
   (.inl (.inr ⟨{ cls:=.type "list",data:=.seq vs.toArray },by show (if a=PT then _ else if a=a then _ else _)=_;rw[if_neg npa.symm,if_pos rfl]⟩)) (fun b u z=>?_)
  all_goals
   have z':(if b=PT then some (HO.tbl #[]) else if b=a then some (.frz { cls:=.type "list",data:=.seq vs.toArray } (.lst (ns.map V.int))) else none)=some u:=z
   by_cases hb:b=PT
   . rw[if_pos hb] at z';cases z'
     first
      | exact .inl ⟨hb,rfl⟩
      | (subst hb;exact okP _)
   . rw[if_neg hb] at z'
     by_cases hba:b=a
     . rw[if_pos hba] at z';cases z'
       first
        | exact .inr ⟨hba,hk,_,_,rfl⟩
        | (subst hba;exact⟨ha,by rw[zD];exact hl,vs,_,rv,ha⟩)
     . rw[if_neg hba] at z';cases z'
theorem walk_T {l:PySem.W.OpenLaw}{n k:Nat}{q:Program}{loose:List Str}{XP:(Str->Option Value)->Heap->Prop}{YP:World->Heap->Prop}{d:DefRec}{K:Params->PySem.W.Frag}{CX:CXT}{sp:PySem.W.Frag->Addr->Sp}{x tn:Str}
 (hn:l.most=some n)(hn2:n<=sizeLine)(hdf:d.params.defaults=[])(hr:zDF k callerA)(hrec:∃dn,(recsOf q).find? (fun e=>e.name==tn)=some dn)
 (hY:∀(w:World)(h:Heap),YP w h->(K w.params).In h)
 (F:∀(w:World)(mg:Str->Option Value)(fa:Addr)(h:Heap),(K w.params).In h->h.Ns mainGlobals mg->mg d.name=some (.ref fa) ->
  ∃(fd:FuncData)(c PT:Addr),PySem.W.tabIn (K w.params) tn=some (c,PT)/\PySem.W.noTabs (K w.params)=true/\(∀(s:Shared)(u:Value),BindsTo s fd ⟨[u],[]⟩ [(x,u)]) /\
   ∀base:Heap,(K w.params).In base->base.Ns mainGlobals mg->zJy mg base->zAi l.prog w (K w.params) mg base CX k fa fd [x] (sp (K w.params) PT))
 (hsp:∀(K:PySem.W.Frag)(PT:Addr)(H:Hp)(a:Addr)(ns:List Int),ns.length<=n->H PT=some (.tbl #[])->SqL K H a (ns.map V.int)->sp K PT [.ref a] H (fun v _=>v = .bl true) fun _ _ _=>False)
 (hCX:∀(H:Hp)(s:Shared)(e:Value)(s':Shared),CX [] H s (fun _ _ _=>False) e s'->False) :
 PySem.W.WalkO q loose XP YP l.row.toRowW d [] (fun f vs=>PySem.call f vs):=by
 refine Att.attach_call hn hdf fun w s₀ s₁ mg mb fa o pm cd doc a vs ns G Y ho hd hcd hmg hobj hints hlen hg=>?_
 have KX:=hY w _ Y
 obtain⟨fd,c,PT,htab,hnt,hb,hF⟩:=F w mg fa _ KX G.T.g hmg
 obtain⟨dn,hdn⟩:=hrec
 obtain⟨C,hPT⟩:=PySem.W.tab_of G.T KX hdn htab
 exact zJG KX G.T.g G.T.b G.T.builtins G.T.nolimit hg hobj hints (zAf hlen hn2) hr hPT (C.tab hPT).isCodeTable hnt G.T.bmain hF hb (fun H hP hS=>hsp _ PT H a ns hlen hP hS) fun H e s'=>hCX H s₁ e s'
end L2
namespace L2
open PySem PySem.Spec PyProof.Rows
structure zKq (K:PySem.W.Frag)(x qual:Str)(st:Stmt)(f:Addr)(fd:FuncData)(c:Addr):Prop where
 ex:∃(oc:Value)(od:Option Addr)(kV doc pm:Value)(an:Option Addr)(ct:Value)(osl:Array (Option Value)),
  fd=PySem.W.fnOf x qual (defArgs st) (defBody st) (defScope st) .none kV doc pm an (.ref c) ct/\K.lookup f=some ⟨oc,od,.func fd,osl⟩/\PySem.W.codeIn K (.ref c) qual=true
 kp:PySem.W.keepIn K (.ref f)=true
theorem zKq.fn {K:PySem.W.Frag}{x qual:Str}{st:Stmt}{f c:Addr}{fd:FuncData}(F:zKq K x qual st f fd c):Fun K x qual st f fd:=by
 obtain⟨oc,od,kV,doc,pm,an,ct,osl,h⟩:=F.ex
 exact⟨⟨oc,od,kV,doc,pm,an,.ref c,ct,osl,h⟩,F.kp⟩
theorem zKq.ok {P:Program}{w:World}{K:PySem.W.Frag}{mg:Str->Option Value}{base:Heap}{x qual:Str}{st:Stmt}{f c:Addr}{fd:FuncData}{N ps:List Str}{k:Nat}{sp:Sp}(F:zKq K x qual st f fd c)(S:zAH N ps (defScope st))(len:∀vs H Q E,sp vs H Q E->vs.length=ps.length)
 (hbody:∀(A:Around)(outer:List Env)(s:Shared)(H:Hp)(vs:List V)(Q:VK)(E:XK),zDF k (A.deeper (envOfC qual (defScope st) s.heap.objs.size f (.ref c)))->sp vs H Q E ->
  ∃t,PSs (zIE CX0 P w K mg base N qual (defScope st) f (.ref c) A outer s H E).nox (defBody st) t/\t { nx:=fun _ H'=>Q .non H',rt:=Q } (start N vs) H):zAi P w K mg base CX0 (k+1) f fd ps sp:=by
 obtain⟨oc,od,kV,doc,pm,an,ct,osl,rfl,lk,hcd⟩:=F.ex
 refine zME lk hcd S len fun A outer s H vs Q E hr hsp=>?_
 obtain⟨t,h,q⟩:=hbody A outer s H vs Q E hr hsp
 exact⟨t,h.nox,q⟩
theorem zMB {K:PySem.W.Frag}{x qual:Str}{st:Stmt}{f c:Addr}{oc:Value}{od an:Option Addr}{osl:Array (Option Value)}{kV doc pm ct:Value}(l:K.lookup f=some ⟨oc,od,.func (PySem.W.fnOf x qual (defArgs st) (defBody st) (defScope st) .none kV doc pm an (.ref c) ct),osl⟩)
 (hc:PySem.W.codeIn K (.ref c) qual=true)(k:PySem.W.keepIn K (.ref f)=true):zKq K x qual st f (PySem.W.fnOf x qual (defArgs st) (defBody st) (defScope st) .none kV doc pm an (.ref c) ct) c:=⟨⟨oc,od,kV,doc,pm,an,ct,osl,rfl,l,hc⟩,k⟩
section
variable {κ:Type} [DecidableEq κ]
theorem zKX {kvs:List (κ×V)}{k:κ}{v:V}{kv:κ×V}(h:kv∈zDH kvs k v):kv∈kvs\/kv=(k,v):=by
 unfold zDH at h
 split at h
 . obtain⟨q,hq,e⟩:=zAM.mp h
   by_cases hk:q.1=k
   . rw[if_pos hk] at e;rw[<-e,hk];exact .inr rfl
   . rw[if_neg hk] at e;rw[<-e];exact .inl hq
 . rcases zK.mp h with q | q
   . exact .inl q
   . exact .inr (zn.mp q)
theorem nd_put {kvs:List (κ×V)}{k:κ}{v:V}(h:(kvs.map (·.1)).Nodup):((zDH kvs k v).map (·.1)).Nodup:=by
 cases e:zCQ kvs k with
 | none=>exact zI8 v h e
 | some x=>
  have ha:(kvs.any fun kv=>decide (kv.1=k))=true:=by rw[zCF,e];rfl
  unfold zDH
  rw[if_pos ha]
  have e3:(kvs.map fun kv=>if kv.1=k then (kv.1,v) else kv).map (·.1)=kvs.map (·.1):=by
   rw[List.map_map]
   refine List.map_congr_left fun kv _=>?_
   show (if kv.1=k then (kv.1,v) else kv).1=kv.1
   split <;> rfl
  rw[e3];exact h
theorem zFg (k j:κ):∀kvs:List (κ×V),zCQ (zCW kvs k) j=if j=k then none else zCQ kvs j
 | []=>by show (none:Option V)=_;split <;> rfl
 | p::r=>by
  have ih:=zFg k j r
  by_cases e:p.1=k
  . rw[zGJ e,ih]
    by_cases hj:j=k
    . rw[if_pos hj,if_pos hj]
    . rw[if_neg hj,if_neg hj,zBS fun z=>hj (z.symm.trans e)]
  . rw[zGK e]
    by_cases hj:p.1=j
    . rw[zBb hj,zBb hj,if_neg fun z=>e (hj.trans z)]
    . rw[zBS hj,zBS hj,ih]
end
noncomputable def unkW:Key->Int
 | .inl i=>i
 | .inr _=>0
structure WD (n:Int)(kvs:List (Key×V))(wt:Int->Option Int):Prop where
 sh:∀kv∈kvs,∃p d,kv=(Sum.inl p,V.int d)/\0<=p/\p<n
 nd:(kvs.map (·.1)).Nodup
 at_:∀p:Int,zCQ kvs (Sum.inl p)=(wt p).map V.int
noncomputable def zEs (kvs:List (Key×V)):List Int:=kvs.map fun kv=>unkW kv.1
theorem WD.keys {n:Int}{kvs:List (Key×V)}{wt:Int->Option Int}(h:WD n kvs wt):kvs.map (·.1)=(zEs kvs).map Sum.inl:=by
 unfold zEs
 rw[List.map_map]
 refine List.map_congr_left fun kv hkv=>?_
 obtain⟨p,d,e,_⟩:=h.sh kv hkv
 rw[e];rfl
theorem WD.nds {n:Int}{kvs:List (Key×V)}{wt:Int->Option Int}(h:WD n kvs wt):(zEs kvs).Nodup:=by
 have e:=h.nd
 rw[h.keys,List.Nodup,zBC] at e
 exact e.imp fun h e'=>h (by rw[e'])
theorem WD.len {n:Int}{kvs:List (Key×V)}{wt:Int->Option Int}(h:WD n kvs wt)(h0:0<=n):(kvs.length:Int)<=n:=by
 have:=WM.nd_len (n:=n.toNat) h.nds fun x hx=>by
  obtain⟨kv,hkv,e⟩:=zAM.mp hx
  obtain⟨p,d,e2,h1,h2⟩:=h.sh kv hkv
  have:x=p:=by rw[<-e,e2];rfl
  omega
 unfold zEs at this
 rw[zD] at this
 omega
theorem WD.mem {n:Int}{kvs:List (Key×V)}{wt:Int->Option Int}(h:WD n kvs wt){p:Int}:p∈zEs kvs↔∃e,wt p=some e:=by
 have e:p∈zEs kvs↔(Sum.inl p:Key)∈kvs.map (·.1):=by
  rw[h.keys]
  constructor
  . intro m;exact zAM.mpr ⟨p,m,rfl⟩
  . intro m
    obtain⟨q,hq,e⟩:=zAM.mp m
    cases e;exact hq
 rw[e]
 have ha:=h.at_ p
 constructor
 . intro m
   cases hw:wt p with
   | some d=>exact⟨d,rfl⟩
   | none=>rw[hw] at ha;exact absurd m (zHA ha)
 . rintro ⟨d,hw⟩
   rw[hw] at ha
   exact zLO ha
theorem WD.one {n s:Int}(h0:0<=s)(h1:s<n):WD n [(Sum.inl s,V.int 0)] (fun q=>if q=s then some 0 else none):=by
 refine⟨fun kv hkv=>?_,by simp,fun p=>?_⟩
 . rw[zn.mp hkv];exact⟨s,0,rfl,h0,h1⟩
 . by_cases e:p=s
   . rw[if_pos e,e];exact zBb rfl
   . rw[if_neg e];exact (zBS fun z=>e (Sum.inl.inj z).symm).trans zHB
theorem WD.put {n:Int}{kvs:List (Key×V)}{wt:Int->Option Int}(h:WD n kvs wt){p d:Int}(h0:0<=p)(h1:p<n):WD n (zDH kvs (Sum.inl p) (.int d)) (fun q=>if q=p then some d else wt q):=by
 refine⟨fun kv hkv=>?_,nd_put h.nd,fun q=>?_⟩
 . rcases zKX hkv with z | z
   . exact h.sh kv z
   . exact⟨p,d,z,h0,h1⟩
 . rw[zDR]
   by_cases e:q=p
   . rw[if_pos e,if_pos (by rw[e])];rfl
   . rw[if_neg e,if_neg fun z=>e (Sum.inl.inj z)];exact h.at_ q
theorem WD.drop {n:Int}{kvs:List (Key×V)}{wt:Int->Option Int}(h:WD n kvs wt){p:Int}:WD n (zCW kvs (Sum.inl p)) (fun q=>if q=p then none else wt q):=by
 refine⟨fun kv hkv=>h.sh kv (zGL hkv),zFR h.nd,fun q=>?_⟩
 rw[zFg]
 by_cases e:q=p
 . rw[if_pos e,if_pos (by rw[e])];rfl
 . rw[if_neg e,if_neg fun z=>e (Sum.inl.inj z)];exact h.at_ q
noncomputable def oV:Option Int->V
 | none=>.non
 | some d=>.int d
theorem ixN_in {n:Nat}{i:Int}(h0:0<=i)(h1:i<n):ixN n i=some i.toNat:=by
 unfold ixN
 rw[if_pos h0,if_pos h1]
theorem zBm {α:Type}{xs:List α}{i:Int}{v:α}(h0:0<=i)(h:xs[i.toNat]? = some v):atI xs i=some v:=by
 have:=zCD h
 rwa [Int.toNat_of_nonneg h0] at this
theorem SmT.get {H H':Hp}(k:SmT H H'){b:Addr}{o:HO}(e:H b=some o)(h:∀ps,o ≠ .tbl ps):H' b=some o:=by
 rcases k b o e with ⟨ps,z⟩ | z
 . exact absurd z (h ps)
 . exact z
theorem SmT.chg {H H':Hp}{l:Addr}{o:HO}(k:SmT H H')(h:H l=none):SmT H (upd H' l o):=fun b u e=>by
 rcases k b u e with z | z
 . exact .inl z
 . right
   rw[zb (zl e h)];exact z
theorem zDE.chg {H:Hp}{P l:Addr}{pos:Pos}{q:Str}{o:HO}{xs:List V}(T:zDE H P pos q)(h:H l=some (.lst xs)):zDE (upd H l o) P pos q:=by
 obtain⟨ps,hps,_⟩:=id T
 refine T.keep (fun u hu=>?_) fun c φ hc=>?_
 . rw[zb (zB1 hps h (by intro z;cases z))];exact hu
 . rw[zb (zB1 hc h (by intro z;cases z))];exact hc
end L2
namespace L2
open PySem PySem.Spec PyProof.Rows
section
variable {X:Cx}
end
end L2
namespace L2
open PySem PySem.Spec PyProof.Rows
section
variable {X:Cx}
end
end L2
namespace L2
open PySem PySem.Spec PyProof.Rows
section
variable {X:Cx}{pins:List (Addr×Obj)}{σ:St}{H3:Hp}{s3:Shared}{scope:Scope}{fp:List Addr}{N' own cn:List Str}{ci:List Nat}{cv:List V}{yc:Str}
end
end L2
namespace L2
open PySem PySem.Spec PyProof.Rows
noncomputable def zLW (ta:TA):TE:=fun σ H Q=>ta σ H fun vs H1=>∃j:Int,vs=[.int j]/\0<=j/\j<=1000/\∀l,H1 l=none->Q (.ref l) (upd H1 l (.lst ((WM.lowTo j.toNat).map V.int)))
theorem zJ3:∀(vs:List Value)(n:Nat),vs.length=n->(∀(j:Nat)(v:Value),vs[j]? = some v->∃t,v = .int (0+(j:Int)*1) t)->zBB ((WM.lowTo n).map V.int) vs:=by
 have key:∀(vs:List Value)(a:Nat),(∀(j:Nat)(v:Value),vs[j]? = some v->∃t,v = .int ((a+j:Nat):Int) t)->zBB ((List.range' a vs.length).map fun (i:Nat)=>V.int (i:Int)) vs:=by
  intro vs
  induction vs with
  | nil=>intro _ _;exact .nil
  | cons v r ih=>
   intro a h
   obtain⟨t,ht⟩:=h 0 v rfl
   rw[zd,List.range'_succ,zAV]
   refine .cons ⟨t,by rw[ht];rfl⟩ (ih (a+1) fun j u hj=>?_)
   obtain⟨t',ht'⟩:=h (j+1) u hj
   exact⟨t',by rw[ht'];congr 1;omega⟩
 intro vs n e h
 subst e
 have:=key vs 0 fun j v hj=>by
  obtain⟨t,ht⟩:=h j v hj
  exact⟨t,by rw[ht];congr 1;omega⟩
 unfold WM.lowTo
 rw[List.map_map,List.range_eq_range']
 exact this
section
variable {X:Cx}
theorem zIw {a:Expr}{ta:TA}{p1 p2 pos1 pos2:Pos}(hc:X.calm=true)(hgL:Gl X "list") (hmL:X.mg "list" = none) (hgR:Gl X "range") (hmR:X.mg "range" = none) (ha:PA X [a] ta)(hs:starEach [a] X.env=[(false,eval a X.env)]:=by rfl)
 (he:starEach [.Call (.Name "range" p2) [a] [] pos2] X.env=[(false,eval (.Call (.Name "range" p2) [a] [] pos2) X.env)]:=by rfl):PE X (.Call (.Name "list" p1) [.Call (.Name "range" p2) [a] [] pos2] [] pos1) (zLW ta):=by
 intro pins s σ H Q I h
 refine zAv (zCx I hgL hmL (by decide +kernel:bootBuiltins "list" = some (.type "list")) ?_ (by decide) (by decide))
 refine PyProof.Rows.callWith_type1 ?_ he rfl
 rw[he]
 refine Calls.spliced_cons ?_
 refine Call_ (zCx I hgR hmR boot_range (PyProof.Rows.callWith_type1 (thn (ha pos2 pins s σ H _ I h) fun us s1 ⟨vs,H1,I1,r1,q1⟩=>?_) hs rfl))
 obtain⟨j,e,h0,h1,q⟩:=q1
 subst e
 cases r1 with
 | cons r rr=>
  cases rr
  obtain⟨t,rfl⟩:=r
  refine call_range_1 ?_
  refine Calls.spliced_nil ?_
  have hz:Builtin.Range.rangeSize 0 j 1=(j.toNat:Int):=by rw[rangeSize_one];split <;> omega
  refine call_list_range (I.ok.hd hc) (IsRange.new ..) (small_one (by omega) (by omega) (by omega) (by omega)) hz (by omega) fun h' tk acc c' kp hD hI=>?_
  have kp1:∀b o,s1.heap.get? b=some o->h'.get? b=some o:=fun b o e=>kp b o (zF _ e)
  have rv:zBB ((WM.lowTo j.toNat).map V.int) acc.toList:=zJ3 acc.toList _ (by rw[Array.length_toList];exact hI.1) fun i v hi=>hI.2 i v (by rw[<-hi,Array.getElem?_toList])
  have hsz:s1.heap.objs.size<=(s1.heap.push { cls:=.type "range",data:=.fields #[.int 0 s1.toks,.int j t,.int 1 (s1.toks+1)] }).objs.size:=by rw[zAr];exact zBo _
  refine⟨.ref _,_,I1.laid (t':=tk) kp1 hsz (show zBP X.prog X.w _ h' _ (.lst ((WM.lowTo j.toNat).map V.int)) from ⟨?_,acc.toList,c',rv,by rw[Array.toArray_toList];exact hD⟩),rfl,q _ (I1.hok.fresh hsz)⟩
  rw[zD,WM.lowTo,zD,zAb]
  have:sizeLine=16777216:=rfl
  omega
theorem zCL:zDN X (.builtin "sorted") (fun xs H Q=>∃(p:Addr)(ns:List Int),xs=[.ref p]/\SqL X.K H p (ns.map V.int)/\ns.length<64 /\
 ∀(l:Addr)(ms:List Int),H l=none->ms.Perm ns->ms.Pairwise (· <= ·)->Q (.ref l) (upd H l (.lst (ms.map V.int)))):=by
 intro pins s σ H xs us Q I r h
 obtain⟨p,ns,rfl,hq,h64,q⟩:=h
 obtain⟨u,rfl,rx⟩:=zDB r
 cases rx
 obtain⟨its,r',pl,hz⟩:=I.list hq
 have hI:IntsAre its ns:=zBa r'
 have hl:=hI.length
 refine SortT.sorted_list (O:=intO) (key:=fun i=>ns.getD i 0) (κ:=oneType') pl.isList (by omega) (fun h2 s' a fa kp=>zEg hI h2) fun D h' out c pt hD kp ho=>?_
 obtain⟨ms,hp,hr,rz,hlz⟩:=zFJ hI pt
 refine⟨.ref D,_,zCi (t':=s.toks) I hD kp ho rz ?_,rfl,q D ms (I.hok.fresh hD) hp hr⟩
 have:sizeLine=16777216:=rfl
 rw[zD]
 omega
end
section
variable {X:Cx}{pl:List (Addr×Obj)}{N':List Str}{sc:Scope}{fp:List Addr}{s3:Shared}{H3:Hp}
end
section
variable {X:Cx}
noncomputable def rNeE (K:PySem.W.Frag):R2:=fun x y H Q=>∃(a b:Addr)(xs:List V),x = .ref a/\y = .ref b/\SqL K H a xs/\SqL K H b []/\Q (.bl (!xs.isEmpty)) H
theorem zIy (hu:X.A.units<cLine):OpR X (compareOp .NotEq) (rNeE X.K):=by
 intro pins s σ H x y v u Q I rx ry h
 obtain⟨a,b,xs,rfl,rfl,ha,hb,q⟩:=h
 cases rx
 cases ry
 obtain⟨its,r,pl,hz⟩:=I.list ha
 obtain⟨its2,r2,pl2,hz2⟩:=I.list hb
 have l1:=r.length
 have l2:=r2.length
 cases xs with
 | nil=>
  refine PySem.EqBoolInt.of_rcne (SeqAt.RcNeAt.lists (e:=fun _=>true) pl.isList pl2.isList (by rw[zS,zS,<-l1,<-l2]) hu (fun j a b=>absurd a (by rw[zS,<-l1];exact zBw _))) ⟨.bl _,H,I,rfl,?_⟩
  rw[zS,<-l1]
  exact q
 | cons x xs=>
  refine PySem.EqBoolInt.of_rcne (SeqAt.RcNeAt.lists_lengths pl.isList pl2.isList (by rw[zS,zS,<-l1,<-l2];rfl) hu) ⟨.bl _,H,I,rfl,?_⟩
  exact q
end
end L2
namespace L2
open PySem PyProof.Rows
noncomputable def Kp (s0:Shared)(h:Heap):Prop:=∀b o,s0.heap.get? b=some o->h.get? b=some o
structure zKn (prog:Program)(w:World)(A:Around)(s0:Shared)(I:Addr)(its:List Value)(itAt:Nat->Heap->Prop):Prop where
 stay:∀j h h',itAt j h->h'.get? I=h.get? I->itAt j h'
 next:∀(j:Nat)(h:Heap)(tk:Nat)(v:Value)(Q:Option Value->Shared->Prop)(E:Value->Shared->Prop),Kp s0 h->itAt j h->its[j]? = some v ->
  (∀h',itAt (j+1) h'->(∀b,b≠I->h'.get? b=h.get? b)->Q (some v) { s0 with heap:=h',toks:=tk })->wpAny (model prog w) A (pyNext (.ref I)) Q E { s0 with heap:=h,toks:=tk }
 fin:∀(j:Nat)(h:Heap)(tk:Nat)(Q:Option Value->Shared->Prop)(E:Value->Shared->Prop),Kp s0 h->itAt j h->its[j]? = none ->
  (∀h',(∀b o,b≠I->h.get? b=some o->h'.get? b=some o)->Q none { s0 with heap:=h',toks:=tk })->wpAny (model prog w) A (pyNext (.ref I)) Q E { s0 with heap:=h,toks:=tk }
section
variable {prog:Program}{w:World}{A:Around}{s0:Shared}{I S:Addr}{its:List Value}{itAt:Nat->Heap->Prop}
theorem Kp.upd {h:Heap}{f:Obj->Obj}(K:Kp s0 h)(hS:s0.heap.objs.size<=S):Kp s0 (h.update S f):=fun b o e=>by
 rw[zBY _ _ _ _ (zh (zr (zU e) hS))];exact K b o e
theorem Kp.but {h h':Heap}(K:Kp s0 h)(hI:s0.heap.objs.size<=I)(k:∀b o,b≠I->h.get? b=some o->h'.get? b=some o):Kp s0 h':=fun b o e=>
 k b o (zh (zr (zU e) hI)) (K b o e)
theorem zJB {R:Result->Shared->Prop}{kw:List (Str×Value)}(M:zKn prog w A.in1 s0 I its itAt)(bt:Nat->Nat->Bool)(hS:s0.heap.objs.size<=S)(hI:s0.heap.objs.size<=I)(hSI:S≠I)
 (cmp:∀(i j:Nat)(vi vj:Value)(h:Heap)(tk:Nat)(Q E:Value->Shared->Prop),Kp s0 h->its[i]? = some vi->its[j]? = some vj->Q (.bool (bt i j)) { s0 with heap:=h,toks:=tk }->wpAny (model prog w) A.in1 (richCompare .Lt vi vj) Q E { s0 with heap:=h,toks:=tk })
 (hR:∀(v:Value)(h:Heap)(tk:Nat),its[argBest bt (its.length-1)]? = some v->Kp s0 h->R (.ok (.ret v)) { s0 with heap:=h,toks:=tk })
 : ∀(r j:Nat)(h:Heap)(tk:Nat)(vb:Value)(c:Nat),its.length-(j+1)=r->j+1<=its.length->Kp s0 h->itAt (j+1) h->its[argBest bt j]? = some vb ->
  h.get? S=some { cls:=.type "list",data:=.seq #[vb,vb] c }->codeAny (model prog w) A (.builtin "min.loop" { pos:=[.ref I,.none,.ref S],kw:=kw }) R { s0 with heap:=h,toks:=tk }:=by
 intro r
 induction r with
 | zero=>
  intro j h tk vb c hr hj K hit hv hSo
  refine codeAny_builtin PySem.F.entry_min_loop ?_
  unfold Builtin.«min.loop»
  refine zA (zBE hSo rfl ?_)
  dsimp only
  refine zA (zBO (M.fin (j+1) h tk _ _ K hit (zz (by omega)) fun h' k=>?_))
  have hS':=k S _ hSI hSo
  refine zA (zA1 hS' rfl (zA (wpAny_letGo (zB ?_))) (by show 2<=sizeLine;decide) (by show 0<=sizeLine+1;decide))
  refine hR vb _ tk ?_ ((K.but hI k).upd hS)
  rw[show its.length-1=j by omega];exact hv
 | succ r ih=>
  intro j h tk vb c hr hj K hit hv hSo
  obtain⟨x,hx⟩:∃x,its[j+1]? = some x:=⟨_,zE (by omega)⟩
  refine codeAny_builtin PySem.F.entry_min_loop ?_
  unfold Builtin.«min.loop»
  refine zA (zBE hSo rfl ?_)
  dsimp only
  refine zA (zBO (M.next (j+1) h tk x _ _ K hit hx fun h' hit' k=>?_))
  have K':Kp s0 h':=K.but hI fun b o hb e=>by rw[k b hb];exact e
  have hS':h'.get? S=some { cls:=.type "list",data:=.seq #[vb,vb] c }:=by rw[k S hSI];exact hSo
  refine zA (zB ?_)
  refine zA (zBO (zw (zA (cmp (j+1) (argBest bt j) x vb h' tk _ _ K' hx hv ?_))))
  refine zA (zw (zA9 (zA (wpAny_letGo (zB ?_)))))
  have eb:argBest bt (j+1)=if bt (j+1) (argBest bt j)=true then j+1 else argBest bt j:=argBest.eq_2 bt j
  cases e:bt (j+1) (argBest bt j) with
  | true=>
   rw[if_pos e] at eb
   refine zA (zA1 hS' rfl (zA (wpAny_letGo (zB ⟨rfl,?_⟩))) (by show 2<=sizeLine;decide) (by show 2<=sizeLine+1;decide))
   exact ih (j+1) _ tk x c (by omega) (by omega) (K'.upd hS) (M.stay _ _ _ hit' (zBY _ _ _ _ (Ne.symm hSI))) (by rw[eb];exact hx) (zv _ hS' rfl)
  | false=>
   rw[e,if_neg (by decide)] at eb
   refine zA (wpAny_letGo (zB ⟨rfl,?_⟩))
   exact ih (j+1) h' tk vb c (by omega) (by omega) K' hit' (by rw[eb];exact hv) hS'
theorem zE3 {R:Result->Shared->Prop}{d:Value}(M:zKn prog w A.in1 s0 I its itAt)(bt:Nat->Nat->Bool)(hS:s0.heap.objs.size<=S)(hI:s0.heap.objs.size<=I)(hSI:S≠I)
 (cmp:∀(i j:Nat)(vi vj:Value)(h:Heap)(tk:Nat)(Q E:Value->Shared->Prop),Kp s0 h->its[i]? = some vi->its[j]? = some vj->Q (.bool (bt i j)) { s0 with heap:=h,toks:=tk }->wpAny (model prog w) A.in1 (richCompare .Lt vi vj) Q E { s0 with heap:=h,toks:=tk })
 (hR:∀(v:Value)(h:Heap)(tk:Nat),its[argBest bt (its.length-1)]? = some v->Kp s0 h->R (.ok (.ret v)) { s0 with heap:=h,toks:=tk })
 (h0:its=[]->∀(h:Heap)(tk:Nat),Kp s0 h->R (.ok (.ret d)) { s0 with heap:=h,toks:=tk })
 (h:Heap)(tk:Nat)(c:Nat)(K:Kp s0 h)(hit:itAt 0 h)(hSo:h.get? S=some { cls:=.type "list",data:=.seq #[] c }) :
 codeAny (model prog w) A (.builtin "min.loop" { pos:=[.ref I,.none,.ref S],kw:=[(Str.ofString "default",d)] }) R { s0 with heap:=h,toks:=tk }:=by
 refine codeAny_builtin PySem.F.entry_min_loop ?_
 unfold Builtin.«min.loop»
 refine zA (zBE hSo rfl ?_)
 dsimp only
 cases e:its with
 | nil=>
  subst e
  refine zA (zBO (M.fin 0 h tk _ _ K hit rfl fun h' k=>?_))
  exact zA (zB7 (zB (h0 rfl h' tk (K.but hI k))))
 | cons x xs=>
  have hx:its[0]? = some x:=by rw[e];rfl
  refine zA (zBO (M.next 0 h tk x _ _ K hit hx fun h' hit' k=>?_))
  have K':Kp s0 h':=K.but hI fun b o hb e=>by rw[k b hb];exact e
  have hS':h'.get? S=some { cls:=.type "list",data:=.seq #[] c }:=by rw[k S hSI];exact hSo
  refine zA (zB ?_)
  refine zA (zA1 hS' rfl (zB ⟨rfl,?_⟩) (by show 0<=sizeLine;decide) (by show 2<=sizeLine+1;decide))
  refine zJB M bt hS hI hSI cmp hR (its.length-1) 0 _ tk x (c+1) rfl (by rw[e];simp) (K'.upd hS) (M.stay _ _ _ hit' (zBY _ _ _ _ (Ne.symm hSI))) hx (zv _ hS' rfl)
end
end L2
namespace L2
open PySem PyProof.Rows
theorem wpAny_of_eq {α:Type}{M:Model}{A:Around}{E:Value->Shared->Prop}{s:Shared}{m m':Sem α}{Q:α->Shared->Prop}(e:m=m')(h:wpAny M A m' Q E s):wpAny M A m Q E s:=by subst e;exact h
theorem zEh {O:KeyOrd}(ky:Nat->O.α):∀k,argBest (fun i j=>O.blt (ky i) (ky j)) k<=k/\∀j,j<=k->O.blt (ky j) (ky (argBest (fun i j=>O.blt (ky i) (ky j)) k))=false
 | 0=>⟨zH _,fun j hj=>by obtain rfl:j=0:=(by omega);exact O.irrefl _⟩
 | k+1=>by
  obtain⟨h1,h2⟩:=zEh ky k
  rw[argBest.eq_2]
  cases e:O.blt (ky (k+1)) (ky (argBest (fun i j=>O.blt (ky i) (ky j)) k)) with
  | true=>
   rw[if_pos rfl]
   refine⟨zH _,fun j hj=>?_⟩
   by_cases c:j=k+1
   . subst c;exact O.irrefl _
   . cases e2:O.blt (ky j) (ky (k+1)) with
     | false=>rfl
     | true=>rw[<-h2 j (by omega)];exact (O.trans _ _ _ e2 e).symm
  | false=>
   rw[if_neg (by decide)]
   refine⟨by omega,fun j hj=>?_⟩
   by_cases c:j=k+1
   . subst c;exact e
   . exact h2 j (by omega)
theorem zGS {prog:Program}{w:World}{A:Around}{s:Shared}{p:Addr}{its:List Value}{d:Value}{Q E:Value->Shared->Prop}(hA:A.handled=none)(bt:Nat->Nat->Bool)(hp:s.heap.IsList p its.toArray\/s.heap.IsTuple p its.toArray)
 (cmp:∀(i j:Nat)(vi vj:Value)(h:Heap)(tk:Nat)(Q E:Value->Shared->Prop),Kp s h->its[i]? = some vi->its[j]? = some vj->Q (.bool (bt i j)) { s with heap:=h,toks:=tk }->wpAny (model prog w) A.in1 (richCompare .Lt vi vj) Q E { s with heap:=h,toks:=tk })
 (hR:∀(v:Value)(h:Heap)(tk:Nat),its[argBest bt (its.length-1)]? = some v->Kp s h->Q v { s with heap:=h,toks:=tk })
 (h0:its=[]->∀(h:Heap)(tk:Nat),Kp s h->Q d { s with heap:=h,toks:=tk }) :
 wpAny (model prog w) A (call (.builtin "min") [.ref p] [(Str.ofString "default",d)]) Q E s:=by
 refine zA5 (codeAny_call_builtin PySem.F.plain_min PySem.F.entry_min (wpAny_of_eq (show checkBuiltinCall "min" { pos:=[.ref p],kw:=[(Str.ofString "default",d)] }=pure () from rfl) (zB ?_)))
 unfold Builtin.min
 refine zA (wpAny_of_eq (show Builtin.Builtins.bindParams "min" ["key", "default"] 0 { kw:=[(Str.ofString "default",d)] }=pure [none,some d] from rfl) (zB ?_))
 dsimp only
 refine zA (zB ?_)
 have kp0:∀(o1 o2:Obj),Kp s ((s.heap.push o1).push o2):=fun o1 o2 b o e=>zF _ (zF _ e)
 rcases hp with hp | hp
 . refine zA (wpAny_pyIter_list hp (zA (wpAny_newList (zB ⟨rfl,?_⟩) (by show 0<=sizeLine;decide))))
   have hSe:(s.heap.push { cls:=.type "list_iterator",data:=.fields #[.ref p,.int 0 0] }).objs.size=s.heap.objs.size+1:=zAr ..
   rw[hSe]
   refine zE3 (s0:=s) (I:=s.heap.objs.size) (S:=s.heap.objs.size+1) (itAt:=fun j h=>h.IsListIter s.heap.objs.size p j) ⟨fun j h h' a e=>?_,fun j h tk v Q E K hit hv q=>?_,fun j h tk Q E K hit hv q=>?_⟩ bt (zBo _) (zH _) (Nat.succ_ne_self _) cmp hR h0 _ s.toks 0 (kp0 _ _) ?_ ?_
   . obtain⟨o,ho,hc⟩:=a
     exact⟨o,by rw[e];exact ho,hc⟩
   . obtain⟨o,ho,hc⟩:=hp
     exact wpAny_pyNext_list_item hit ⟨o,K _ _ ho,hc⟩ (by rw[zy];exact hv) fun h' a b=>q h' a fun c hc=>b.2 c hc
   . obtain⟨o,ho,hc⟩:=hp
     exact wpAny_pyNext_list_end hA hit ⟨o,K _ _ ho,hc⟩ (by rw[zy];exact hv) fun h' b=>q h' b
   . exact⟨_,zF _ (zN _ rfl),rfl,rfl⟩
   . rw[<-hSe];exact zN _ rfl
 . refine zA (wpAny_pyIter_tuple hp (zA (wpAny_newList (zB ⟨rfl,?_⟩) (by show 0<=sizeLine;decide))))
   have hSe:(s.heap.push { cls:=.type "tuple_iterator",data:=.fields #[.ref p,.int 0 0] }).objs.size=s.heap.objs.size+1:=zAr ..
   rw[hSe]
   refine zE3 (s0:=s) (I:=s.heap.objs.size) (S:=s.heap.objs.size+1) (itAt:=fun j h=>h.IsTupleIter s.heap.objs.size p j) ⟨fun j h h' a e=>?_,fun j h tk v Q E K hit hv q=>?_,fun j h tk Q E K hit hv q=>?_⟩ bt (zBo _) (zH _) (Nat.succ_ne_self _) cmp hR h0 _ s.toks 0 (kp0 _ _) ?_ ?_
   . obtain⟨o,ho,hc⟩:=a
     exact⟨o,by rw[e];exact ho,hc⟩
   . obtain⟨o,ho,hc⟩:=hp
     exact wpAny_pyNext_tuple_item hit ⟨o,K _ _ ho,hc⟩ (by rw[zy];exact hv) fun h' a b=>q h' a fun c hc=>b.2 c hc
   . obtain⟨o,ho,hc⟩:=hp
     exact wpAny_pyNext_tuple_end hA hit ⟨o,K _ _ ho,hc⟩ (by rw[zy];exact hv) fun h' b=>q h' b
   . exact⟨_,zF _ (zN _ rfl),rfl,rfl⟩
   . rw[<-hSe];exact zN _ rfl
section
variable {X:Cx}
noncomputable def rMinD (K:PySem.W.Frag)(x dv:V)(H:Hp)(Q:VK):Prop:=∃(p:Addr)(ys:List V),x = .ref p/\(SqL K H p ys\/SqT K H p ys)/\(ys=[]->Q dv H) /\
 ((∃ks,zAk H ys ks/\∀(i:Nat)(y:V)(k:List Int),ys[i]? = some y->ks[i]? = some k->(∀k'∈ks,HT.lexLt k' k=false)->Q y H)\/(∃ns:List Int,ys=ns.map V.int/\∀n∈ns,(∀m∈ns,n<=m)->Q (.int n) H))
noncomputable def tMinD (K:PySem.W.Frag)(t:TA)(td:TE):TE:=fun σ H Q=>t σ H fun vs H1=>∃x,vs=[x]/\td σ H1 fun dv H2=>rMinD K x dv H2 Q
theorem zGr {e de:Expr}{t:TA}{td:TE}{pos np kpos:Pos}(hc:X.calm=true)(hu:X.A.units+1<cLine)(hg:Gl X "min") (hm:X.mg "min" = none) (he:PA X [e] t)(hd:PE X de td)
 (hs1:backTo pos (starEach [e] X.env)=(false,eval e X.env)::backTo pos (starEach [] X.env):=by rfl)(hs2:(backTo pos (starEach [e] X.env)).any (·.1)=false:=by rfl) :
 PE X (.Call (.Name "min" np) [e] [⟨some "default",de,kpos⟩] pos) (tMinD X.K t td):=by
 intro pins s σ H Q I h
 refine zAv (zCx I hg hm (by decide +kernel:bootBuiltins "min" = some (.builtin "min")) ?_)
 refine PyProof.Rows.callWith_kw (thn (he pos pins s σ H _ I h) fun us s1 ⟨vs,H1,I1,r,q1⟩=>?_) hs1 hs2
 obtain⟨x,rfl,q1⟩:=q1
 obtain⟨u,rfl,rx⟩:=zDB r
 show wpAny _ _ (evalAll ((do let v <-eval de X.env;standAt pos;pure v)::[])) _ _ s1
 refine wpAny_evalAll_cons (zA (thn (hd pins s1 σ H1 _ I1 q1) fun ud s2 ⟨dv,H2,I2,rd,q2⟩=>zA (wpAny_standAt (zB (wpAny_evalAll_nil ?_)))))
 show wpAny _ _ (call (.builtin "min") [u] [(Str.ofString "default",ud)]) _ _ s2
 obtain⟨p,ys,rfl,hp,q0,hk⟩:=q2
 cases rx
 obtain⟨its,rv,hpp⟩:∃its:List Value,zBB ys its/\(s2.heap.IsList p its.toArray\/s2.heap.IsTuple p its.toArray):=by
  rcases hp with hp | hp
  . obtain⟨its,r',pl,_⟩:=I2.list hp
    exact⟨its,r',.inl pl.isList⟩
  . obtain⟨its,r',pl,_⟩:=I2.tuple hp
    exact⟨its,r',.inr pl⟩
 have hlen:=rv.length
 have e0:its=[]->ys=[]:=fun z=>zA3.mp (by rw[hlen,z];rfl)
 rcases hk with ⟨ks,T,q⟩ | ⟨ns,rfl,q⟩
 . have hl:=T.length
   refine zGS (I2.ok.hd hc) (fun i j=>zKY.blt (ks.getD i []) (ks.getD j [])) hpp (fun i j vi vj h tk Q E K hi hj q=>?_) (fun v h tk hv K=>?_) (fun z h tk K=>⟨dv,H2,I2.kept K,rd,q0 (e0 z)⟩)
   . have look:∀(i:Nat)(v:Value),its[i]? = some v->∃(p:Addr)(k:List Int)(us:List Value),v = .ref p/\ks[i]? = some k/\IntsAre us k/\IsTup h p us.toArray:=fun i v hv=>by
      have hi:i<ys.length:=by have:=(zL.mp hv).1;omega
      obtain⟨p,k,e1,e2,e3,_⟩:=T.get (i:=i) (x:=ys[i]) (by simp[hi])
      obtain⟨u,hu,ru⟩:=rv.get (i:=i) (x:=ys[i]) (by simp[hi])
      rw[hv] at hu;cases hu
      rw[e1] at ru
      cases (show v=Value.ref p from ru)
      obtain⟨_,us,rv',o,ho,hc⟩:=I2.hok p _ e3
      exact⟨p,k,us,rfl,e2,zBa rv',o,K _ _ ho,hc⟩
     obtain⟨p1,k1,us1,rfl,g1,i1,t1⟩:=look i vi hi
     obtain⟨p2,k2,us2,rfl,g2,i2,t2⟩:=look j vj hj
     refine HT.lt_tupInts (ns:=k1) (ms:=k2) t1 t2 i1 i2 hu ?_
     have:zKY.blt (ks.getD i []) (ks.getD j [])=HT.lexLt k1 k2:=by rw[zM,zM,g1,g2];rfl
     rw[<-this];exact q
   . obtain⟨b1,b2⟩:=zEh (O:=zKY) (fun i=>ks.getD i []) (its.length-1)
     have hlt:=(zL.mp hv).1
     generalize eb:argBest (fun i j=>zKY.blt (ks.getD i []) (ks.getD j [])) (its.length-1)=bi at hv hlt b1 b2
     have hy:bi<ys.length:=by omega
     obtain⟨u,hu,ru⟩:=rv.get (i:=bi) (x:=ys[bi]) (by simp[hy])
     rw[hv] at hu;cases hu
     obtain⟨pa,k,e1,e2,e3,_⟩:=T.get (i:=bi) (x:=ys[bi]) (by simp[hy])
     refine⟨ys[bi],H2,I2.kept K,ru,q bi ys[bi] k (by simp[hy]) e2 fun k' hk'=>?_⟩
     obtain⟨j,hj,ej⟩:=zx hk'
     have:=b2 j (by omega)
     have g1:ks.getD j []=k':=by rw[zM,zE hj,ej];rfl
     have g2:ks.getD bi []=k:=by rw[zM,e2];rfl
     rw[g1,g2] at this
     exact this
 . have hI:IntsAre its ns:=zBa rv
   have hl:=hI.length
   have look:∀(i:Nat)(v:Value),its[i]? = some v->∃t,v = .int (ns.getD i 0) t:=fun i v hv=>by
    have hi:i<ns.length:=by have:=(zL.mp hv).1;omega
    obtain⟨u,hu,ru⟩:=rv.get (i:=i) (x:=.int ns[i]) (by simp[hi])
    rw[hv] at hu;cases hu
    obtain⟨t,rfl⟩:=(show ∃t,v=Value.int ns[i] t from ru)
    exact⟨t,by rw[zM,zE hi];rfl⟩
   refine zGS (I2.ok.hd hc) (fun i j=>decide (ns.getD i 0<ns.getD j 0)) hpp (fun i j vi vj h tk Q E K hi hj q=>?_) (fun v h tk hv K=>?_) (fun z h tk K=>⟨dv,H2,I2.kept K,rd,q0 (e0 z)⟩)
   . obtain⟨t1,rfl⟩:=look i vi hi
     obtain⟨t2,rfl⟩:=look j vj hj
     exact PyProof.Rows.lt_int q
   . obtain⟨b1,b2⟩:=argBest_lt (fun i=>ns.getD i 0) (its.length-1)
     have hlt:=(zL.mp hv).1
     generalize eb:argBest (fun i j=>decide (ns.getD i 0<ns.getD j 0)) (its.length-1)=bi at hv hlt b1 b2
     obtain⟨t,rfl⟩:=look bi v hv
     have hy:bi<ns.length:=by omega
     refine⟨.int (ns.getD bi 0),H2,I2.kept K,⟨t,rfl⟩,q _ ?_ fun m hm=>?_⟩
     . rw[zM,zE hy];exact zBH hy
     . obtain⟨j,hj,ej⟩:=zx hm
       have:=b2 j (by omega)
       have g1:ns.getD j 0=m:=by rw[zM,zE hj,ej];rfl
       rw[g1] at this
       exact this
end
end L2
namespace L2
open PySem PyProof.Rows
section
variable {prog:Program}{w:World}{A:Around}{s0:Shared}{D I l:Addr}{its:List Value}{qs:List (Key×Value)}
end
section
variable {X:Cx}
end
end L2
namespace L2
open PySem PySem.Spec PyProof.Rows
section
variable {X:Cx}
theorem zE1 {x:Str}{T:String}{pos:Pos}(hg:Gl X x)(hm:X.mg x=none)(hv:bootBuiltins x=some (.type T))(hn:x ≠ "__name__" := by decide) (hdb:(x==("__debug__" : Str))=false:=by decide):PE X (.Name x pos) (tC (.ty T)):=
 fun pins s σ H Q I h=>zCx I hg hm hv ⟨.ty T,H,I,rfl,h⟩ hn hdb
theorem zCC:zDN X (.builtin "isinstance") (fun xs H Q=>∃x T t b,xs=[x,.ty T]/\zIJ X.K H x t/\PySem.W.kitOne X.K t (.type T)=some b/\Q (.bl b) H):=by
 intro pins s σ H xs us Q I r h
 obtain⟨x,T,t,b,rfl,ty,e,q⟩:=h
 obtain⟨u,w',rfl,rx,rT⟩:=vals2 r
 cases (show w'=Value.type T from rT)
 exact zJO I rx ty e fun tk=>⟨.bl b,H,I.tok tk,rfl,q⟩
theorem ps_no {st:Stmt}:PS X st (fun _ _ _=>False):=fun _ _ _ _ _ _ h=>h.elim
end
section
variable {prog:Program}{w:World}{A:Around}{s0:Shared}{I l:Addr}{bs:List Bool}
theorem zKm {R:Result->Shared->Prop}(hA:A.handled=none)(hI:s0.heap.objs.size<=I)(hl:s0.heap.IsList l (bs.map Value.bool).toArray)
 (hR:∀(h:Heap)(tk:Nat),Kp s0 h->R (.ok (.ret (.bool (bs.all id)))) { s0 with heap:=h,toks:=tk }) :
 ∀(r j:Nat)(h:Heap)(tk:Nat),bs.length-j=r->j<=bs.length->Kp s0 h->h.IsListIter I l j->(bs.take j).all id=true ->
  codeAny (model prog w) A (.builtin "all.loop" { pos:=[.ref I] }) R { s0 with heap:=h,toks:=tk }:=by
 have hl':∀h,Kp s0 h->h.IsList l (bs.map Value.bool).toArray:=fun h K=>by
  obtain⟨o,ho,hc⟩:=hl
  exact⟨o,K _ _ ho,hc⟩
 intro r
 induction r with
 | zero=>
  intro j h tk hr hj K hit ha
  refine codeAny_builtin PySem.F.entry_all_loop ?_
  unfold Builtin.«all.loop»
  refine zA (wpAny_pyNext_list_end hA hit (hl' h K) (by rw[zy];exact zz (by rw[zD];omega)) fun h' b=>?_)
  refine zA (zB7 (zB ?_))
  rw[za (by omega)] at ha
  have:=hR h' tk (K.but hI b)
  rw[ha] at this
  exact this
 | succ r ih=>
  intro j h tk hr hj K hit ha
  obtain⟨x,hx⟩:∃x,bs[j]? = some x:=⟨_,zE (by omega)⟩
  refine codeAny_builtin PySem.F.entry_all_loop ?_
  unfold Builtin.«all.loop»
  refine zA (wpAny_pyNext_list_item hit (hl' h K) (x:=.bool x) (by rw[zy,zQ,hx];rfl) fun h' hit' b=>?_)
  have K':Kp s0 h':=K.but hI fun c o hc e=>by rw[b.2 c hc];exact e
  refine zA (zw (zA9 (zA (wpAny_letGo ?_))))
  cases x with
  | true=>
   refine zB ⟨rfl,?_⟩
   exact ih (j+1) h' tk (by omega) (by omega) K' hit' (by rw[zAF,hx,List.all_append,ha];rfl)
  | false=>
   refine zA (zB7 (zB ?_))
   have e:bs.all id=false:=by
    cases z:bs.all id with
    | false=>rfl
    | true=>have:=zBI.mp z false (zW hx);simp at this
   have:=hR h' tk K'
   rw[e] at this
   exact this
end
section
variable {X:Cx}
theorem zHj:∀{bs:List Bool}{its:List Value},zBB (bs.map V.bl) its->its=bs.map Value.bool
 | [],[],_=>rfl
 | b::bs,u::its,h=>by
  cases h with
  | cons h1 h2=>rw[zAV,<-zHj h2,show u=Value.bool b from h1]
 | [],_::_,h=>by cases h
 | _::_,[],h=>by cases h
theorem zDm (hc:X.calm=true):zDN X (.builtin "all") (fun xs H Q=>∃(p:Addr)(bs:List Bool),xs=[.ref p]/\SqL X.K H p (bs.map V.bl)/\Q (.bl (bs.all id)) H):=by
 intro pins s σ H xs us Q I r h
 obtain⟨p,bs,rfl,hq,q⟩:=h
 obtain⟨u,rfl,rx⟩:=zDB r
 cases rx
 obtain⟨its,r',pl,hz⟩:=I.list hq
 rw[zHj r'] at pl
 refine zA5 (codeAny_call_builtin PySem.F.plain_all PySem.F.entry_all (wpAny_of_eq (m':=pure ()) rfl (zB ?_)))
 unfold Builtin.all
 refine zA (wpAny_of_eq (m':=pure (Value.ref p)) rfl (zB (zA (wpAny_pyIter_list pl.isList (zB ⟨rfl,?_⟩)))))
 refine zKm (s0:=s) (l:=p) (bs:=bs) (I.ok.hd hc) (zH _) pl.isList ?_ bs.length 0 _ s.toks rfl (zi _) (fun b o e=>zF _ e) ?_ rfl
 . exact fun h tk K=>⟨.bl _,H,I.kept K,rfl,q⟩
 . exact⟨_,zN _ rfl,rfl,rfl⟩
end
theorem zLe {prog:Program}{w:World}{h:Heap}(led:Bool):(h.push { cls:=.type "set",data:=.set #[] 0 (SetTable.fresh 0 0 led) }).SetOf (intKind prog w) h.objs.size (fun _=>false) 0:=by
 refine⟨_,#[],0,_,zN _ rfl,⟨rfl,rfl,rfl⟩,rfl,?_,fun k=>⟨fun z=>by simp at z,fun ⟨e,he,_⟩=>by simp at he⟩,by decide,?_,rfl⟩
 . first | exact ElemsOf.nil | trivial | (intro e he;simp at he)
 . cases led <;> first | rfl | decide +kernel
end L2
namespace L2
open PySem PySem.Spec PyProof.Rows
theorem zG5 {prog:Program}{w:World}{A:Around}{s:Shared}{l:Addr}{its:List Value}{ns:List Int}{Q E:Value->Shared->Prop}(hA:A.handled=none)(hl:s.heap.IsTuple l its.toArray)(hi:IntsAre its ns)(hz:its.length+1<scanBound)
 (q:∀(h:Heap)(tk:Nat),Kp s h->h.SetOf (intKind prog w) s.heap.objs.size (fun k'=>(firstMet (fun i=>ns.getD i 0) its.length).any fun x=>x==k') (firstMet (fun i=>ns.getD i 0) its.length).length->Q (.ref s.heap.objs.size) { s with heap:=h,toks:=tk }) :
 wpAny (model prog w) A (call (.type "set") [.ref l]) Q E s:=by
 refine zA5 (codeAny_of_tree (zB ⟨Code.quiet_builtin _ (by decide +kernel),codeAny_builtin PySem.F.entry_type_call ?_⟩))
 unfold Builtin.«type.__call__»
 dsimp only
 rw[if_neg (by rw[PySem.F.called_set.notType];decide)]
 rw[if_neg (by rw[PySem.F.called_set.canCreate];decide)]
 obtain⟨c,tl,hm⟩:=PySem.F.called_set.mro
 refine zA (wpAny_of_eq (PySem.F.typeCall_set_1 _) (zB (zA (wpAny_of_eq hm (zB ?_)))))
 refine zA (wpAny_of_eq PySem.F.called_set.made (zB (zA (zB ?_))))
 refine zA (zw (zA5 (codeAny_mono (code_set_new_1 (E:=E) (.ref l) (Q₁:=fun obj s₁=>obj = .ref s.heap.objs.size/\∃led,s₁={ s with heap:=s.heap.push { cls:=.type "set",data:=.set #[] 0 (SetTable.fresh 0 0 led) } }) fun led=>⟨rfl,led,rfl⟩) fun r s₁ e=>?_)))
 match r,e with
 | .ok (.ret obj),e=>
  obtain⟨rfl,led,rfl⟩:=e
  have h0:Kp s (s.heap.push { cls:=.type "set",data:=.set #[] 0 (SetTable.fresh 0 0 led) }):=fun b o e=>zF _ e
  have ht:∀h,Kp s h->h.IsTuple l its.toArray:=fun h K=>by
   obtain⟨o,ho,hr⟩:=hl
   exact⟨o,K _ _ ho,hr⟩
  have hlt:l<s.heap.objs.size:=by
   obtain⟨o,ho,_⟩:=hl
   exact zU ho
  have tyS:Shared.TypeIs { s with heap:=s.heap.push { cls:=.type "set",data:=.set #[] 0 (SetTable.fresh 0 0 led) } } (.ref s.heap.objs.size) "set" := ⟨_,zN _ rfl,rfl⟩
  show wpAny _ _ _ _ _ _
  refine zA (zAq tyS PySem.F.called_set.sub ?_)
  refine zA (zw ?_)
  unfold callSpecial?
  refine zA (wpAny_specialOf tyS PySem.F.called_set.init.lookup (zw (zA (wpAny_of_eq (PySem.F.called_set.init.bind _) (zB (zA (zA5 (codeAny_call_builtin PySem.F.called_set.init.plain PySem.F.entry_set_init (check_set_init_1 tyS ?_)))))))))
  unfold Builtin.«set.__init__»
  refine zA (wpAny_of_eq (m':=pure ()) rfl (zB ?_))
  dsimp only
  refine zA (zA (zA (zBN tyS (wpAny_of_eq (m':=pure (Value.type "set")) rfl (zB (wpAny_of_eq (m':=pure "set") rfl (zB ?_)))))))
  refine zA (wpAny_of_eq (m':=pure ()) rfl (zB (zA (zB ?_))))
  refine zA (zA (zA (wpAny_load (zN _ rfl) ?_)))
  refine wpAny_of_eq (m':=pure (#[],0,SetTable.fresh 0 0 led)) (by cases led <;> rfl) (zB (wpAny_of_eq (m':=pure false) (by cases led <;> rfl) (zB ?_)))
  have tyT:∀h tk,Kp s h->Shared.TypeIs { s with heap:=h,toks:=tk } (.ref l) "tuple" := fun h tk K=>by
   obtain⟨o,ho,hr⟩:=ht h K
   exact⟨o,ho,hr.1⟩
  show wpAny _ _ (Builtin.Frozenset.updateFrom "set.__init__" s.heap.objs.size (.ref l) >>= _) _ _ _
  unfold Builtin.Frozenset.updateFrom
  refine zA (zA (zA (zAq (tyT _ _ h0) PySem.F.sub_tuple_set (zAq (tyT _ _ h0) (b:=false) rfl ?_))))
  refine zA (zBN (tyT _ _ h0) ?_)
  refine zA (wpAny_pyIter_tuple (ht _ h0) (zA (wpAny_runValue ?_)))
  have hsz:(s.heap.push { cls:=.type "set",data:=.set #[] 0 (SetTable.fresh 0 0 led) }).objs.size=s.heap.objs.size+1:=zAr ..
  refine codeAny_set_update_loopS (Walks.toS (Walks.tuple (A:=(A.under (Code.builtin "type.__call__" { pos:=[.type "set",.ref l] })).in1.in1) hA (s.heap.push { cls:=.type "set",data:=.set #[] 0 (SetTable.fresh 0 0 led) }).objs.size l (zh (by rw[hsz];exact zAt hlt)) its.toArray)) s.heap.objs.size ?_ (fun i=>ns.getD i 0) ?_ (by simpa using hz) its.toArray.size 0 _ rfl (zi _) ?_ ?_ ?_
  . rw[hsz]
    intro z
    rcases zT.mp z with z | z
    . exact absurd z (zh (Nat.lt_succ_self _))
    . exact absurd (zn.mp z) (Nat.ne_of_gt hlt)
  . intro i v hv
    rw[zy] at hv
    exact hi.int_at i v hv
  . exact⟨⟨_,zN _ rfl,rfl,rfl⟩,ht _ fun b o e=>zF _ (h0 b o e)⟩
  . have:=zLe (prog:=prog) (w:=w) (h:=s.heap) led
    obtain⟨o,es,ep,t,ho,hr⟩:=this
    exact⟨o,es,ep,t,zF _ ho,hr⟩
  . intro s' mv so
    refine zB (zB (zB (zB ?_)))
    obtain⟨h',g',d',t',o'⟩:=s'
    obtain rfl:g'=s.gens:=mv.gens
    obtain rfl:d'=s.drawn:=mv.drawn
    obtain rfl:o'=s.os:=mv.os
    refine q h' t' (fun b o e=>mv.heap b o ?_ (zF _ (h0 b o e))) (by simpa using so)
    have hb:b<s.heap.objs.size:=zU e
    intro z
    rw[hsz] at z
    rcases zT.mp z with z | z
    . exact absurd z (zh hb)
    . exact absurd (zn.mp z) (zh (zAt hb))
 | .ok .next,e=>exact e.elim
 | .ok .brk,e=>exact e.elim
 | .ok .cont,e=>exact e.elim
 | .error v,e=>exact e
end L2
namespace L2
open PySem PySem.Spec PyProof.Rows
theorem zEc {ns:List Int}(h:ns.Nodup):∀k,k<=ns.length->firstMet (fun i=>ns.getD i 0) k=ns.take k
 | 0,_=>rfl
 | k+1,hk=>by
  rw[firstMet_succ,zEc h k (by omega)]
  have hx:ns[k]? = some (ns.getD k 0):=by rw[zM,zE (by omega)];rfl
  unfold step_dedup
  rw[if_neg,zAF,hx]
  . rfl
  . intro z
    obtain⟨y,hy,e⟩:=zB5.mp z
    have e':y=ns.getD k 0:=by simpa using e
    obtain⟨j,hj,ej⟩:=zx hy
    rw[zt] at hj
    rw[List.getElem_take] at ej
    obtain⟨hk',ek⟩:=zL.mp hx
    have:=(zAR.mp h)
    have:=zu.mp this j k (by omega) (by omega) (by omega)
    exact this (by rw[ej,ek,e'])
section
variable {X:Cx}
theorem zJn (hc:X.calm=true):zDN X (.type "set") (fun xs H Q=>∃(p:Addr)(ns:List Int),xs=[.ref p]/\SqT X.K H p (ns.map V.int)/\ns.length<=1000 /\
 ∀d S,H d=none->Q (.ref d) (upd H d (.set S (firstMet (fun i=>ns.getD i 0) ns.length).length))):=by
 intro pins s σ H xs us Q I r h
 obtain⟨p,ns,rfl,hq,hl,q⟩:=h
 obtain⟨u,rfl,rx⟩:=zDB r
 cases rx
 obtain⟨its,rv,pl,hz⟩:=I.tuple hq
 have hi:=zBa rv
 have hil:=hi.length
 refine zG5 (I.ok.hd hc) pl hi (by have:scanBound=4096:=rfl;omega) fun h tk K so=>?_
 rw[hil] at so
 exact⟨.ref s.heap.objs.size,_,I.laid (a:=s.heap.objs.size) (t':=tk) K (zH _) (show zBP X.prog X.w _ _ _ (.set _ _) from so),rfl,q _ _ I.fresh⟩
theorem zJp:zDN X (.builtin "len") (fun xs H Q=>∃(a:Addr)(S:Int->Bool)(n:Nat),xs=[.ref a]/\H a=some (.set S n)/\Q (.int n) H):=by
 intro pins s σ H xs us Q I r h
 obtain⟨a,S,n,rfl,ha,q⟩:=h
 obtain⟨u,rfl,rx⟩:=zDB r
 cases rx
 obtain⟨o,es,ep,t,ho,ex,hd,_,_,hb,hf,hn⟩:=(show zBP X.prog X.w H s.heap a (.set S n) from I.hok a _ ha)
 refine call_len_set ho ex hd hf (by have:scanBound=4096:=rfl;omega) ⟨.int n,H,I.tok _,⟨_,by rw[hn]⟩,q⟩
noncomputable def tBMT (r:V->List V->Hp->VK->Prop)(to:TE)(t:TA):TE:=fun σ H Q=>to σ H fun x H1=>(∃p ys,x = .ref p/\H1 p=some (.tup ys))/\t σ H1 fun xs H2=>r x xs H2 Q
variable {o e:Expr}{es:List Expr}{to:TE}{t:TA}{name:Str}{apos cpos:Pos}{id:String}{r:V->List V->Hp->VK->Prop}
theorem pe_bmT (slot:Slot "tuple" name id) (hty:typeOf (.builtin id)=pure (.type "method_descriptor")) (hm:MtR X id r)(ho:PE X o to)(ha:PA X (e::es) t)
 (hbase:attributeBase o name X.env (eval o X.env)=eval o X.env:=by rfl)
 (hfew:((backTo cpos (starEach (e::es) X.env)).all (fun x=>!x.1) && (backToKw cpos (keywordEach [] X.env)).all (fun x=>x.1.isSome)
  && decide ((e::es).length+([]:List Keyword).length+(if ([]:List Keyword).isEmpty then 0 else 1)<30))=true:=by rfl)
 (hline:(apos.endLine==cpos.line)=true:=by rfl)(hs:starEach (e::es) X.env=(false,eval e X.env)::starEach es X.env:=by rfl)(hplain:(backTo cpos (starEach es X.env)).any (·.1)=false:=by rfl) :
 PE X (.Call (.Attribute o name apos) (e::es) [] cpos) (tBMT r to t):=by
 intro pins s σ H Q I h
 refine wpAny_Call_method_late hbase hfew hline rfl (thn (ho pins s σ H _ I h) fun v s1 ⟨x,H1,I1,r1,⟨p,ys,ex,hp⟩,q1⟩=>?_)
 subst ex
 cases (show v=Value.ref p from r1)
 obtain⟨⟨_,o2,ho2,hd2⟩,its,rv,ob,hob,hcl,_⟩:=(show zBP X.prog X.w H1 s1.heap p (.tup ys) from I1.hok p _ hp)
 refine⟨"tuple",id,PySem.F.plainAttrs_tuple,slot,hty,⟨ob,hob,hcl⟩,fun a ea=>?_,?_⟩
 . cases ea
   exact⟨o2,ho2,hd2⟩
 have hA:=ha cpos pins s1 σ H1 _ I1 q1
 rw[hs] at hA ⊢
 refine Calls.callWith_builtin (by show (false || (backTo cpos (starEach es X.env)).any (·.1))=false;rw[hplain] <;> rfl) (Calls.evalArgs_plain ?_)
 exact thn hA fun us s2 ⟨vs,H2,I2,r2,q2⟩=>hm pins s2 σ H2 (.ref p) vs (.ref p) us Q I2 rfl r2 q2
end
section
variable {prog:Program}{w:World}{A:Around}{E:Value->Shared->Prop}
theorem zJQ {its:Array Value}{ns:List Int}{v:Int}{tv:Tok}{i:Nat}{R:Option PySem.Fin×Unit->Shared->Prop}(hi:IntsAre its.toList ns)(hv:ns[i]? = some v)(hno:∀j,j<i->ns[j]?≠some v)
 (f:Nat->Option PySem.Fin×Unit->Sem (ForInStep (Option PySem.Fin×Unit)))
 (hf:∀(j:Nat)(x:Option PySem.Fin×Unit),f j x=(match its[j]? with
  | some y=>do
   let b <-eqBool y (.int v tv)
   if b=true then do
    let r <-retInt j
    pure (.done (some r,()))
   else pure (.yield (none,()))
  | _=>pure (.yield (none,()))))
 (s:Shared)(hR:∀tk,R (some (.done (.ret (.int i s.toks))),()) { s with toks:=tk }) :
 ∀(r j:Nat)(b:Option PySem.Fin×Unit),i-j=r->j<=i->wpAny (model prog w) A (forIn (List.range' j (its.size-j) 1) b f) R E s:=by
 have hsz:its.size=ns.length:=by have:=hi.length;simpa using this
 have hil:i<ns.length:=(zL.mp hv).1
 have look:∀j,j<ns.length->∃t,its[j]? = some (.int (ns.getD j 0) t):=fun j hj=>by
  have hj':j<its.size:=by omega
  obtain⟨t,ht⟩:=hi.int_at j (its[j]'hj') (by rw[Array.getElem?_toList,Array.getElem?_eq_getElem hj'])
  exact⟨t,by rw[Array.getElem?_eq_getElem hj',ht]⟩
 intro r
 induction r with
 | zero=>
  intro j b hr hj
  obtain rfl:j=i:=by omega
  rw[show its.size-j=(its.size-j-1)+1 by omega,List.range'_succ,List.forIn_cons,hf]
  obtain⟨t,ht⟩:=look j hil
  rw[ht]
  refine zA (zA (wpAny_eqBool_int ?_))
  have e:ns.getD j 0=v:=by rw[zM,hv];rfl
  rw[e,show (v==v)=true by simp]
  refine zA (zA (wpAny_mkInt (zB (zB (zB ?_)))))
  exact hR _
 | succ r ih=>
  intro j b hr hj
  rw[show its.size-j=(its.size-(j+1))+1 by omega,List.range'_succ,List.forIn_cons,hf]
  obtain⟨t,ht⟩:=look j (by omega)
  rw[ht]
  refine zA (zA (wpAny_eqBool_int ?_))
  have hj':ns[j]? = some (ns.getD j 0):=by rw[zM,zE (by omega)];rfl
  have e:¬ ns.getD j 0=v:=fun z=>hno j (by omega) (by rw[hj',z])
  rw[show (ns.getD j 0==v)=false by simpa using e]
  refine zB ?_
  exact ih (j+1) _ (by omega) (by omega)
end
section
variable {X:Cx}
theorem zKW:MtR X "tuple.index" (fun x xs H Q=>∃(p:Addr)(ns:List Int)(i:Nat)(v:Int),x = .ref p/\xs=[.int v]/\SqT X.K H p (ns.map V.int)/\ns[i]? = some v/\(∀j,j<i->ns[j]?≠some v)/\Q (.int i) H):=by
 intro pins s σ H x xs v us Q I rx r h
 obtain⟨p,ns,i,k,rfl,rfl,hq,hi,hno,q⟩:=h
 cases (show v=Value.ref p from rx)
 obtain⟨u,rfl,t,rfl⟩:=zDB r
 obtain⟨its,rv,⟨ob,hob,hcl,n,hdat⟩,hz⟩:=I.tuple hq
 have hI:=zBa rv
 refine zA5 (codeAny_call_builtin PySem.F.slot_tuple_index.plain PySem.F.entry_tuple_index (PySem.F.slot_tuple_index.check _ _ _ _ _ _ _ _ ⟨ob,hob,hcl⟩ (PySem.F.args_tuple_index_2 _ _) ?_))
 unfold Builtin.«tuple.index»
 refine zA (wpAny_of_eq (m':=pure (Value.ref p,[Value.int k t])) rfl (zB ?_))
 refine zA (zA (zBE hob hdat (zB ?_)))
 refine zA (zB (zA (zB (zA ?_))))
 rw[Std.Legacy.Range.forIn_eq_forIn_range']
 have hsz:(Std.Legacy.Range.mk 0 (min its.toArray.size its.toArray.size) 1 (by decide)).size=its.toArray.size-0:=by
  show (min its.toArray.size its.toArray.size-0+1-1)/1=_
  rw[Nat.min_self];omega
 rw[hsz]
 refine zJQ (its:=its.toArray) (ns:=ns) (v:=k) (tv:=t) (i:=i) hI hi hno _ (fun j x=>by rfl) s (fun tk=>?_) i 0 _ (by omega) (zi _)
 exact zB ⟨.int i,H,I.tok _,⟨_,rfl⟩,q⟩
end
section
variable {X:Cx}{pl:List (Addr×Obj)}{N':List Str}{sc:Scope}{fp:List Addr}{s3:Shared}{H3:Hp}
theorem zI9:MtR (zBu X pl N' sc fp s3 H3) "tuple.index" (fun x xs H Q=>∃(p:Addr)(ns:List Int)(i:Nat)(v:Int),x = .ref p/\xs=[.int v]/\SqT X.K H p (ns.map V.int)/\ns[i]? = some v/\(∀j,j<i->ns[j]?≠some v)/\Q (.int i) H):=zKW
end
end L2
namespace L2
open PySem PySem.Spec PyProof.Rows
section
variable {X:Cx}
end
end L2
namespace L2
open PySem PySem.Spec PyProof.Rows
section
variable {prog:Program}{w:World}{A:Around}{s:Shared}{l:Addr}{its:List Value}{ns:List Int}{v:Int}{tv:Tok}
end
section
variable {X:Cx}
end
end L2
namespace WM
open L2
structure En where
 h:Int
 l:Int
 u:Option Int
 d:Option Int
noncomputable def Hub (es:List En):Prop:=es.Pairwise fun a b=>a.h<b.h
end WM
namespace L2
open PySem PyProof.Rows
end L2
namespace WM
end WM
namespace L2
open PySem PySem.Spec PyProof.Rows
section
variable {X:Cx}
end
end L2
namespace L2
open PySem PySem.Spec PyProof.Rows
section
variable {X:Cx}
noncomputable def rCatA (K:PySem.W.Frag):R2:=fun x y H Q=>∃a b xs ys,x = .ref a/\y = .ref b/\SqT K H a xs/\SqT K H b ys/\xs.length+ys.length<=sizeLine /\
 (xs=[]->Q (.ref b) H)/\(xs≠[]->ys=[]->Q (.ref a) H)/\(xs≠[]->ys≠[]->∀p,H p=none->Q (.ref p) (upd H p (.tup (xs++ys))))
theorem zMJ {prog:Program}{w:World}{A:Around}{E:Value->Shared->Prop}{s:Shared}{t b:Addr}{ws:List Value}{Q:Value->Shared->Prop}(ht:IsTup s.heap t #[])(hb:IsTup s.heap b ws.toArray)
 (h:Q (.ref b) s):wpAny (model prog w) A (binaryOp .Add (.ref t) (.ref b)) Q E s:=by
 obtain⟨⟨cls,dd,data,sl⟩,ho,hc,n,hd⟩:=id ht
 obtain⟨⟨cls2,dd2,data2,sl2⟩,ho2,hc2,n2,hd2⟩:=id hb
 simp only at hc hd hc2 hd2
 subst hc hd hc2 hd2
 exact concat_meets ⟨_,ho,rfl⟩ ⟨_,ho2,rfl⟩ noFill_tuple_add seq_tuple_add PySem.F.slot_tuple_add PySem.F.entry_tuple_add (PySem.F.args_tuple_add_2 _ _)
  (tuple_addW0 t b #[] ws.toArray n n2 dd dd2 sl sl2 rfl) ⟨ho,ho2,h⟩
theorem zI2:OpR X (binaryOp .Add) (rCatA X.K):=by
 intro pins s σ H x y v u Q I rx ry h
 obtain⟨a,b,xs,ys,rfl,rfl,ha,hb,hz,q0,q1,q2⟩:=h
 by_cases hx:xs=[]
 . subst hx
   cases rx
   cases ry
   obtain⟨its,r1,p1,_⟩:=I.tuple ha
   obtain⟨its2,r2,p2,_⟩:=I.tuple hb
   cases r1
   exact zMJ p1 p2 ⟨.ref b,H,I,rfl,q0 rfl⟩
 . exact zLr pins s σ H _ _ v u Q I rx ry ⟨a,b,xs,ys,rfl,rfl,ha,hb,hx,hz,q1 hx,q2 hx⟩
end
end L2
namespace L2
open PySem PySem.Spec PyProof.Rows
section
variable {X:Cx}
end
end L2
namespace HT
open PySem PySem.Spec PyProof.Rows
section
open PySem.SeqAt
open PySem.AutoSeq1 (wpAny_loadPart')
open PySem.MeetsSeq PySem.MeetsSeq2 PySem.MeetsSeq3
end
end HT
namespace L2
open PySem PySem.Spec PyProof.Rows
section
variable {X:Cx}
end
end L2
namespace HT
open PySem PySem.Spec PyProof.Rows
section
variable {prog:Program}{w:World}{A:Around}{E:Value->Shared->Prop}{s:Shared}
theorem getItem_tuple_all {t sl:Addr}{items:Array Value}{vl vu:Value}{lo hi:Option Int}{Q:Value->Shared->Prop}(ht:IsTup s.heap t items)(hs:s.heap.IsSliceOf sl vl vu .none)(pl:IsPart vl lo)(pu:IsPart vu hi)
 (hw:sIx items.size 0 lo=0/\sIx items.size items.size hi=items.size)(h:Q (.ref t) s):wpAny (model prog w) A (getItem (.ref t) (.ref sl)) Q E s:=by
 obtain⟨os,hos,hcs,hds⟩:=id hs
 have hTs:s.TypeIs (.ref sl) "slice" := ⟨os,hos,hcs⟩
 unfold getItem
 try with_reducible refine zw ?_
 first | refine zA (zB ?_) | skip
 refine zA (wpAny_sequenceKey ht.typeIs (by decide) ?_)
 refine zA (zAs (name:=Str.ofString "__getitem__") ht.typeIs PyProof.Rows.slot_tuple_getitem
  (zAa PyProof.Rows.slot_tuple_getitem ht.typeIs entry_tuple_getitem ?_ (args_tuple_getitem _ _)))
 show wpAny _ _ (Builtin.Tuple.tupleItemsOf (.ref t) >>= _) _ _ s
 refine zA (tupleItemsOf_ ht ?_)
 refine zA (zBN hTs ?_)
 rw[if_pos (by decide)]
 refine zA (zCv hs pl pu ?_)
 have hyes:(((sIx items.size 0 lo:Nat):Int)==0 && (1:Int)==1 && (sIx items.size items.size hi-sIx items.size 0 lo)==items.size)=true:=by
  rw[hw.1,hw.2];simp
 show wpAny _ _ (if (((sIx items.size 0 lo:Nat):Int)==0 && (1:Int)==1 && (sIx items.size items.size hi-sIx items.size 0 lo)==items.size)=true then _ else _) _ _ s
 rw[if_pos hyes]
 unfold Builtin.Tuple.tupleIsExact
 refine zA (zA (zBN ht.typeIs (zB ?_)))
 rw[if_pos (by decide)]
 first
  | exact zA (zB7 (zB ⟨_,rfl,zB h⟩))
  | exact zA (zB7 (zB (zB ⟨_,rfl,zB h⟩)))
  | exact zA (zB7 (zA (zB (zB ⟨_,rfl,zB h⟩))))
  | exact zB7 (zB ⟨_,rfl,zB h⟩)
end
end HT
namespace L2
open PySem PySem.Spec PyProof.Rows
section
variable {X:Cx}{e:Expr}{te:TE}{pos p2 p3 p4:Pos}
noncomputable def rSlA (K:PySem.W.Frag):V->Option Int->Option Int->Hp->VK->Prop:=fun x lo hi H Q=>∃a xs,x = .ref a/\SqT K H a xs /\
 ((HT.sIx xs.length 0 lo=0/\HT.sIx xs.length xs.length hi=xs.length)->Q (.ref a) H)/\(¬ (HT.sIx xs.length 0 lo=0/\HT.sIx xs.length xs.length hi=xs.length)->∀p,H p=none->Q (.ref p) (upd H p (.tup (zEl xs lo hi))))
theorem zLd:SlR X (rSlA X.K):=by
 intro pins s σ H x v vl vu lo hi sl Q I rx hs pl pu h
 obtain⟨a,xs,rfl,hx,q1,q2⟩:=h
 by_cases c:HT.sIx xs.length 0 lo=0/\HT.sIx xs.length xs.length hi=xs.length
 . cases rx
   obtain⟨its,r,ht,hz⟩:=I.tuple hx
   have hlen:its.toArray.size=xs.length:=by rw[zS];exact r.length.symm
   refine⟨"tuple",_,PyProof.Rows.slot_tuple_getitem.lookup,ht.typeIs,?_⟩
   exact HT.getItem_tuple_all ht hs pl pu (by rw[hlen];exact c) ⟨.ref a,H,I,rfl,q1 c⟩
 . exact sl_tup pins s σ H _ v vl vu lo hi sl Q I rx hs pl pu ⟨a,xs,rfl,hx,c,q2 c⟩
end
end L2
namespace STb
open PySem
noncomputable def Ris (xs:Array Nat):Prop:=xs.toList.Pairwise (· < ·)
theorem Ris.lt {xs:Array Nat}(h:Ris xs){i j:Nat}{a b:Nat}(hij:i<j)(hi:xs[i]? = some a)(hj:xs[j]? = some b):a<b:=by
 obtain⟨h1,e1⟩:=Array.getElem?_eq_some_iff.mp hi
 obtain⟨h2,e2⟩:=Array.getElem?_eq_some_iff.mp hj
 have:=zu.mp h i j (by simpa using h1) (by simpa using h2) hij
 simpa [e1,e2] using this
theorem zL8 {xs:Array Nat}(h:Ris xs)(j:Nat):∀(fuel lo hi:Nat),hi-lo<=fuel->lo<=hi->hi<=xs.size->(∀k v,k<lo->xs[k]? = some v->v<j)->(∀k v,hi<=k->xs[k]? = some v->j<=v) ->
 lo<=SetTable.below.go xs j fuel lo hi/\SetTable.below.go xs j fuel lo hi<=hi/\(∀k v,k<SetTable.below.go xs j fuel lo hi->xs[k]? = some v->v<j)/\(∀k v,SetTable.below.go xs j fuel lo hi<=k->xs[k]? = some v->j<=v):=by
 intro fuel
 induction fuel with
 | zero=>
  intro lo hi hf hl hs h1 h2
  have:lo=hi:=by omega
  subst this
  exact⟨zH _,zH _,h1,h2⟩
 | succ fuel ih=>
  intro lo hi hf hl hs h1 h2
  unfold SetTable.below.go
  by_cases c:lo<hi
  . rw[if_pos c]
    have hm:(lo+hi)/2<xs.size:=by omega
    have em:xs[(lo+hi)/2]? = some xs[(lo+hi)/2]:=Array.getElem?_eq_getElem hm
    have eg:xs.getD ((lo+hi)/2) j=xs[(lo+hi)/2]:=by simp[Array.getD,hm]
    dsimp only
    rw[eg]
    by_cases d:xs[(lo+hi)/2]<j
    . rw[if_pos d]
      obtain⟨a,b,c1,c2⟩:=ih ((lo+hi)/2+1) hi (by omega) (by omega) hs (fun k v hk e=>by
       by_cases z:k=(lo+hi)/2
       . subst z;rw[em] at e;cases e;exact d
       . have:=h.lt (i:=k) (j:=(lo+hi)/2) (by omega) e em;omega) h2
      exact⟨by omega,b,c1,c2⟩
    . rw[if_neg d]
      obtain⟨a,b,c1,c2⟩:=ih lo ((lo+hi)/2) (by omega) (by omega) (by omega) h1 (fun k v hk e=>by
       by_cases z:k=(lo+hi)/2
       . subst z;rw[em] at e;cases e;omega
       . have:=h.lt (i:=(lo+hi)/2) (j:=k) (by omega) em e;omega)
      exact⟨a,by omega,c1,c2⟩
  . rw[if_neg c]
    have:lo=hi:=by omega
    subst this
    exact⟨zH _,zH _,h1,h2⟩
theorem zDu {xs:Array Nat}(h:Ris xs)(j:Nat):SetTable.below xs j<=xs.size/\(∀k v,k<SetTable.below xs j->xs[k]? = some v->v<j)/\(∀k v,SetTable.below xs j<=k->xs[k]? = some v->j<=v):=by
 obtain⟨_,a,b,c⟩:=zL8 h j xs.size 0 xs.size (by omega) (by omega) (zH _) (fun k v hk _=>absurd hk (zBw _)) (fun k v hk e=>by
  have:=(Array.getElem?_eq_some_iff.mp e).1;omega)
 exact⟨a,b,c⟩
theorem zIG {xs:Array Nat}(h:Ris xs){i a:Nat}(e:xs[i]? = some a):SetTable.below xs (a+1)=i+1:=by
 obtain⟨h1,h2,h3⟩:=zDu h (a+1)
 have hi:=(Array.getElem?_eq_some_iff.mp e).1
 rcases Nat.lt_trichotomy (SetTable.below xs (a+1)) (i+1) with c | c | c
 . have:=h3 i a (by omega) e;omega
 . exact c
 . have hl:i+1<xs.size:=by omega
   have e2:xs[i+1]? = some xs[i+1]:=Array.getElem?_eq_getElem hl
   have a1:=h2 (i+1) _ c e2
   have a2:=h.lt (i:=i) (j:=i+1) (by omega) e e2
   omega
theorem zIF {xs:Array Nat}(h:Ris xs):SetTable.below xs 0=0:=by
 obtain⟨h1,h2,h3⟩:=zDu h 0
 rcases Nat.eq_zero_or_pos (SetTable.below xs 0) with c | c
 . exact c
 . have hl:0<xs.size:=by omega
   have:=h2 0 _ c (Array.getElem?_eq_getElem hl)
   omega
theorem zH8 {xs:Array Nat}(h:Ris xs){j:Nat}(ne:xs[SetTable.below xs j]?≠some j):Ris (SetTable.insertAt xs (SetTable.below xs j) j):=by
 obtain⟨h1,h2,h3⟩:=zDu h j
 unfold Ris
 rw[SetTable.toList_insertAt]
 have hp:(xs.toList.take (SetTable.below xs j)++xs.toList.drop (SetTable.below xs j)).Pairwise (· < ·):=by rw[zBf];exact h
 obtain⟨p1,p2,p3⟩:=List.pairwise_append.mp hp
 have lo:∀a∈xs.toList.take (SetTable.below xs j),a<j:=fun a ha=>by
  obtain⟨k,hk,e⟩:=zx ha
  rw[zt] at hk
  rw[List.getElem_take] at e
  exact h2 k a (by omega) (by rw[<-Array.getElem?_toList,zE (by omega),e])
 have hi:∀a∈xs.toList.drop (SetTable.below xs j),j<a:=fun a ha=>by
  obtain⟨k,hk,e⟩:=zx ha
  rw[List.length_drop] at hk
  rw[List.getElem_drop] at e
  have eg:xs[SetTable.below xs j+k]? = some a:=by rw[<-Array.getElem?_toList,zE (by omega),e]
  have:=h3 _ a (by omega) eg
  by_cases c:k=0
  . subst c
    rw[Nat.add_zero] at eg
    have:a≠j:=fun z=>ne (by rw[eg,z])
    omega
  . have hz:SetTable.below xs j<xs.size:=by simp at hk;omega
    have e0:xs[SetTable.below xs j]? = some xs[SetTable.below xs j]:=Array.getElem?_eq_getElem hz
    have a0:=h3 _ _ (zH _) e0
    have a1:=h.lt (i:=SetTable.below xs j) (j:=SetTable.below xs j+k) (by omega) e0 eg
    omega
 refine List.pairwise_append.mpr ⟨p1,zBg.mpr ⟨hi,p2⟩,fun a ha b hb=>?_⟩
 rcases zT.mp hb with rfl | hb
 . exact lo a ha
 . exact p3 a ha b hb
structure GT (led:Bool)(t:SetTable):Prop where
 dm:t.dummies = #[]
 ld:t.led=led
 rs:t.plain=true->Ris t.place
theorem zKe (led:Bool):GT led (SetTable.fresh 0 0 led):=⟨rfl,rfl,fun _=>List.Pairwise.nil⟩
theorem zJS (j:Nat):SetTable.has #[] j=false:=by
 unfold SetTable.has
 simp
theorem zEw {t:SetTable}(hd:t.dummies = #[]){j:Nat}:(t.slot j = .empty->t.place[SetTable.below t.place j]?≠some j)/\t.slot j ≠ .dummy:=by
 unfold SetTable.slot
 rw[hd,zJS]
 dsimp only
 constructor
 . intro h e
   rw[e] at h
   simp at h
 . split <;> simp
theorem zGo {t:SetTable}(hd:t.dummies = #[]){ha:Nat->Int}{hh:Int}{j:Nat}{d:Option Nat}:∀(fuel:Nat)(p:SetTable.Probe),p.dummy=none->SetTable.probe.go t ha hh fuel p=some (.empty j d)->t.slot j = .empty/\d=none:=by
 intro fuel
 induction fuel with
 | zero=>intro p _ h;unfold SetTable.probe.go at h;cases h
 | succ fuel ih=>
  intro p hp h
  unfold SetTable.probe.go at h
  cases e:t.slot p.j with
  | empty=>
   rw[e] at h
   simp only[Option.some.injEq,SetTable.Met.empty.injEq] at h
   exact⟨by rw[<-h.1];exact e,by rw[<-h.2];exact hp⟩
  | dummy=>exact absurd e (zEw hd).2
  | live i=>
   rw[e] at h
   dsimp only at h
   split at h
   . cases h
   . refine ih _ ?_ h
     unfold SetTable.advance
     split
     . exact hp
     . exact hp
theorem zIB {t:SetTable}(hd:t.dummies = #[]){hh:Int}{j:Nat}{w:Bool}(h:t.freeSlot hh=some (j,w)):t.place[SetTable.below t.place j]?≠some j:=by
 unfold SetTable.freeSlot at h
 cases e:t.probe (fun _=>hh+1) hh (t.probeStart hh) with
 | none=>rw[e] at h;cases h
 | some met=>
  rw[e] at h
  cases met with
  | candidate a b c=>cases h
  | empty j' d=>
   obtain⟨e1,e2⟩:=zGo hd _ _ rfl e
   subst e2
   simp only[Option.getD_none,Option.some.injEq,Prod.mk.injEq] at h
   rw[<-h.1]
   exact (zEw hd).1 e1
theorem gt_put {led:Bool}{t:SetTable}(g:GT led t){j:Nat}(h:t.place[SetTable.below t.place j]?≠some j):GT led (t.put j).1:=by
 unfold SetTable.put
 refine⟨?_,g.ld,fun hp=>zH8 (g.rs hp) h⟩
 dsimp only
 rw[g.dm,zJS]
 rfl
theorem zEA {led:Bool}{t:SetTable}(g:GT led t)(n:Nat):GT led (t.standIn n):=⟨rfl,g.ld,fun h=>by cases h⟩
theorem gt_or {led:Bool}{t:SetTable}(g:GT led t)(n:Nat):GT led (t.orStandIn n):=by
 unfold SetTable.orStandIn
 split
 . exact g
 . exact zEA g n
theorem gt_lay {led:Bool}{t:SetTable}(g:GT led t)(es:Array (Int×Value))(h:Int)(x:Value):GT led (layNew t es h x).2.1:=by
 unfold layNew
 cases e:t.freeSlot h with
 | none=>exact zEA g _
 | some q=>
  obtain⟨j,w⟩:=q
  exact gt_or (gt_put g (zIB g.dm e)) _
theorem zHs {f:Nat->Option Nat}:∀(l:List Nat),l.Pairwise (· < ·)->((l.filterMap fun j=>(f j).map (j,·)).map (·.1)).Pairwise (· < ·):=by
 intro l h
 rw[zBC,List.pairwise_filterMap]
 refine h.imp fun {a b} hab x hx y hy=>?_
 cases ea:f a with
 | none=>rw[ea] at hx;cases hx
 | some u=>
  cases eb:f b with
  | none=>rw[eb] at hy;cases hy
  | some v=>
   rw[ea] at hx
   rw[eb] at hy
   cases hx
   cases hy
   exact hab
theorem zKd {led:Bool}{t:SetTable}(g:GT led t)(es:Array (Int×Value))(n:Nat):GT led (relayAll t es n).2.1:=by
 unfold relayAll
 cases e:t.relaid (es.map (·.1)) n with
 | none=>exact zEA g _
 | some q=>
  obtain⟨t',order⟩:=q
  dsimp only
  split
  . unfold SetTable.relaid SetTable.laid at e
    simp only[Option.bind_eq_bind,Option.bind_eq_some_iff,Option.pure_def,Option.some.injEq,Prod.mk.injEq] at e
    obtain⟨owner,_,e1,_⟩:=e
    rw[<-e1]
    refine⟨rfl,g.ld,fun _=>?_⟩
    show List.Pairwise _ (List.map _ _).toArray.toList
    exact zHs _ List.pairwise_lt_range
  . exact zEA g _
end STb
namespace STb
open PySem PySem.Spec PyProof.Rows L2
section
variable {prog:Program}{w:World}{A:Around}{E:Value->Shared->Prop}{s:Shared}
structure Brs (prog:Program)(w:World)(led:Bool)(S:Int->Bool)(n:Nat)(el:Array (Int×Value))(tb:SetTable):Prop where
 elm:ElemsOf (intKind prog w) el.toList
 mem:∀k,S k=true↔∃e∈el.toList,(intKind prog w).is k e.2=true
 few:el.size<scanBound
 fit:tb.fits el.size=true
 siz:el.size=n
 gt:GT led tb
noncomputable def zFb (prog:Program)(w:World)(led:Bool)(h:Heap)(a:Addr)(S:Int->Bool)(n:Nat):Prop:=
 ∃ob el ep tb,h.get? a=some ob/\ob.ExactSet/\ob.data = .set el ep tb/\Brs prog w led S n el tb
theorem zFb.keep {led:Bool}{h h':Heap}{a:Addr}{S:Int->Bool}{n:Nat}(x:zFb prog w led h a S n)(k:∀o,h.get? a=some o->h'.get? a=some o):zFb prog w led h' a S n:=
 let ⟨ob,el,ep,tb,g1,g2,g3,g4⟩:=x;⟨ob,el,ep,tb,k _ g1,g2,g3,g4⟩
theorem zFb.congr {led:Bool}{h:Heap}{a:Addr}{S S':Int->Bool}{n n':Nat}(x:zFb prog w led h a S n)(e:∀k,S' k=S k)(en:n'=n):zFb prog w led h a S' n':=by
 obtain⟨ob,el,ep,tb,g1,g2,g3,g4⟩:=x
 subst en
 exact⟨ob,el,ep,tb,g1,g2,g3,⟨g4.elm,fun k=>by rw[e k];exact g4.mem k,g4.few,g4.fit,g4.siz,g4.gt⟩⟩
theorem zK0 {h:Heap}{a:Addr}{ob:Obj}{el:Array (Int×Value)}{ep:Nat}{tb:SetTable}(g1:h.get? a=some ob)(g3:ob.data = .set el ep tb)(el':Array (Int×Value))(tb':SetTable) :
 (h.update a (Obj.putSet el' tb')).get? a=some { ob with data:=.set el' (ep+1) tb' }:=by
 have q:=zv (Obj.putSet el' tb') g1 (by rw[putSet_of el' tb' g3];rfl)
 rwa [putSet_of el' tb' g3] at q
theorem zKv {led:Bool}{a:Addr}{ob:Obj}{el el1:Array (Int×Value)}{ep:Nat}{tb tb1:SetTable}{S:Int->Bool}{n:Nat}{wd:Bool}{R:Option Bool->Shared->Prop}{note:Bool->Sem Unit}
 (hn:∀(b:Bool)(s₁:Shared)(Q':Unit->Shared->Prop),Q' () s₁->wpAny (model prog w) A (note b) Q' E s₁)
 (g1:s.heap.get? a=some ob)(g2:ob.ExactSet)(g3:ob.data = .set el ep tb)(B:Brs prog w led S n el1 tb1)
 (q:∀h',Heap.SameBut a s.heap h'->zFb prog w led h' a S n->R (some true) { s with heap:=h' }) :
 wpAny (model prog w) A (storeSet a el1 tb1 >>= fun _=>if (!wd && tb1.tooFull)=true then (note (relayAll tb1 el1 (SetTable.grown el1.size)).2.2 >>= fun _=>storeSet a (relayAll tb1 el1 (SetTable.grown el1.size)).1 (relayAll tb1 el1 (SetTable.grown el1.size)).2.1 >>= fun _=>pure (some true)) else pure (some true)) R E s:=by
 refine zA (wpAny_storeSet_of g1 g3 ?_ (fits_of_scanBound B.few))
 have p1:=zK0 g1 g3 el1 tb1
 have b1:=zAp s.heap a (Obj.putSet el1 tb1)
 by_cases c:(!wd && tb1.tooFull)=true
 . rw[if_pos c]
   have pm:=relayAll_perm tb1 el1 (SetTable.grown el1.size)
   have pf:=relayAll_fits tb1 el1 (SetTable.grown el1.size)
   have pg:=zKd B.gt el1 (SetTable.grown el1.size)
   generalize relayAll tb1 el1 (SetTable.grown el1.size)=ra at pm pf pg ⊢
   obtain⟨el2,tb2,gv⟩:=ra
   dsimp only at pm pf pg ⊢
   have z:el2.size=el1.size:=by rw[<-Array.length_toList,pm.length_eq,Array.length_toList]
   refine zA (hn _ _ _ (zA (wpAny_storeSet_of p1 rfl ?_ (fits_of_scanBound (by rw[z];exact B.few)))))
   refine zB (q _ (b1.trans (zAp _ a _)) ⟨_,el2,_,tb2,zK0 p1 rfl el2 tb2,g2,rfl,⟨B.elm.perm pm,fun k=>(B.mem k).trans ?_,by rw[z];exact B.few,pf,by rw[z];exact B.siz,pg⟩⟩)
   exact⟨fun ⟨e,he,u⟩=>⟨e,pm.mem_iff.mpr he,u⟩,fun ⟨e,he,u⟩=>⟨e,pm.mem_iff.mp he,u⟩⟩
 . rw[if_neg c]
   exact zB (q _ b1 ⟨_,el1,_,tb1,p1,g2,rfl,B⟩)
theorem add_g {led:Bool}{a:Addr}{S:Int->Bool}{n:Nat}{k:Int}{tk:Tok}{Q:Bool->Shared->Prop}(G:zFb prog w led s.heap a S n)(room:n+1<scanBound)
 (q:∀h',Heap.SameBut a s.heap h'->zFb prog w led h' a (fun j=>S j || decide (j=k)) (if S k then n else n+1)->Q (!S k) { s with heap:=h' }) :
 wpAny (model prog w) A (setAddHashed a (.int k tk) ((intKind prog w).hash k)) Q E s:=by
 have kk:(intKind prog w).is k (.int k tk)=true:=intKind_is _ _ _ _
 obtain⟨ob,el,ep,tb,g1,g2,g3,B⟩:=G
 unfold setAddHashed setAddHashedIn
 refine zw (zA (zBR g1 g3 B.fit ?_))
 dsimp only
 rw[byScan_of (knd:=intKind prog w) (x:=.int k tk) rfl B.few B.elm]
 rw[if_pos rfl]
 unfold setAddByScan
 refine zA (zA (zB7 (zA (wpAny_setScan_of kk g1 g3 B.fit B.elm ?_))))
 cases fi:el.toList.findIdx? (fun e=>(intKind prog w).is k e.2) with
 | some j=>
  obtain⟨hj,hp,_⟩:=List.findIdx?_eq_some_iff_getElem.mp fi
  have yes:S k=true:=(B.mem k).mpr ⟨_,zBH hj,hp⟩
  refine zB (zB ?_)
  have r:=q s.heap (Heap.SameBut.refl a s.heap) ⟨ob,el,ep,tb,g1,g2,g3,⟨B.elm,fun i=>?_,B.few,B.fit,by rw[yes];exact B.siz,B.gt⟩⟩
  . rw[yes] at r
    exact r
  . rw[Bool.or_eq_true,decide_eq_true_eq,<-B.mem i]
    exact⟨fun z=>z.elim id fun e=>by rw[e];exact yes,.inl⟩
 | none=>
  have no:S k=false:=by
   cases hk:S k with
   | false=>rfl
   | true=>
    obtain⟨e,he,hp⟩:=(B.mem k).mp hk
    have:=List.findIdx?_eq_none_iff.mp fi e he
    rw[hp] at this
    cases this
  dsimp only
  have pm:=layNew_perm tb el ((intKind prog w).hash k) (.int k tk)
  have pf:=layNew_fits tb el ((intKind prog w).hash k) (.int k tk)
  have pg:=gt_lay B.gt el ((intKind prog w).hash k) (.int k tk)
  generalize layNew tb el ((intKind prog w).hash k) (.int k tk)=la at pm pf pg ⊢
  obtain⟨el1,tb1,wd,gv⟩:=la
  dsimp only at pm pf pg ⊢
  rw[Array.toList_push] at pm
  have z:el1.size=n+1:=by
   rw[<-Array.length_toList,pm.length_eq,zC,Array.length_toList,B.siz]
   rfl
  have B1:Brs prog w led (fun j=>S j || decide (j=k)) (n+1) el1 tb1:=⟨(B.elm.push kk rfl).perm pm,mem_push_iff kk B.mem pm,by rw[z];exact room,pf,z,pg⟩
  have fin:∀h',Heap.SameBut a s.heap h'->zFb prog w led h' a (fun j=>S j || decide (j=k)) (n+1)->Q true { s with heap:=h' }:=fun h' hs hG=>by
   have r:=q h' hs
   rw[no] at r
   exact r hG
  have nt:∀(b:Bool)(s₁:Shared)(Q':Unit->Shared->Prop),Q' () s₁->wpAny (model prog w) A (match b with | true=>rule "set.scan.the-table-gave-way" | false=>pure ()) Q' E s₁:=fun b s₁ Q' u=>by
   cases b
   . exact zB u
   . exact zB7 u
  refine zA (nt gv _ _ ?_)
  by_cases c:tb1.plain=true
  . rw[if_pos c]
    refine zA (wpAny_of_eq (m':=pure true) rfl (zB ?_))
    rw[if_pos rfl]
    exact zKv nt g1 g2 g3 B1 fun h' hs hG=>zB (fin h' hs hG)
  . rw[if_neg c]
    refine zA (zB ?_)
    rw[if_pos rfl]
    exact zKv nt g1 g2 g3 B1 fun h' hs hG=>zB (fin h' hs hG)
end
end STb
namespace STb
open PySem PySem.Spec PyProof.Rows L2
theorem zCR:Slot "set_iterator" "__next__" "set_iterator.__next__" := .of (owner := "set_iterator") (n := "__next__") (by rw[typeLookup_type,builtinLookup_eq_fast];kernel_rfl) (by decide +kernel) (by decide +kernel) (by decide +kernel) (by first | exact .inl (by decide +kernel) | exact .inr (by decide +kernel)) (by rw[isSubtype_type];kernel_rfl)
theorem zIc:Slot "set_iterator" "__iter__" "set_iterator.__iter__" := .of (owner := "set_iterator") (n := "__iter__") (by rw[typeLookup_type,builtinLookup_eq_fast];kernel_rfl) (by decide +kernel) (by decide +kernel) (by decide +kernel) (by first | exact .inl (by decide +kernel) | exact .inr (by decide +kernel)) (by rw[isSubtype_type];kernel_rfl)
theorem zCO:entryFor table "set_iterator.__next__" = some Builtin.«set_iterator.__next__» := entryFor_of_tree (by kernel_rfl)
theorem zFG:entryFor table "set_iterator.__iter__" = some Builtin.«dict_keyiterator.__iter__» := entryFor_alias (id' := "dict_keyiterator.__iter__") (by kernel_rfl) (by first | rfl | decide +kernel) (by decide +kernel) (by kernel_rfl)
theorem zEo:entryFor table "set.__iter__" = some Builtin.«frozenset.__iter__» := entryFor_alias (id' := "frozenset.__iter__") (by kernel_rfl) (by first | rfl | decide +kernel) (by decide +kernel) (by kernel_rfl)
theorem zHF:Manifest.owners.lookup (String.ofList ['r','o','t','a','r','e','t','i','_','t','e','s'].reverse)=some Manifest.sig_set_iterator:=by kernel_rfl
theorem zCa (a:Value):argsOk "set_iterator.__next__" ⟨[a],[]⟩:=by
 unfold argsOk
 rw[signature?_of (id := "set_iterator.__next__") (n:=['_','_','t','x','e','n','_','_']) (o:=['r','o','t','a','r','e','t','i','_','t','e','s']) (by kernel_rfl) zHF]
 kernel_rfl
theorem zFm (a:Value):argsOk "set_iterator.__iter__" ⟨[a],[]⟩:=by
 unfold argsOk
 rw[signature?_of (id := "set_iterator.__iter__") (n:=['_','_','r','e','t','i','_','_']) (o:=['r','o','t','a','r','e','t','i','_','t','e','s']) (by kernel_rfl) zHF]
 kernel_rfl
theorem zG1 {α:Type}:∀{l:List α}{k:Nat}{x:α},l[k]? = some x->(x::l.eraseIdx k).Perm l
 | [],_,_,h=>by simp at h
 | _::_,0,_,h=>by simp at h;subst h;exact List.Perm.refl _
 | y::r,k+1,x,h=>by
  show (x::y::r.eraseIdx k).Perm (y::r)
  exact (List.Perm.swap y x _).trans ((zG1 (by simpa using h)).cons y)
theorem zIu {α:Type}(next:Nat->Nat):∀(fuel k:Nat)(left:List α)(out:Array α),left.length=fuel->(pickOrder.go next fuel k left out).toList.Perm (out.toList++left)
 | 0,k,left,out,h=>by
  have:left=[]:=zA3.mp h
  subst this
  unfold pickOrder.go
  rw[zq]
 | fuel+1,k,left,out,h=>by
  unfold pickOrder.go
  have hl:next k%left.length<left.length:=Nat.mod_lt _ (by omega)
  have e:left[next k%left.length]? = some left[next k%left.length]:=zE hl
  rw[e]
  dsimp only
  refine (zIu next fuel (k+1) _ _ (by rw[List.length_eraseIdx,if_pos hl];omega)).trans ?_
  rw[Array.toList_push,zAd]
  exact (zG1 e).append_left _
theorem zFw {α:Type}(next:Nat->Nat)(xs:Array α):(pickOrder next xs).toList.Perm xs.toList:=by
 have:=zIu next xs.size 0 xs.toList #[] (by simp)
 simpa [pickOrder] using this
section
variable {prog:Program}{w:World}{A:Around}{E:Value->Shared->Prop}
theorem ch_wp {src:Source}{n:Nat}{s:Shared}{Q:Nat->Shared->Prop}(hn:n≠0)(h:∀i d',i<n->Q i { s with drawn:=d' }):wpAny (model prog w) A (choose src n) Q E s:=
 fun _ _ _=>⟨hn,h _ _ (Nat.mod_lt _ (Nat.pos_of_ne_zero hn))⟩
theorem zJX {α:Type}:∀(k:Nat)(xs:List α)(s:Shared)(Q:List α->Shared->Prop),xs.length=k->(∀ys d',ys.Perm xs->Q ys { s with drawn:=d' })->wpAny (model prog w) A (drawOrder k xs) Q E s
 | 0,xs,s,Q,h,q=>by
  have:xs=[]:=zA3.mp h
  subst this
  unfold drawOrder
  exact zB (q [] s.drawn (List.Perm.refl _))
 | k+1,[],s,Q,h,q=>by cases h
 | k+1,x::r,s,Q,h,q=>by
  unfold drawOrder
  refine zA (ch_wp (by simp) fun i d' hi=>?_)
  have e:(x::r)[i]? = some (x::r)[i]:=zE hi
  rw[e]
  dsimp only
  refine zA (zJX k _ _ _ (by rw[List.length_eraseIdx,if_pos hi];omega) fun ys d2 hp=>zB ?_)
  exact q _ d2 ((hp.cons _).trans (zG1 e))
end
noncomputable def zEm (h:Heap)(a:Addr)(el:Array (Int×Value))(ep:Nat)(tb:SetTable):Prop:=∃ob,h.get? a=some ob/\ob.ExactSet/\ob.data = .set el ep tb
theorem zEm.keep {h h':Heap}{a:Addr}{el:Array (Int×Value)}{ep:Nat}{tb:SetTable}(x:zEm h a el ep tb)(k:∀o,h.get? a=some o->h'.get? a=some o):zEm h' a el ep tb:=let ⟨ob,g,r⟩:=x;⟨ob,k _ g,r⟩
theorem zEm.typeIs {s:Shared}{a:Addr}{el:Array (Int×Value)}{ep:Nat}{tb:SetTable}(x:zEm s.heap a el ep tb):s.TypeIs (.ref a) "set" := let ⟨ob,g,c,_⟩:=x;⟨ob,g,c.1⟩
theorem zEm.lt {h:Heap}{a:Addr}{el:Array (Int×Value)}{ep:Nat}{tb:SetTable}(x:zEm h a el ep tb):a<h.objs.size:=let ⟨_,g,_⟩:=x;zU g
noncomputable def SI (h:Heap)(I:Addr)(f:Value)(i n ep:Nat)(a:Addr):Prop:=∃o,h.get? I=some o/\o.cls = .type "set_iterator" /\ o.data = .fields #[f,.int i 0,.ref a,.int n 0,.int ep 0]
theorem SI.typeIs {s:Shared}{I:Addr}{f:Value}{i n ep:Nat}{a:Addr}(x:SI s.heap I f i n ep a):s.TypeIs (.ref I) "set_iterator" := let ⟨o,h,c,_⟩:=x;⟨o,h,c⟩
theorem SI.keep {h h':Heap}{I:Addr}{f:Value}{i n ep:Nat}{a:Addr}(x:SI h I f i n ep a)(k:∀o,h.get? I=some o->h'.get? I=some o):SI h' I f i n ep a:=let ⟨o,g,r⟩:=x;⟨o,k _ g,r⟩
section
variable {prog:Program}{w:World}{A:Around}{E:Value->Shared->Prop}{s:Shared}{a I:Addr}{el:Array (Int×Value)}{ep:Nat}{tb:SetTable}
noncomputable def zD1 (f:Value)(n ep:Nat)(a:Addr):Obj:={ cls:=.type "set_iterator",data:=.fields #[f,.int 0 0,.ref a,.int n 0,.int ep 0] }
theorem zL5 {Q:Value->Shared->Prop}(hm:zEm s.heap a el ep tb)(hf:tb.fits el.size=true)
 (qa:(w.params.followText "set-order" = true\/tb.plain=true\/el.size<=1)->Q (.ref s.heap.objs.size) { s with heap:=s.heap.push (zD1 (.int 0 0) el.size ep a) })
 (qb:∀(ys:List Nat)(d':Drawn),ys.Perm (List.range el.size)->Q (.ref (s.heap.push { cls:=.type "tuple",data:=.seq (ys.map fun (i:Nat)=>rawInt i).toArray }).objs.size) { s with heap:=(s.heap.push { cls:=.type "tuple",data:=.seq (ys.map fun (i:Nat)=>rawInt i).toArray }).push (zD1 (.ref s.heap.objs.size) el.size ep a),drawn:=d' }) (hz:el.size<=100000) :
 wpAny (model prog w) A (pyIter (.ref a)) Q E s:=by
 obtain⟨ob,g1,g2,g3⟩:=id hm
 refine wpAny_pyIter_slot hm.typeIs F.slot_set_iter (zAa F.slot_set_iter hm.typeIs zEo ?_ (F.args_set_iter_1 _))
 unfold Builtin.«frozenset.__iter__»
 refine zA ?_
 refine zA (zB (zB ?_))
 refine zA ?_
 unfold Builtin.Frozenset.sizeOf
 refine zA (wpAny_setEntries_of g1 g3 hf (zB ?_))
 unfold setDrawn setsByText
 refine zA (zA (zBR g1 g3 hf (zA (zA (wpAny_askSetting (zB (zB ?_)))))))
 show wpAny _ _ (if (!w.params.followText "set-order" && (!tb.plain && decide (el.size > 1)))=true then _ else _) _ _ s
 by_cases c:(!w.params.followText "set-order" && (!tb.plain && decide (el.size > 1)))=true
 . rw[if_pos c]
   refine zA (zJX _ _ _ _ (by rw[zAb]) fun ys d' hp=>zA ?_)
   unfold newTuple
   refine zAS ?_ ?_
   . unfold setEpoch
     refine zA (zA (zBR (zF _ g1) g3 hf (zB ?_)))
     refine zA (zAS (zB ⟨_,rfl, "set_iterator",_,⟨_,zN _ rfl,rfl⟩,zCR.lookup,?_⟩))
     exact qb ys d' hp
   . show (List.toArray _).size<=sizeLine
     rw[zS,zD,hp.length_eq,zAb]
     have:sizeLine=16777216:=rfl
     omega
 . rw[if_neg c]
   refine zA (zB ?_)
   unfold setEpoch
   refine zA (zA (zBR g1 g3 hf (zB ?_)))
   refine zA (zAS (zB ⟨_,rfl, "set_iterator",_,⟨_,zN _ rfl,rfl⟩,zCR.lookup,?_⟩))
   refine qa ?_
   by_cases c1:w.params.followText "set-order" = true
   . exact .inl c1
   . right
     by_cases c2:tb.plain=true
     . exact .inl c2
     . right
       by_cases c3:el.size<=1
       . exact c3
       . exact absurd (by simp[c1,c2];omega) c
theorem zIb {slot given:Nat}{Q:Option (Value×Nat)->Shared->Prop}(hm:zEm s.heap a el ep tb)(hf:tb.fits el.size=true)(ht:w.params.followText "set-order" = true)
 (q:Q (((pickOrder (w.params.setOrder a ep) el)[given]?).map fun e=>(e.2,slot)) s):wpAny (model prog w) A (setNext a slot given ep) Q E s:=by
 obtain⟨ob,g1,g2,g3⟩:=id hm
 unfold setNext setsByText
 refine zA (zBR g1 g3 hf (zA (zA (wpAny_askSetting (zB ?_)))))
 show wpAny _ _ (if w.params.followText "set-order" = true then _ else _) _ _ s
 rw[if_pos ht]
 show wpAny _ _ (if (ep != ep)=true then _ else _) _ _ s
 rw[if_neg (by simp)]
 unfold setWalk setsByText
 refine zA (zA (zBR g1 g3 hf (zA (zA (wpAny_askSetting (zB ?_))))))
 show wpAny _ _ (if w.params.followText "set-order" = true then _ else _) _ _ s
 rw[if_pos ht]
 refine zA (wpAny_askSetting (zB (zB q)))
theorem zHE {slot given i:Nat}{Q:Option (Value×Nat)->Shared->Prop}(hm:zEm s.heap a el ep tb)(hf:tb.fits el.size=true)(ht:w.params.followText "set-order" = false) (hp:tb.plain=true\/el.size<=1)(hl:tb.led=true)(hi:SetTable.below tb.place slot=i)
 (q:Q (match el[i]?,tb.place[i]? with | some (_,x),some j=>some (x,j+1) | _,_=>none) s):wpAny (model prog w) A (setNext a slot given ep) Q E s:=by
 obtain⟨ob,g1,g2,g3⟩:=id hm
 unfold setNext setsByText
 refine zA (zBR g1 g3 hf (zA (zA (wpAny_askSetting (zB ?_)))))
 show wpAny _ _ (if w.params.followText "set-order" = true then _ else _) _ _ s
 rw[if_neg (by rw[ht];simp)]
 show wpAny _ _ (if (!tb.plain && decide (el.size > 1))=true then _ else _) _ _ s
 rw[if_neg (by rcases hp with z | z <;> simp[z])]
 show wpAny _ _ ((if (!tb.led && !el.isEmpty)=true then _ else _) >>= _) _ _ s
 rw[if_neg (by rw[hl];simp)]
 refine zA (zB ?_)
 dsimp only
 rw[hi]
 exact zB q
noncomputable def zJu (prog:Program)(w:World)(a:Addr)(slot i ep:Nat)(r:Option (Value×Nat))(s:Shared):Prop:=∀(A:Around)(E:Value->Shared->Prop)(Q:Option (Value×Nat)->Shared->Prop),Q r s->wpAny (model prog w) A (setNext a slot i ep) Q E s
theorem si_upd {h:Heap}{f f':Value}{i n:Nat}{o:Obj}(ho:h.get? I=some o)(hc:o.cls = .type "set_iterator") (hd:o.data = .fields #[f,.int i 0,.ref a,.int n 0,.int ep 0]) :
 SI ((h.update I (Obj.mapFields (·.setIfInBounds 0 f'))).update I (Obj.mapFields (·.setIfInBounds 1 (rawInt ((i:Int)+1))))) I f' (i+1) n ep a:=by
 have e1:(h.update I (Obj.mapFields (·.setIfInBounds 0 f'))).get? I=some (Obj.mapFields (·.setIfInBounds 0 f') o):=zv _ ho (Obj.isFreed_of_fields (Obj.data_mapFields hd _))
 have d1:=Obj.data_mapFields hd (·.setIfInBounds 0 f')
 refine⟨_,zv _ e1 (Obj.isFreed_of_fields (Obj.data_mapFields d1 _)),(Obj.cls_mapFields ..).trans ((Obj.cls_mapFields ..).trans hc),?_⟩
 rw[Obj.data_mapFields d1]
 simp[rawInt]
theorem si_up1 {h:Heap}{f:Value}{i n:Nat}{o:Obj}(ho:h.get? I=some o)(hc:o.cls = .type "set_iterator") (hd:o.data = .fields #[f,.int i 0,.ref a,.int n 0,.int ep 0]) :
 SI (h.update I (Obj.mapFields (·.setIfInBounds 1 (rawInt ((i:Int)+1))))) I f (i+1) n ep a:=by
 refine⟨_,zv _ ho (Obj.isFreed_of_fields (Obj.data_mapFields hd _)),(Obj.cls_mapFields ..).trans hc,?_⟩
 rw[Obj.data_mapFields hd]
 simp[rawInt]
theorem zLA {slot i nx:Nat}{x:Value}{Q:Option Value->Shared->Prop}(hit:SI s.heap I (.int slot 0) i el.size ep a)(hm:zEm s.heap a el ep tb)(hf:tb.fits el.size=true)(hs:zJu prog w a slot i ep (some (x,nx)) s)
 (hQ:∀h',SI h' I (.int nx 0) (i+1) el.size ep a->Heap.SameBut I s.heap h'->Q (some x) { s with heap:=h' }):wpAny (model prog w) A (pyNext (.ref I)) Q E s:=by
 obtain⟨o,ho,hc,hd⟩:=id hit
 obtain⟨ob,g1,g2,g3⟩:=id hm
 unfold pyNext
 refine zA (wpAny_attempt (zAs (name:=Str.ofString "__next__") hit.typeIs zCR (zAa zCR hit.typeIs zCO ?_ (zCa _))))
 unfold Builtin.«set_iterator.__next__»
 refine zA (zB ?_)
 refine zA (wpAny_fieldsOf ho hd ?_)
 refine zA (wpAny_setEntries_of g1 g3 hf ?_)
 rw[if_neg (by simp)]
 dsimp only
 rw[zAU,zAU,zAU]
 refine zA (hs _ _ _ ?_)
 dsimp only
 refine zA (zB6 ho hd (by simp) ?_)
 have e1:(s.heap.update I (Obj.mapFields (·.setIfInBounds 0 (rawInt (nx:Int))))).get? I=some (Obj.mapFields (·.setIfInBounds 0 (rawInt (nx:Int))) o):=zv _ ho (Obj.isFreed_of_fields (Obj.data_mapFields hd _))
 refine zA (zB6 e1 (Obj.data_mapFields hd _) (by simp) ?_)
 refine zB ⟨_,rfl,zB (hQ _ (si_upd ho hc hd) ((zAp ..).trans (zAp ..)))⟩
theorem zFk {h0:Heap}{Q:Option Value->Shared->Prop}(hh:A.handled=none)(hQ:∀h',(∀b o,h0.get? b=some o->h'.get? b=some o)->Q none { s with heap:=h' }){R:Fin->Shared->Prop} :
 wpAny (model prog w) A.in1 (newExc (.type "StopIteration") [] >>= fun e=>raiseNew (α:=Fin) e) R (fun e s'=>wpAny (model prog w) A (isInstance e (.type "StopIteration") >>= fun b=>if b=true then pure none else throw e) Q E s') { s with heap:=h0 }:=by
 refine zA ?_
 simp only[newExc,newTuple]
 refine zA (zAS ?_ (by size_fits))
 refine zA (m:=firstArgMember _ _) (wpAny_of_eq (m':=pure Value.none) (by first | rfl | (simp only[firstArgMember];rfl)) (zB ?_))
 refine zAS ?_ (by size_fits)
 simp only[raiseNew]
 refine zA (wpAny_handled ?_)
 rw[show A.in1.handled=none from hh]
 refine zA (zB (wpAny_throw ?_))
 refine zA (zAq (T := "StopIteration") (b:=true) ⟨_,zN _ rfl,rfl⟩ isSubtype_stop ?_)
 exact zB (hQ _ fun b o e=>zF _ (zF _ e))
theorem end_a {slot i:Nat}{Q:Option Value->Shared->Prop}(hh:A.handled=none)(hit:SI s.heap I (.int slot 0) i el.size ep a)(hm:zEm s.heap a el ep tb)(hf:tb.fits el.size=true)(hs:zJu prog w a slot i ep none s)
 (hQ:∀h',(∀b o,b≠I->s.heap.get? b=some o->h'.get? b=some o)->Q none { s with heap:=h' }):wpAny (model prog w) A (pyNext (.ref I)) Q E s:=by
 obtain⟨o,ho,hc,hd⟩:=id hit
 obtain⟨ob,g1,g2,g3⟩:=id hm
 unfold pyNext
 refine zA (wpAny_attempt (zAs (name:=Str.ofString "__next__") hit.typeIs zCR (zAa zCR hit.typeIs zCO ?_ (zCa _))))
 unfold Builtin.«set_iterator.__next__»
 refine zA (zB ?_)
 refine zA (wpAny_fieldsOf ho hd ?_)
 refine zA (wpAny_setEntries_of g1 g3 hf ?_)
 rw[if_neg (by simp)]
 dsimp only
 rw[zAU,zAU,zAU]
 refine zA (hs _ _ _ ?_)
 dsimp only
 refine zA (zB6 ho hd (by simp) ?_)
 refine zFk hh fun h' k=>hQ h' fun b o' nb e=>k b o' ((zAp s.heap I _).extBut b o' nb e)
end
end STb
namespace STb
open PySem PySem.Spec PyProof.Rows L2
section
variable {prog:Program}{w:World}{A:Around}{E:Value->Shared->Prop}{s:Shared}{a I tp:Addr}{el:Array (Int×Value)}{ep:Nat}{tb:SetTable}
noncomputable def zG7 (h:Heap)(tp:Addr)(ys:List Nat):Prop:=∃o n,h.get? tp=some o/\o.data = .seq (ys.map fun (i:Nat)=>rawInt i).toArray n
theorem zG7.keep {h h':Heap}{tp:Addr}{ys:List Nat}(x:zG7 h tp ys)(k:∀o,h.get? tp=some o->h'.get? tp=some o):zG7 h' tp ys:=let ⟨o,n,e,d⟩:=x;⟨o,n,k _ e,d⟩
theorem next_b {i y:Nat}{ys:List Nat}{e:Int×Value}{Q:Option Value->Shared->Prop}(hit:SI s.heap I (.ref tp) i el.size ep a)(hm:zEm s.heap a el ep tb)(hf:tb.fits el.size=true)(ht:zG7 s.heap tp ys)(hy:ys[i]? = some y)(he:el[y]? = some e)
 (hQ:∀h',SI h' I (.ref tp) (i+1) el.size ep a->Heap.SameBut I s.heap h'->Q (some e.2) { s with heap:=h' }):wpAny (model prog w) A (pyNext (.ref I)) Q E s:=by
 obtain⟨o,ho,hc,hd⟩:=id hit
 obtain⟨ob,g1,g2,g3⟩:=id hm
 obtain⟨ot,n,t1,t2⟩:=ht
 unfold pyNext
 refine zA (wpAny_attempt (zAs (name:=Str.ofString "__next__") hit.typeIs zCR (zAa zCR hit.typeIs zCO ?_ (zCa _))))
 unfold Builtin.«set_iterator.__next__»
 refine zA (zB ?_)
 refine zA (wpAny_fieldsOf ho hd ?_)
 refine zA (wpAny_setEntries_of g1 g3 hf ?_)
 rw[if_neg (by simp)]
 refine zA (zBE t1 t2 ?_)
 dsimp only
 have ey:(ys.map fun (i:Nat)=>rawInt i).toArray[(i:Int).toNat]? = some (.int (y:Int) 0):=by
  rw[zAU,zy,zQ,hy]
  rfl
 rw[ey]
 dsimp only
 rw[zAU,zAU]
 unfold setNextDrawn
 refine zA (zA (zBR g1 g3 hf ?_))
 show wpAny _ _ (if (ep != ep)=true then _ else _) _ _ s
 rw[if_neg (by simp)]
 obtain⟨e1,e2⟩:=e
 show wpAny _ _ (match el[y]? with | some (_,x)=>_ | _=>_) _ _ s
 rw[he]
 refine zB ?_
 refine zA (zB6 ho hd (by simp) ?_)
 exact zB ⟨_,rfl,zB (hQ _ (si_up1 ho hc hd) (zAp ..))⟩
theorem end_b {i:Nat}{ys:List Nat}{Q:Option Value->Shared->Prop}(hh:A.handled=none)(hit:SI s.heap I (.ref tp) i el.size ep a)(hm:zEm s.heap a el ep tb)(hf:tb.fits el.size=true)(ht:zG7 s.heap tp ys)(hy:ys[i]? = none)
 (hQ:∀h',(∀b o,b≠I->s.heap.get? b=some o->h'.get? b=some o)->Q none { s with heap:=h' }):wpAny (model prog w) A (pyNext (.ref I)) Q E s:=by
 obtain⟨o,ho,hc,hd⟩:=id hit
 obtain⟨ob,g1,g2,g3⟩:=id hm
 obtain⟨ot,n,t1,t2⟩:=ht
 unfold pyNext
 refine zA (wpAny_attempt (zAs (name:=Str.ofString "__next__") hit.typeIs zCR (zAa zCR hit.typeIs zCO ?_ (zCa _))))
 unfold Builtin.«set_iterator.__next__»
 refine zA (zB ?_)
 refine zA (wpAny_fieldsOf ho hd ?_)
 refine zA (wpAny_setEntries_of g1 g3 hf ?_)
 rw[if_neg (by simp)]
 refine zA (zBE t1 t2 ?_)
 dsimp only
 have ey:(ys.map fun (i:Nat)=>rawInt i).toArray[(i:Int).toNat]? = none:=by
  rw[zAU,zy,zQ,hy]
  rfl
 rw[ey]
 dsimp only
 refine zA (zB6 ho hd (by simp) ?_)
 have e1:(s.heap.update I (Obj.mapFields (·.setIfInBounds 0 (rawInt 0)))).get? I=some (Obj.mapFields (·.setIfInBounds 0 (rawInt 0)) o):=zv _ ho (Obj.isFreed_of_fields (Obj.data_mapFields hd _))
 refine zA (zB6 e1 (Obj.data_mapFields hd _) (by simp) ?_)
 refine zFk hh fun h' k=>hQ h' fun b o' nb e=>k b o' ((zAp _ I _).extBut b o' nb ((zAp s.heap I _).extBut b o' nb e))
theorem zIf {f:Value}{i:Nat}{Q:Value->Shared->Prop}(hit:SI s.heap I f i el.size ep a)(h:Q (.ref I) s):wpAny (model prog w) A (pyIter (.ref I)) Q E s:=by
 refine wpAny_pyIter_slot hit.typeIs zIc (zAa zIc hit.typeIs zFG ?_ (zFm _))
 show wpAny _ _ (ret (.ref I)) _ _ s
 exact zB ⟨_,rfl, "set_iterator",_,hit.typeIs,zCR.lookup,h⟩
noncomputable def zHv (w:World)(a:Addr)(ep:Nat)(el:Array (Int×Value)):List (Int×Value):=if w.params.followText "set-order" = true then (pickOrder (w.params.setOrder a ep) el).toList else el.toList
theorem zEL:(zHv w a ep el).Perm el.toList:=by
 unfold zHv
 split
 . exact zFw _ _
 . exact List.Perm.refl _
theorem zIp {xs:Array Nat}(h:xs.size<=1):Ris xs:=by
 unfold Ris
 have hl:xs.toList.length<=1:=by simpa using h
 generalize xs.toList=l at hl
 cases l with
 | nil=>exact List.Pairwise.nil
 | cons x r=>cases r with
  | nil=>exact List.pairwise_singleton _ _
  | cons y r=>simp at hl
theorem walk_a (hh:A.handled=none)(hIa:a≠I)(hf:tb.fits el.size=true)(hc:w.params.followText "set-order" = true\/tb.plain=true\/el.size<=1) (gt:GT (!w.params.followText "set-order") tb) :
 Walks prog w A I [I,a] [I] el.size (fun i v=>∃e,(zHv w a ep el)[i]? = some e/\v=e.2) (fun i h=>∃slot:Nat,SI h I (.int slot 0) i el.size ep a/\zEm h a el ep tb/\(w.params.followText "set-order" = false->SetTable.below tb.place slot=i)) where
 sub:=fun b hb=>by simp at hb;simp[hb]
 frame:=fun _ _ _ ⟨slot,h1,h2,h3⟩ hk=>⟨slot,h1.keep fun o e=>hk I (by simp) o e,h2.keep fun o e=>hk a (by simp) o e,h3⟩
 item:=fun i s Q E hi ⟨slot,h1,h2,h3⟩ hQ=>by
  have lo:i<(zHv w a ep el).length:=by rw[zEL.length_eq];simpa using hi
  cases ht:w.params.followText "set-order" with
  | true=>
   have ei:(pickOrder (w.params.setOrder a ep) el)[i]? = some (zHv w a ep el)[i]:=by
    rw[<-Array.getElem?_toList]
    have:(pickOrder (w.params.setOrder a ep) el).toList=zHv w a ep el:=by unfold zHv;rw[if_pos ht]
    rw[this]
    exact zE lo
   refine zLA (x:=(zHv w a ep el)[i].2) (nx:=slot) h1 h2 hf (fun A' E' Q' q=>zIb h2 hf ht (by rw[ei];exact q)) fun h' st sb=>?_
   exact hQ _ h' s.toks ⟨_,zE lo,rfl⟩ ⟨slot,st,h2.keep fun o e=>sb.extBut a o hIa e,fun z=>by rw[ht] at z;cases z⟩ fun b o hb e=>sb.extBut b o (fun z=>hb (by simp[z])) e
  | false=>
   have hp:tb.plain=true\/el.size<=1:=hc.resolve_left (by rw[ht];simp)
   have ps:tb.place.size=el.size:=by
    simp only[SetTable.fits,zA8,beq_iff_eq] at hf
    exact hf.1
   have rs:Ris tb.place:=hp.elim gt.rs fun z=>zIp (by omega)
   have eo:zHv w a ep el=el.toList:=by unfold zHv;rw[if_neg (by rw[ht];simp)]
   have e1:el[i]? = some el[i]:=Array.getElem?_eq_getElem hi
   have e2:tb.place[i]? = some (tb.place[i]'(by omega)):=Array.getElem?_eq_getElem (by omega)
   refine zLA (x:=el[i].2) (nx:=tb.place[i]'(by omega)+1) h1 h2 hf (fun A' E' Q' q=>zHE (i:=i) h2 hf ht hp (by rw[gt.ld,ht];rfl) (h3 ht) (by rw[e1,e2];exact q)) fun h' st sb=>?_
   exact hQ _ h' s.toks ⟨el[i],by rw[eo,Array.getElem?_toList];exact e1,rfl⟩ ⟨_,st,h2.keep fun o e=>sb.extBut a o hIa e,fun _=>zIG rs e2⟩ fun b o hb e=>sb.extBut b o (fun z=>hb (by simp[z])) e
 done:=fun s Q E ⟨slot,h1,h2,h3⟩ hQ=>by
  cases ht:w.params.followText "set-order" with
  | true=>
   have ei:(pickOrder (w.params.setOrder a ep) el)[el.size]? = none:=by
    rw[<-Array.getElem?_toList]
    exact zz (by rw[(zFw _ _).length_eq];simp)
   exact end_a hh h1 h2 hf (fun A' E' Q' q=>zIb h2 hf ht (by rw[ei];exact q)) fun h' k=>hQ h' s.toks fun b o hb e=>k b o (fun z=>hb (by simp[z])) e
  | false=>
   have hp:tb.plain=true\/el.size<=1:=hc.resolve_left (by rw[ht];simp)
   exact end_a hh h1 h2 hf (fun A' E' Q' q=>zHE (i:=el.size) h2 hf ht hp (by rw[gt.ld,ht];rfl) (h3 ht) (by rw[Array.getElem?_eq_none (zH _)];exact q)) fun h' k=>hQ h' s.toks fun b o hb e=>k b o (fun z=>hb (by simp[z])) e
 self:=fun i s Q E ⟨slot,h1,_⟩ h=>zIf h1 h
theorem walk_b {ys:List Nat}(hh:A.handled=none)(hIa:a≠I)(hIt:tp≠I)(hf:tb.fits el.size=true)(hp:ys.Perm (List.range el.size)) :
 Walks prog w A I [I,a,tp] [I] el.size (fun i v=>∃y e,ys[i]? = some y/\el[y]? = some e/\v=e.2) (fun i h=>SI h I (.ref tp) i el.size ep a/\zEm h a el ep tb/\zG7 h tp ys) where
 sub:=fun b hb=>by simp at hb;simp[hb]
 frame:=fun _ _ _ ⟨h1,h2,h3⟩ hk=>⟨h1.keep fun o e=>hk I (by simp) o e,h2.keep fun o e=>hk a (by simp) o e,h3.keep fun o e=>hk tp (by simp) o e⟩
 item:=fun i s Q E hi ⟨h1,h2,h3⟩ hQ=>by
  have hl:ys.length=el.size:=by rw[hp.length_eq,zAb]
  have e1:ys[i]? = some ys[i]:=zE (by omega)
  have hy:ys[i]<el.size:=zB9.mp (hp.mem_iff.mp (zBH _))
  have e2:el[ys[i]]? = some el[ys[i]]:=Array.getElem?_eq_getElem hy
  refine next_b h1 h2 hf h3 e1 e2 fun h' st sb=>?_
  exact hQ _ h' s.toks ⟨_,_,e1,e2,rfl⟩ ⟨st,h2.keep fun o e=>sb.extBut a o hIa e,h3.keep fun o e=>sb.extBut tp o hIt e⟩ fun b o hb e=>sb.extBut b o (fun z=>hb (by simp[z])) e
 done:=fun s Q E ⟨h1,h2,h3⟩ hQ=>by
  have hl:ys.length=el.size:=by rw[hp.length_eq,zAb]
  exact end_b hh h1 h2 hf h3 (zz (by omega)) fun h' k=>hQ h' s.toks fun b o hb e=>k b o (fun z=>hb (by simp[z])) e
 self:=fun i s Q E ⟨h1,_⟩ h=>zIf h1 h
end
end STb
namespace STb
open PySem PySem.Spec PyProof.Rows PySem.Calls L2
section
variable {prog:Program}{w:World}{A:Around}{E:Value->Shared->Prop}{s:Shared}{a:Addr}{el:Array (Int×Value)}{ep:Nat}{tb:SetTable}
theorem zHX {Q:Bool->Shared->Prop}(hT:s.TypeIs (.ref a) "set") (h:Q false s):wpAny (model prog w) A (Builtin.List.listLengthHint (.ref a)) Q E s:=by
 unfold Builtin.List.listLengthHint
 refine zA (wpAny_specialOf hT PySem.F.slot_set_len.lookup ?_)
 generalize hid:("set.__len__" : String)=id0
 wp_delta
 rw[show splitId id0=some ("set", "__len__") from by subst hid;decide +kernel]
 subst hid
 refine zA (zAq (T := "set") (b:=true) hT sub_set_self ?_)
 refine wpAny_ite_split (fun hab=>absurd hab (by decide)) (fun _=>?_)
 refine wpAny_ite_split (fun _=>zA (zBN hT (zB h))) (fun hab=>absurd (by decide +kernel) hab)
theorem zHY {I S:Addr}{fp:List Addr}{n:Nat}{P:Nat->Value->Prop}{St:Nat->Heap->Prop}{res:Value}{c:Nat}{R:Result->Shared->Prop}{s0:Shared}(W:Walks prog w A.in1 I fp [I] n P St)(hSf:S∉fp)(hn:n<=sizeLine)(hI:s0.heap.objs.size<=I)
 (k0:∀b o,b≠S->s0.heap.get? b=some o->s.heap.get? b=some o)(st:St 0 s.heap)(hS:s.heap.get? S=some { cls:=.type "list",data:=.seq #[] c })
 (q:∀(s':Shared)(acc:Array Value)(c':Nat),s'.gens=s.gens->s'.drawn=s.drawn->s'.os=s.os->(∀b o,b≠S->s0.heap.get? b=some o->s'.heap.get? b=some o)->s'.heap.get? S=some { cls:=.type "list",dict:=none,data:=.seq acc c',slots:=#[] }->ItemsOf P acc n->R (.ok (.ret res)) s') :
 codeAny (model prog w) A (.builtin "list.extend.loop" ⟨[.ref S,.ref I,res],[]⟩) R s:=by
 refine codeAny_extend_loopS W.toS hn S hSf res n 0 s #[] c rfl (zi _) st hS (ItemsOf.nil _) fun s' acc c' mv hS' ha=>?_
 refine q s' acc c' mv.gens mv.drawn mv.os (fun b o hb e=>mv.heap b o (fun z=>?_) (k0 b o hb e)) hS' ha
 rcases zT.mp z with z | z
 . exact hb z
 . have hlt:=zU e
   rw[zn.mp z] at hlt
   exact absurd (zr hlt hI) (zBe _)
noncomputable def Gath (el:Array (Int×Value))(acc:Array Value):Prop:=∃l:List (Int×Value),l.Perm el.toList/\acc.toList=l.map (·.2)
theorem zLF {acc:Array Value}(h:ItemsOf (fun i v=>∃e,(zHv w a ep el)[i]? = some e/\v=e.2) acc el.size):Gath el acc:=by
 refine⟨zHv w a ep el,zEL,?_⟩
 have hl:(zHv w a ep el).length=el.size:=by rw[zEL.length_eq];simp
 apply List.ext_getElem?
 intro j
 by_cases hj:j<el.size
 . have hz:j<acc.size:=by rw[h.1];exact hj
   obtain⟨e,he,hv⟩:=h.2 j acc[j] (by simp[hz])
   rw[Array.getElem?_toList,Array.getElem?_eq_getElem hz,hv,zQ,he]
   rfl
 . rw[zz (by rw[Array.length_toList,h.1];omega),zz (by rw[zD];omega)]
theorem zHt {α:Type}{l:List α}{ys:List Nat}(h:ys.Perm (List.range l.length)):(ys.filterMap fun i=>l[i]?).Perm l:=by
 refine (h.filterMap _).trans ?_
 rw[List.filterMap_getElem?_range_length]
theorem zLE {ys:List Nat}{acc:Array Value}(hp:ys.Perm (List.range el.size))(h:ItemsOf (fun i v=>∃y e,ys[i]? = some y/\el[y]? = some e/\v=e.2) acc el.size):Gath el acc:=by
 have hl:ys.length=el.size:=by rw[hp.length_eq,zAb]
 refine⟨ys.map fun y=>el.toList.getD y (0,.none),?_,?_⟩
 . have e:(ys.map fun y=>el.toList.getD y (0,.none))=ys.filterMap fun i=>el.toList[i]?:=by
    rw[<-List.filterMap_eq_map]
    refine fm_eq fun y hy=>?_
    have hy':y<el.toList.length:=by have:=zB9.mp (hp.mem_iff.mp hy);simpa using this
    simp only[Function.comp]
    rw[zM,zE hy']
    rfl
   rw[e]
   exact zHt (by simpa using hp)
 . apply List.ext_getElem?
   intro j
   by_cases hj:j<el.size
   . have hz:j<acc.size:=by rw[h.1];exact hj
     obtain⟨y,e,h1,h2,hv⟩:=h.2 j acc[j] (by simp[hz])
     rw[Array.getElem?_toList,Array.getElem?_eq_getElem hz,hv,zQ,zQ,h1]
     show some e.2=some (el.toList.getD y (0,.none)).2
     rw[zM,Array.getElem?_toList,h2]
     rfl
   . rw[zz (by rw[Array.length_toList,h.1];omega),zz (by rw[zD,zD];omega)]
where
 fm_eq {α β:Type}{f g:α->Option β}:∀{l:List α},(∀m∈l,f m=g m)->l.filterMap f=l.filterMap g
  | [],_=>rfl
  | x::r,h=>by
   rw[zB2,zB2,h x zY,fm_eq fun m hm=>h m (zR _ hm)]
theorem zHo {S:Addr}{res:Value}{c:Nat}{R:Result->Shared->Prop}(hh:A.handled=none)(hm:zEm s.heap a el ep tb)(hf:tb.fits el.size=true)(gt:GT (!w.params.followText "set-order") tb) (hz:el.size<=100000)(hSa:S≠a)
 (hS:s.heap.get? S=some { cls:=.type "list",data:=.seq #[] c })
 (q:∀(s':Shared)(acc:Array Value)(c':Nat),s'.gens=s.gens->s'.os=s.os->(∀b o,b≠S->s.heap.get? b=some o->s'.heap.get? b=some o)->s'.heap.get? S=some { cls:=.type "list",dict:=none,data:=.seq acc c',slots:=#[] }->Gath el acc->R (.ok (.ret res)) s') :
 wpAny (model prog w) A.in1 (Builtin.List.listExtendWith (.ref S) (.ref a) res)
  (fun fin s'=>match fin with | .done f=>R (.ok f) s' | .again c'=>c'.quiet=true/\codeAny (model prog w) A c' R s') (fun e s'=>R (.error e) s') s:=by
 have nS:el.size<=sizeLine:=by have:sizeLine=16777216:=rfl;omega
 unfold Builtin.List.listExtendWith
 refine zA (zBN (T := "set") hm.typeIs ?_)
 have h1:Builtin.List.listSameRef (.ref S) (.ref a)=false:=by simp[Builtin.List.listSameRef,hSa]
 have h2:(Value.type "set" == Value.type "list")=false:=by decide
 have h3:(Value.type "set" == Value.type "tuple")=false:=by decide
 simp only[h1,h2,h3,Bool.or_false,zBi,if_false]
 have nSI:∀I,s.heap.objs.size<=I->S≠I:=fun I h z=>absurd (zr (zU hS) h) (by rw[z];exact zBe _)
 have naI:∀I,s.heap.objs.size<=I->a≠I:=fun I h z=>absurd (zr hm.lt h) (by rw[z];exact zBe _)
 refine zA (zL5 hm hf (fun hc=>?_) (fun ys d' hp=>?_) hz)
 . have W:=walk_a (prog:=prog) (w:=w) (A:=A.in1) (I:=s.heap.objs.size) (ep:=ep) hh (naI _ (zH _)) hf hc gt
   have nf:S∉[s.heap.objs.size,a]:=by simp only[zT,List.not_mem_nil,or_false,not_or];exact⟨nSI _ (zH _),hSa⟩
   have kp:∀b o,s.heap.get? b=some o->(s.heap.push (zD1 (.int 0 0) el.size ep a)).get? b=some o:=fun b o e=>zF _ e
   have st0:∃slot:Nat,SI (s.heap.push (zD1 (.int 0 0) el.size ep a)) s.heap.objs.size (.int slot 0) 0 el.size ep a/\zEm (s.heap.push (zD1 (.int 0 0) el.size ep a)) a el ep tb/\(w.params.followText "set-order" = false->SetTable.below tb.place slot=0):=by
    refine⟨0,⟨_,zN _ rfl,rfl,rfl⟩,hm.keep fun o e=>kp _ o e,fun ht=>zIF ?_⟩
    have ps:tb.place.size=el.size:=by
     simp only[SetTable.fits,zA8,beq_iff_eq] at hf
     exact hf.1
    exact (hc.resolve_left (by rw[ht];simp)).elim gt.rs fun z=>zIp (by omega)
   refine zA (zw (zHX (zEm.typeIs (hm.keep fun o e=>kp _ o e)) ?_))
   refine wpAny_ite_split (fun _=>?_) (fun _=>?_)
   . refine zA (zB7 (zA ?_))
     show wpAny _ _ (updateSeq S (·.push .none) >>= fun _=>updateSeq S (·.pop)) _ _ _
     refine zA (zA1 (kp _ _ hS) rfl ?_)
     have hS2:=zv (Obj.mapSeq (·.push Value.none)) (kp _ _ hS) rfl
     refine zA1 (hz:=by seq_fits) hS2 rfl ?_
     have hS3:=zv (Obj.mapSeq (·.pop)) hS2 rfl
     have up:∀b o,b≠S->(s.heap.push (zD1 (.int 0 0) el.size ep a)).get? b=some o->(((s.heap.push (zD1 (.int 0 0) el.size ep a)).update S (Obj.mapSeq (·.push Value.none))).update S (Obj.mapSeq (·.pop))).get? b=some o:=fun b o hb e=>(zAn _ _ (Ne.symm hb)).trans ((zAn _ _ (Ne.symm hb)).trans e)
     refine zB ⟨plainId_quiet PySem.F.plain_extend_loop _,zHY W nf nS (zH _) (fun b o hb e=>up b o hb (kp b o e)) (W.frame 0 _ _ st0 fun b hb o e=>up b o (fun z=>nf (z ▸ hb)) e) hS3 fun s' acc c' e1 _ e3 k hS' ha=>q s' acc c' e1 e3 k hS' (zLF ha)⟩
   . exact zB ⟨plainId_quiet PySem.F.plain_extend_loop _,zHY W nf nS (zH _) (fun b o _ e=>kp b o e) st0 (kp _ _ hS) fun s' acc c' e1 _ e3 k hS' ha=>q s' acc c' e1 e3 k hS' (zLF ha)⟩
 . have hT:(s.heap.push { cls:=.type "tuple",data:=.seq (ys.map fun (i:Nat)=>rawInt i).toArray }).objs.size=s.heap.objs.size+1:=zAr ..
   have hI:s.heap.objs.size<=(s.heap.push { cls:=.type "tuple",data:=.seq (ys.map fun (i:Nat)=>rawInt i).toArray }).objs.size:=by rw[hT];exact zBo _
   have ntI:s.heap.objs.size≠(s.heap.push { cls:=.type "tuple",data:=.seq (ys.map fun (i:Nat)=>rawInt i).toArray }).objs.size:=by rw[hT];exact zh (Nat.lt_succ_self _)
   have W:=walk_b (prog:=prog) (w:=w) (A:=A.in1) (I:=(s.heap.push { cls:=.type "tuple",data:=.seq (ys.map fun (i:Nat)=>rawInt i).toArray }).objs.size) (tp:=s.heap.objs.size) (tb:=tb) (ep:=ep) hh (naI _ hI) ntI hf hp
   have nf:S∉[(s.heap.push { cls:=.type "tuple",data:=.seq (ys.map fun (i:Nat)=>rawInt i).toArray }).objs.size,a,s.heap.objs.size]:=by
    simp only[zT,List.not_mem_nil,or_false,not_or]
    exact⟨nSI _ hI,hSa,nSI _ (zH _)⟩
   have kp:∀b o,s.heap.get? b=some o->((s.heap.push { cls:=.type "tuple",data:=.seq (ys.map fun (i:Nat)=>rawInt i).toArray }).push (zD1 (.ref s.heap.objs.size) el.size ep a)).get? b=some o:=fun b o e=>zF _ (zF _ e)
   have st0:SI ((s.heap.push { cls:=.type "tuple",data:=.seq (ys.map fun (i:Nat)=>rawInt i).toArray }).push (zD1 (.ref s.heap.objs.size) el.size ep a)) (s.heap.push { cls:=.type "tuple",data:=.seq (ys.map fun (i:Nat)=>rawInt i).toArray }).objs.size (.ref s.heap.objs.size) 0 el.size ep a/\zEm ((s.heap.push { cls:=.type "tuple",data:=.seq (ys.map fun (i:Nat)=>rawInt i).toArray }).push (zD1 (.ref s.heap.objs.size) el.size ep a)) a el ep tb/\zG7 ((s.heap.push { cls:=.type "tuple",data:=.seq (ys.map fun (i:Nat)=>rawInt i).toArray }).push (zD1 (.ref s.heap.objs.size) el.size ep a)) s.heap.objs.size ys:=
    ⟨⟨_,zN _ rfl,rfl,rfl⟩,hm.keep fun o e=>kp _ o e,⟨_,_,zF _ (zN _ rfl),rfl⟩⟩
   generalize (s.heap.push { cls:=.type "tuple",data:=.seq (ys.map fun (i:Nat)=>rawInt i).toArray }).objs.size=I0 at hT hI ntI W nf st0 kp ⊢
   generalize (s.heap.push { cls:=.type "tuple",data:=.seq (ys.map fun (i:Nat)=>rawInt i).toArray }).push (zD1 (.ref s.heap.objs.size) el.size ep a)=h0 at st0 kp ⊢
   refine zA (zw (zHX (zEm.typeIs (hm.keep fun o e=>kp _ o e)) ?_))
   refine wpAny_ite_split (fun _=>?_) (fun _=>?_)
   . refine zA (zB7 (zA ?_))
     show wpAny _ _ (updateSeq S (·.push .none) >>= fun _=>updateSeq S (·.pop)) _ _ _
     refine zA (zA1 (kp _ _ hS) rfl ?_)
     have hS2:=zv (Obj.mapSeq (·.push Value.none)) (kp _ _ hS) rfl
     refine zA1 (hz:=by seq_fits) hS2 rfl ?_
     have hS3:=zv (Obj.mapSeq (·.pop)) hS2 rfl
     have up:∀b o,b≠S->h0.get? b=some o->((h0.update S (Obj.mapSeq (·.push Value.none))).update S (Obj.mapSeq (·.pop))).get? b=some o:=fun b o hb e=>(zAn _ _ (Ne.symm hb)).trans ((zAn _ _ (Ne.symm hb)).trans e)
     refine zB ⟨plainId_quiet PySem.F.plain_extend_loop _,zHY (s0:=s) W nf nS hI (fun b o hb e=>up b o hb (kp b o e)) (W.frame 0 _ _ st0 fun b hb o e=>up b o (fun z=>nf (z ▸ hb)) e) hS3 fun s' acc c' e1 _ e3 k hS' ha=>q s' acc c' e1 e3 k hS' (zLE hp ha)⟩
   . exact zB ⟨plainId_quiet PySem.F.plain_extend_loop _,zHY (s0:=s) W nf nS hI (fun b o _ e=>kp b o e) st0 (kp _ _ hS) fun s' acc c' e1 _ e3 k hS' ha=>q s' acc c' e1 e3 k hS' (zLE hp ha)⟩
theorem zGg {R:List Value->Shared->Prop}(hh:A.handled=none)(hm:zEm s.heap a el ep tb)(hf:tb.fits el.size=true)(gt:GT (!w.params.followText "set-order") tb) (hz:el.size<=100000)
 (q:∀(s':Shared)(acc:Array Value),s'.gens=s.gens->s'.os=s.os->(∀b o,s.heap.get? b=some o->s'.heap.get? b=some o)->Gath el acc->R acc.toList s'):wpAny (model prog w) A (collect (.ref a)) R E s:=by
 unfold collect
 refine zA (wpAny_runValue (codeAny_builtin entry_proto_collect' ?_))
 rw[Around.under_plainId PySem.F.plain_proto_collect _]
 refine zA (m:=newList []) (zAS ?_)
 refine zB ⟨plainId_quiet PySem.F.plain_list_iadd _,codeAny_builtin entry_list_iadd' ?_⟩
 rw[Around.under_plainId PySem.F.plain_list_iadd _]
 have hS:(s.heap.push { cls:=.type "list",data:=.seq ([]:List Value).toArray }).get? s.heap.objs.size=some { cls:=.type "list",data:=.seq #[] }:=zN _ rfl
 show wpAny _ A.in1 (Builtin.List.listExtendWith (.ref s.heap.objs.size) (.ref a) (.ref s.heap.objs.size)) _ _ _
 have key:=zHo (prog:=prog) (w:=w) (A:=A) (s:={ s with heap:=s.heap.push { cls:=.type "list",data:=.seq ([]:List Value).toArray } }) (res:=.ref s.heap.objs.size)
  (R:=fun (u:Result)(s':Shared)=>∃(acc:Array Value)(c':Nat),u = .ok (.ret (.ref s.heap.objs.size))/\s'.gens=s.gens/\s'.os=s.os/\(∀b o,s.heap.get? b=some o->s'.heap.get? b=some o)/\s'.heap.get? s.heap.objs.size=some { cls:=.type "list",dict:=none,data:=.seq acc c',slots:=#[] }/\Gath el acc)
  hh (hm.keep fun o e=>zF _ e) hf gt hz (Nat.ne_of_gt hm.lt) hS (fun s' acc c' e1 e2 k hS' g=>⟨acc,c',rfl,e1,e2,fun b o e=>k b o (zh (zU e)) (zF _ e),hS',g⟩)
 refine zAO key (fun fin s' x=>?_) fun e s' x=>?_
 . cases fin with
   | done f=>
    obtain⟨acc,c',e,e1,e2,k,hS',g⟩:=x
    cases e
    exact zA (wpAny_load hS' (zB (q s' acc e1 e2 k g)))
   | again c1=>
    refine⟨x.1,codeAny_mono x.2 fun u s2 y=>?_⟩
    obtain⟨acc,c',rfl,e1,e2,k,hS',g⟩:=y
    exact zA (wpAny_load hS' (zB (q s2 acc e1 e2 k g)))
 . obtain⟨_,_,e',_⟩:=x
   cases e'
end
end STb
namespace STb
open PySem PySem.Spec PyProof.Rows L2
section
variable {prog:Program}{w:World}{A:Around}{E:Value->Shared->Prop}{s:Shared}
theorem zLB {I S:Addr}{fp:List Addr}{n:Nat}{P:Nat->Value->Prop}{St:Nat->Heap->Prop}{led:Bool}{R:Result->Shared->Prop}(W:Walks prog w A.in1 I fp [I] n P St)(hSf:S∉fp)(hSI:S≠I)(val:Nat->Int)(hv:∀i v,P i v->∃t,v = .int (val i) t)(hb:n+1<scanBound) :
 ∀(k i:Nat)(s:Shared),n-i=k->i<=n->St i s.heap->zFb prog w led s.heap S (fun z=>(firstMet val i).any fun x=>x==z) (firstMet val i).length ->
  (∀s':Shared,s'.gens=s.gens->s'.drawn=s.drawn->s'.os=s.os->(∀b o,b≠S->b≠I->s.heap.get? b=some o->s'.heap.get? b=some o)->zFb prog w led s'.heap S (fun z=>(firstMet val n).any fun x=>x==z) (firstMet val n).length->R (.ok (.ret .none)) s') ->
  codeAny (model prog w) A (.builtin "set.update.loop" ⟨[.ref S,.ref I],[]⟩) R s:=by
 intro k
 induction k with
 | zero=>
  intro i s hk hi st G q
  obtain rfl:i=n:=by omega
  refine codeAny_builtin PyProof.Rows.F.entry_set_update_loop ?_
  rw[Around.under_plainId PyProof.Rows.F.plain_set_update_loop _]
  refine zA (m:=pyNext (.ref I)) (W.done s _ _ st fun h' tk kp=>?_)
  refine zB (q _ rfl rfl rfl (fun b o _ hbI e=>kp b o (fun z=>hbI (by simpa using z)) e) (G.keep fun o e=>kp S o (fun z=>hSI (by simpa using z)) e))
 | succ k ih=>
  intro i s hk hi st G q
  have hlt:i<n:=by omega
  refine codeAny_builtin PyProof.Rows.F.entry_set_update_loop ?_
  rw[Around.under_plainId PyProof.Rows.F.plain_set_update_loop _]
  refine zA (m:=pyNext (.ref I)) (W.item i s _ _ hlt st fun v h' tk hP st' kp=>?_)
  obtain⟨t,rfl⟩:=hv i v hP
  have G':zFb prog w led h' S (fun z=>(firstMet val i).any fun x=>x==z) (firstMet val i).length:=G.keep fun o e=>kp S o (fun z=>hSI (by simpa using z)) e
  refine zA (m:=holding [Value.int (val i) t] (setAdd S (.int (val i) t))) (zw ?_)
  unfold setAdd
  refine zw (zA ((intKind prog w).pyHash (k:=val i) (intKind_is _ _ _ _) ?_))
  refine add_g (s:={ s with heap:=h',toks:=tk+1 }) G' (by have:=firstMet_length_le val i;omega) fun h2 sb G2=>?_
  have Gi:zFb prog w led h2 S (fun z=>(firstMet val (i+1)).any fun x=>x==z) (firstMet val (i+1)).length:=G2.congr (fun z=>by rw[firstMet_succ,step_any]) (by rw[firstMet_succ,step_length])
  refine zB ⟨plainId_quiet PyProof.Rows.F.plain_set_update_loop _,ih (i+1) _ (by omega) hlt (W.frame _ _ _ st' fun b hb o e=>(sb.2 b fun z=>hSf (z ▸ hb)).trans e) Gi fun s'' e1 e2 e3 kp2 G3=>?_⟩
  exact q s'' e1 e2 e3 (fun b o hbS hbI e=>kp2 b o hbS hbI ((sb.2 b hbS).trans (kp b o (fun z=>hbI (by simpa using z)) e))) G3
noncomputable def zCA (w:World):Obj:={ cls:=.type "set",dict:=none,data:=.set #[] 0 (.fresh 0 0 (!w.params.followText "set-order")) }
theorem zFn (h:Heap):zFb prog w (!w.params.followText "set-order") (h.push (zCA w)) h.objs.size (fun _=>false) 0:=
 ⟨_,#[],0,_,zN _ rfl,⟨rfl,rfl,rfl⟩,rfl,⟨fun e he=>by simp at he,fun k=>by simp,by decide,by rfl,rfl,zKe _⟩⟩
theorem new_g (a:Value){Q₁:Value->Shared->Prop}(h:Q₁ (.ref s.heap.objs.size) { s with heap:=s.heap.push (zCA w) }):codeAny (model prog w) A (.call (.builtin "set.__new__") ⟨[.type "set",a],[]⟩) (wants Q₁ E) s:=by
 refine codeAny_of_tree (zA (m:=checkBuiltinCall "set.__new__" ⟨[.type "set",a],[]⟩) (wpAny_of_eq (PySem.F.newCall_set_1 a) (zB ⟨plainId_quiet PySem.F.plain_set_new _,codeAny_builtin PySem.F.entry_set_new ?_⟩)))
 rw[Around.under_plainId PySem.F.plain_set_new _]
 unfold Builtin.«set.__new__» Builtin.Frozenset.newClass
 have sub:=sub_set_self
 obtain⟨hp,g,d,tk,os⟩:=s
 dsimp only
 wp_walk
 refine wpAny_askSetting (zB ?_)
 dsimp only
 simp only[newObj]
 exact zA (wpAny_alloc (zB (zB h)))
theorem zL0 {l:Addr}{its:List Value}{ns:List Int}{Q:Value->Shared->Prop}(hA:A.handled=none)(hl:s.heap.IsList l its.toArray)(hi:IntsAre its ns)(hz:its.length+1<scanBound)
 (q:∀(h:Heap)(tk:Nat),(∀b o,s.heap.get? b=some o->h.get? b=some o)->zFb prog w (!w.params.followText "set-order") h s.heap.objs.size (fun z=>(firstMet (fun i=>ns.getD i 0) its.length).any fun x=>x==z) (firstMet (fun i=>ns.getD i 0) its.length).length->Q (.ref s.heap.objs.size) { s with heap:=h,toks:=tk }) :
 wpAny (model prog w) A (call (.type "set") [.ref l]) Q E s:=by
 refine zA5 (codeAny_of_tree (zB ⟨Code.quiet_builtin _ (by decide +kernel),codeAny_builtin PySem.F.entry_type_call ?_⟩))
 unfold Builtin.«type.__call__»
 dsimp only
 rw[if_neg (by rw[PySem.F.called_set.notType];decide)]
 rw[if_neg (by rw[PySem.F.called_set.canCreate];decide)]
 obtain⟨c,tl,hm⟩:=PySem.F.called_set.mro
 refine zA (wpAny_of_eq (PySem.F.typeCall_set_1 _) (zB (zA (wpAny_of_eq hm (zB ?_)))))
 refine zA (wpAny_of_eq PySem.F.called_set.made (zB (zA (zB ?_))))
 refine zA (zw (zA5 (codeAny_mono (new_g (E:=E) (.ref l) (Q₁:=fun obj s₁=>obj = .ref s.heap.objs.size/\s₁={ s with heap:=s.heap.push (zCA w) }) ⟨rfl,rfl⟩) fun r s₁ e=>?_)))
 match r,e with
 | .ok (.ret obj),e=>
  obtain⟨rfl,rfl⟩:=e
  have h0:∀b o,s.heap.get? b=some o->(s.heap.push (zCA w)).get? b=some o:=fun b o e=>zF _ e
  have ht:∀h:Heap,(∀b o,s.heap.get? b=some o->h.get? b=some o)->h.IsList l its.toArray:=fun h K=>by
   obtain⟨o,ho,hr⟩:=hl
   exact⟨o,K _ _ ho,hr⟩
  have hlt:l<s.heap.objs.size:=by
   obtain⟨o,ho,_⟩:=hl
   exact zU ho
  have tyS:Shared.TypeIs { s with heap:=s.heap.push (zCA w) } (.ref s.heap.objs.size) "set" := ⟨_,zN _ rfl,rfl⟩
  show wpAny _ _ _ _ _ _
  refine zA (zAq tyS PySem.F.called_set.sub ?_)
  refine zA (zw ?_)
  unfold callSpecial?
  refine zA (wpAny_specialOf tyS PySem.F.called_set.init.lookup (zw (zA (wpAny_of_eq (PySem.F.called_set.init.bind _) (zB (zA (zA5 (codeAny_call_builtin PySem.F.called_set.init.plain PySem.F.entry_set_init (check_set_init_1 tyS ?_)))))))))
  unfold Builtin.«set.__init__»
  refine zA (wpAny_of_eq (m':=pure ()) rfl (zB ?_))
  dsimp only
  refine zA (zA (zA (zBN tyS (wpAny_of_eq (m':=pure (Value.type "set")) rfl (zB (wpAny_of_eq (m':=pure "set") rfl (zB ?_)))))))
  refine zA (wpAny_of_eq (m':=pure ()) rfl (zB (zA (zB ?_))))
  refine zA (zA (zA (wpAny_load (zN _ rfl) ?_)))
  refine wpAny_of_eq (m':=pure (#[],0,SetTable.fresh 0 0 (!w.params.followText "set-order"))) (by unfold zCA;cases w.params.followText "set-order" <;> rfl) (zB (wpAny_of_eq (m':=pure false) (by cases w.params.followText "set-order" <;> rfl) (zB ?_)))
  have tyT:∀h tk,(∀b o,s.heap.get? b=some o->h.get? b=some o)->Shared.TypeIs { s with heap:=h,toks:=tk } (.ref l) "list" := fun h tk K=>by
   obtain⟨o,ho,hr⟩:=ht h K
   exact⟨o,ho,hr.1⟩
  show wpAny _ _ (Builtin.Frozenset.updateFrom "set.__init__" s.heap.objs.size (.ref l) >>= _) _ _ _
  unfold Builtin.Frozenset.updateFrom
  refine zA (zA (zA (zAq (tyT _ _ h0) PySem.F.sub_list_set (zAq (tyT _ _ h0) (b:=false) PySem.F.sub_list_frozenset ?_))))
  refine zA (zBN (tyT _ _ h0) ?_)
  refine zA (wpAny_pyIter_list (ht _ h0) (zA (wpAny_runValue ?_)))
  have hsz:(s.heap.push (zCA w)).objs.size=s.heap.objs.size+1:=zAr ..
  have nli:l≠(s.heap.push (zCA w)).objs.size:=zh (by rw[hsz];exact zAt hlt)
  have nsi:s.heap.objs.size≠(s.heap.push (zCA w)).objs.size:=by rw[hsz];exact zh (Nat.lt_succ_self _)
  refine zLB (led:=!w.params.followText "set-order") (Walks.list (prog:=prog) (w:=w) (A:=(A.under (Code.builtin "type.__call__" { pos:=[.type "set",.ref l] })).in1.in1) hA (s.heap.push (zCA w)).objs.size l nli its.toArray) ?_ nsi (fun i=>ns.getD i 0) ?_ (by simpa using hz) its.toArray.size 0 _ rfl (zi _) ?_ ?_ ?_
  . intro z
    rcases zT.mp z with z | z
    . exact nsi z
    . exact absurd (zn.mp z) (Nat.ne_of_gt hlt)
  . intro i v hv
    rw[zy] at hv
    exact hi.int_at i v hv
  . exact⟨⟨_,zN _ rfl,rfl,rfl⟩,ht _ fun b o e=>zF _ (h0 b o e)⟩
  . exact (zFn (prog:=prog) (w:=w) s.heap).keep fun o e=>zF _ e
  . intro s' e1 e2 e3 kp so
    refine zB (zB (zB (zB ?_)))
    obtain⟨h',g',d',t',o'⟩:=s'
    cases e1
    cases e2
    cases e3
    refine q h' t' (fun b o e=>kp b o (zh (zU e)) (fun z=>?_) (zF _ (h0 b o e))) (by simpa using so)
    have hb:b<s.heap.objs.size:=zU e
    rw[z,hsz] at hb
    exact absurd hb (Nat.not_lt.mpr (zBo _))
 | .ok .next,e=>exact e.elim
 | .ok .brk,e=>exact e.elim
 | .ok .cont,e=>exact e.elim
 | .error v,e=>exact e
theorem mk_tup {l:Addr}{its:List Value}{ns:List Int}{Q:Value->Shared->Prop}(hA:A.handled=none)(hl:s.heap.IsTuple l its.toArray)(hi:IntsAre its ns)(hz:its.length+1<scanBound)
 (q:∀(h:Heap)(tk:Nat),(∀b o,s.heap.get? b=some o->h.get? b=some o)->zFb prog w (!w.params.followText "set-order") h s.heap.objs.size (fun z=>(firstMet (fun i=>ns.getD i 0) its.length).any fun x=>x==z) (firstMet (fun i=>ns.getD i 0) its.length).length->Q (.ref s.heap.objs.size) { s with heap:=h,toks:=tk }) :
 wpAny (model prog w) A (call (.type "set") [.ref l]) Q E s:=by
 refine zA5 (codeAny_of_tree (zB ⟨Code.quiet_builtin _ (by decide +kernel),codeAny_builtin PySem.F.entry_type_call ?_⟩))
 unfold Builtin.«type.__call__»
 dsimp only
 rw[if_neg (by rw[PySem.F.called_set.notType];decide)]
 rw[if_neg (by rw[PySem.F.called_set.canCreate];decide)]
 obtain⟨c,tl,hm⟩:=PySem.F.called_set.mro
 refine zA (wpAny_of_eq (PySem.F.typeCall_set_1 _) (zB (zA (wpAny_of_eq hm (zB ?_)))))
 refine zA (wpAny_of_eq PySem.F.called_set.made (zB (zA (zB ?_))))
 refine zA (zw (zA5 (codeAny_mono (new_g (E:=E) (.ref l) (Q₁:=fun obj s₁=>obj = .ref s.heap.objs.size/\s₁={ s with heap:=s.heap.push (zCA w) }) ⟨rfl,rfl⟩) fun r s₁ e=>?_)))
 match r,e with
 | .ok (.ret obj),e=>
  obtain⟨rfl,rfl⟩:=e
  have h0:∀b o,s.heap.get? b=some o->(s.heap.push (zCA w)).get? b=some o:=fun b o e=>zF _ e
  have ht:∀h:Heap,(∀b o,s.heap.get? b=some o->h.get? b=some o)->h.IsTuple l its.toArray:=fun h K=>by
   obtain⟨o,ho,hr⟩:=hl
   exact⟨o,K _ _ ho,hr⟩
  have hlt:l<s.heap.objs.size:=by
   obtain⟨o,ho,_⟩:=hl
   exact zU ho
  have tyS:Shared.TypeIs { s with heap:=s.heap.push (zCA w) } (.ref s.heap.objs.size) "set" := ⟨_,zN _ rfl,rfl⟩
  show wpAny _ _ _ _ _ _
  refine zA (zAq tyS PySem.F.called_set.sub ?_)
  refine zA (zw ?_)
  unfold callSpecial?
  refine zA (wpAny_specialOf tyS PySem.F.called_set.init.lookup (zw (zA (wpAny_of_eq (PySem.F.called_set.init.bind _) (zB (zA (zA5 (codeAny_call_builtin PySem.F.called_set.init.plain PySem.F.entry_set_init (check_set_init_1 tyS ?_)))))))))
  unfold Builtin.«set.__init__»
  refine zA (wpAny_of_eq (m':=pure ()) rfl (zB ?_))
  dsimp only
  refine zA (zA (zA (zBN tyS (wpAny_of_eq (m':=pure (Value.type "set")) rfl (zB (wpAny_of_eq (m':=pure "set") rfl (zB ?_)))))))
  refine zA (wpAny_of_eq (m':=pure ()) rfl (zB (zA (zB ?_))))
  refine zA (zA (zA (wpAny_load (zN _ rfl) ?_)))
  refine wpAny_of_eq (m':=pure (#[],0,SetTable.fresh 0 0 (!w.params.followText "set-order"))) (by unfold zCA;cases w.params.followText "set-order" <;> rfl) (zB (wpAny_of_eq (m':=pure false) (by cases w.params.followText "set-order" <;> rfl) (zB ?_)))
  have tyT:∀h tk,(∀b o,s.heap.get? b=some o->h.get? b=some o)->Shared.TypeIs { s with heap:=h,toks:=tk } (.ref l) "tuple" := fun h tk K=>by
   obtain⟨o,ho,hr⟩:=ht h K
   exact⟨o,ho,hr.1⟩
  show wpAny _ _ (Builtin.Frozenset.updateFrom "set.__init__" s.heap.objs.size (.ref l) >>= _) _ _ _
  unfold Builtin.Frozenset.updateFrom
  refine zA (zA (zA (zAq (tyT _ _ h0) PySem.F.sub_tuple_set (zAq (tyT _ _ h0) (b:=false) rfl ?_))))
  refine zA (zBN (tyT _ _ h0) ?_)
  refine zA (wpAny_pyIter_tuple (ht _ h0) (zA (wpAny_runValue ?_)))
  have hsz:(s.heap.push (zCA w)).objs.size=s.heap.objs.size+1:=zAr ..
  have nli:l≠(s.heap.push (zCA w)).objs.size:=zh (by rw[hsz];exact zAt hlt)
  have nsi:s.heap.objs.size≠(s.heap.push (zCA w)).objs.size:=by rw[hsz];exact zh (Nat.lt_succ_self _)
  refine zLB (led:=!w.params.followText "set-order") (Walks.tuple (prog:=prog) (w:=w) (A:=(A.under (Code.builtin "type.__call__" { pos:=[.type "set",.ref l] })).in1.in1) hA (s.heap.push (zCA w)).objs.size l nli its.toArray) ?_ nsi (fun i=>ns.getD i 0) ?_ (by simpa using hz) its.toArray.size 0 _ rfl (zi _) ?_ ?_ ?_
  . intro z
    rcases zT.mp z with z | z
    . exact nsi z
    . exact absurd (zn.mp z) (Nat.ne_of_gt hlt)
  . intro i v hv
    rw[zy] at hv
    exact hi.int_at i v hv
  . exact⟨⟨_,zN _ rfl,rfl,rfl⟩,ht _ fun b o e=>zF _ (h0 b o e)⟩
  . exact (zFn (prog:=prog) (w:=w) s.heap).keep fun o e=>zF _ e
  . intro s' e1 e2 e3 kp so
    refine zB (zB (zB (zB ?_)))
    obtain⟨h',g',d',t',o'⟩:=s'
    cases e1
    cases e2
    cases e3
    refine q h' t' (fun b o e=>kp b o (zh (zU e)) (fun z=>?_) (zF _ (h0 b o e))) (by simpa using so)
    have hb:b<s.heap.objs.size:=zU e
    rw[z,hsz] at hb
    exact absurd hb (Nat.not_lt.mpr (zBo _))
 | .ok .next,e=>exact e.elim
 | .ok .brk,e=>exact e.elim
 | .ok .cont,e=>exact e.elim
 | .error v,e=>exact e
end
end STb
namespace L2
open PySem PySem.Spec PyProof.Rows STb
theorem zFV (val:Nat->Int):∀i,(firstMet val i).Nodup
 | 0=>List.nodup_nil
 | i+1=>by
  have ih:=zFV val i
  rw[firstMet_succ]
  unfold step_dedup
  split
  . exact ih
  . rename_i h
    refine zAP.mpr ⟨ih,by simp,fun a ha b hb e=>h ?_⟩
    rw[zn.mp hb] at e
    subst e
    exact zB5.mpr ⟨_,ha,by simp⟩
theorem zE0:∀{l2 l1:List Int},l2.Nodup->(∀x∈l2,x∈l1)->l1.length<=l2.length->l1.Perm l2
 | [],l1,_,_,h=>by
  have:l1=[]:=zA3.mp (by simpa using h)
  subst this
  exact List.Perm.refl _
 | x::r,l1,nd,hs,h=>by
  have hx:x∈l1:=hs x zY
  have nx:x∉r:=(zAj.mp nd).1
  refine (List.perm_cons_erase hx).trans ((zE0 (zAj.mp nd).2 (fun y hy=>?_) ?_).cons x)
  . exact (List.mem_erase_of_ne (a:=y) (b:=x) (fun z=>nx (by rw[<-z];exact hy))).mpr (hs y (zR _ hy))
  . rw[List.length_erase_of_mem hx]
    simp only[zd] at h
    omega
theorem zE8 {prog:Program}{w:World}:∀{l:List (Int×Value)},ElemsOf (intKind prog w) l->∃ns:List Int,IntsAre (l.map (·.2)) ns/\∀z,z∈ns↔∃e∈l,(intKind prog w).is z e.2=true
 | [],_=>⟨[],.nil,fun z=>by simp⟩
 | e::r,h=>by
  obtain⟨ns,h1,h2⟩:=zE8 (l:=r) h.tail
  obtain⟨⟨k,hk,_⟩,_⟩:=h.head
  obtain⟨t,et⟩:=Value.isInt_shape hk
  refine⟨k::ns,?_,fun z=>?_⟩
  . rw[zAV,et]
    exact .cons k t h1
  . rw[zT,h2]
    constructor
    . rintro (rfl | ⟨e',he',hz⟩)
      . exact⟨e,zY,hk⟩
      . exact⟨e',zR _ he',hz⟩
    . rintro ⟨e',he',hz⟩
      rcases zT.mp he' with rfl | he'
      . exact .inl ((intKind prog w).inj _ _ _ hz hk)
      . exact .inr ⟨e',he',hz⟩
theorem fm_mem (ns:List Int)(z:Int):((firstMet (fun i=>ns.getD i 0) ns.length).any fun x=>x==z)=true↔z∈ns:=by
 rw[firstMet_any]
 have e:(List.range ns.length).map (fun i=>ns.getD i 0)=ns:=by
  apply List.ext_getElem
  . simp
  . intro i h1 h2
    simp[h2]
 rw[e,zB5]
 exact⟨fun ⟨x,hx,h⟩=>by rw[<-eq_of_beq h];exact hx,fun h=>⟨z,h,by simp⟩⟩
theorem zIT {ms:List Int}(h1:ms.Pairwise (· <= ·))(h2:ms.Nodup):ms.Pairwise (· < ·):=by
 rw[zu] at h1 ⊢
 intro i j hi hj hij
 have a:=h1 i j hi hj hij
 have b:ms[i]≠ms[j]:=fun z=>by have:=(List.getElem_inj h2).mp z;omega
 omega
section
open PySem.W PySem.Calls SortT
variable {prog:Program}{w:World}{A:Around}{E:Value->Shared->Prop}{s:Shared}
theorem zGe {a:Addr}{S:Int->Bool}{n:Nat}{Q:Value->Shared->Prop}(hh:A.handled=none)(G:zFb prog w (!w.params.followText "set-order") s.heap a S n) (h64:n<64)
 (q:∀(s1:Shared)(h':Heap)(D:Addr)(ms:List Int)(us:List Value)(c:Nat),s1.gens=s.gens->s1.os=s.os->(∀b o,s.heap.get? b=some o->s1.heap.get? b=some o)->(∀b o,s1.heap.get? b=some o->h'.get? b=some o)->s1.heap.objs.size<=D->h'.get? D=some (seqObj "list" us.toArray c)->zBB (ms.map V.int) us->ms.Pairwise (· <= ·)->(∀z,z∈ms↔S z=true)->ms.length=n->Q (.ref D) { s1 with heap:=h' }) :
 wpAny (model prog w) A (call (.builtin "sorted") [.ref a]) Q E s:=by
 obtain⟨ob,el,ep,tb,g1,g2,g3,B⟩:=G
 refine Calls.call_function_entry kind_sorted plain_sorted entry_sorted (args_sorted1 _) ?_
 unfold Builtin.«sorted»
 refine zA (m:=checkCount "sorted" 1 1 _) (zB ?_)
 refine zA (zGg (A:=A.in1) hh ⟨ob,g1,g2,g3⟩ B.fit B.gt (by have:=B.siz;omega) fun s1 acc e1 e2 k1 hg=>?_)
 obtain⟨l,lp,la⟩:=hg
 obtain⟨ns,hI,hm⟩:=zE8 (B.elm.perm lp)
 have hl:l.length=n:=by rw[lp.length_eq,Array.length_toList,B.siz]
 have hvl:acc.toList.length=n:=by rw[la,zD,hl]
 rw[<-la] at hI
 generalize acc.toList=vs at hI hvl
 refine zA (wpAny_newList ?_ (by rw[sizeLine_eq];omega))
 have hoL:(s1.heap.push (seqObj "list" vs.toArray 0)).get? s1.heap.objs.size=some (seqObj "list" vs.toArray 0):=zN _ rfl
 have kp1:∀b o,s1.heap.get? b=some o->(s1.heap.push (seqObj "list" vs.toArray 0)).get? b=some o:=fun b o z=>zF _ z
 refine zA (zw (zAa slot_list_sort ⟨_,hoL,rfl⟩ entry_list_sort (SortT.list_sort (O:=intO) (key:=fun i=>ns.getD i 0) (κ:=oneType') hoL (by omega) (fun h2=>zEg hI h2) fun out hp=>⟨_,rfl,?_⟩) (args_list_sort _)))
 refine zB ⟨_,rfl,?_⟩
 obtain⟨c,hc⟩:=sortedHeap_at (vs:=vs) (out:=(out.map fun i=>vs.getD i Value.none).toArray) hoL
 obtain⟨ms,pm,pr,rz,pl⟩:=zFJ hI hp
 refine q s1 _ _ ms _ c e1 e2 k1 (fun b o z=>?_) (zH _) hc rz pr (fun z=>?_) (by rw[pl,<-hI.length,hvl])
 . have hb:b<s1.heap.objs.size:=zU z
   rw[sortedHeap_old (zh hb) (by rw[zAr];exact zAt hb)]
   exact kp1 b o z
 . rw[pm.mem_iff,hm z,B.mem z]
   exact⟨fun ⟨e,he,u⟩=>⟨e,lp.mem_iff.mp he,u⟩,fun ⟨e,he,u⟩=>⟨e,lp.mem_iff.mpr he,u⟩⟩
end
section
variable {X:Cx}
noncomputable def zJ6 (K:PySem.W.Frag)(ta:TA):TE:=fun σ H Q=>ta σ H fun vs H1=>∃(p:Addr)(ns:List Int),vs=[.ref p]/\(SqL K H1 p (ns.map V.int)\/SqT K H1 p (ns.map V.int))/\ns.length<64/\∀(l:Addr)(ms:List Int),H1 l=none->ms.Pairwise (· < ·)->(∀z:Int,z∈ms↔z∈ns)->Q (.ref l) (upd H1 l (.lst (ms.map V.int)))
theorem zFz {a:Expr}{ta:TA}{p1 p2 pos1 pos2:Pos}(hc:X.calm=true)(hgS:Gl X "sorted") (hmS:X.mg "sorted" = none) (hgT:Gl X "set") (hmT:X.mg "set" = none) (ha:PA X [a] ta)(hs:starEach [a] X.env=[(false,eval a X.env)]:=by rfl)
 (hs2:starEach [.Call (.Name "set" p2) [a] [] pos2] X.env=[(false,eval (.Call (.Name "set" p2) [a] [] pos2) X.env)]:=by rfl) :
 PE X (.Call (.Name "sorted" p1) [.Call (.Name "set" p2) [a] [] pos2] [] pos1) (zJ6 X.K ta):=by
 intro pins s σ H Q I h
 refine zAv (zCx I hgS hmS (by decide +kernel:bootBuiltins "sorted" = some (.builtin "sorted")) ?_ (by decide) (by decide))
 refine PyProof.Rows.callWith_builtin1 ?_ hs2 rfl
 rw[hs2]
 refine Calls.spliced_cons ?_
 refine Call_ (zCx I hgT hmT (by decide +kernel:bootBuiltins "set" = some (.type "set")) (PyProof.Rows.callWith_type1 (thn (ha pos2 pins s σ H _ I h) fun us s1 ⟨vs,H1,I1,r1,q1⟩=>?_) hs rfl))
 obtain⟨p,ns,e,hq,h64,q⟩:=q1
 subst e
 obtain⟨u,rfl,rx⟩:=zDB r1
 cases rx
 have lh:(firstMet (fun i=>ns.getD i 0) ns.length).length<=ns.length:=firstMet_length_le _ _
 have key:∀(h:Heap)(tk:Nat),(∀b o,s1.heap.get? b=some o->h.get? b=some o)->zFb X.prog X.w (!X.w.params.followText "set-order") h s1.heap.objs.size (fun z=>(firstMet (fun i=>ns.getD i 0) ns.length).any fun x=>x==z) (firstMet (fun i=>ns.getD i 0) ns.length).length ->
  wpAny (model X.prog X.w) X.A (call (.builtin "sorted") [.ref s1.heap.objs.size]) (EP X pins σ Q) X.xe { s1 with heap:=h,toks:=tk }:=by
  intro h tk K so
  refine zGe (I1.ok.hd hc) so (by omega) fun s2 h' D ms us c e1 e2 k1 k2 hD ho rz pr hm hlen=>?_
  obtain⟨hp2,g2,d2,t2,o2⟩:=s2
  cases e1
  cases e2
  have kk:∀b o,s1.heap.get? b=some o->hp2.get? b=some o:=fun b o z=>k1 b o (K b o z)
  have I2:Inv X pins σ H1 { s1 with heap:=hp2,gens:=s1.gens,drawn:=d2,toks:=t2 }:=I1.call (ch:=[]) (Un.kept kk) (I1.hok.kept kk) I1.bare fun _ z=>nomatch z
  have cov:=zE0 (l2:=firstMet (fun i=>ns.getD i 0) ns.length) (l1:=ms) (zFV _ _) (fun x hx=>(hm x).mpr (zB5.mpr ⟨x,hx,by simp⟩)) (by omega)
  refine⟨.ref D,_,zCi (t':=t2) I2 hD k2 ho rz ?_,rfl,q D ms (I2.hok.fresh hD) (zIT pr (cov.nodup_iff.mpr (zFV _ _))) fun z=>(hm z).trans (fm_mem ns z)⟩
  have:sizeLine=16777216:=rfl
  rw[zD]
  omega
 have sb:scanBound=4096:=rfl
 rcases hq with hq | hq
 . obtain⟨its,rv,pl,hz⟩:=I1.list hq
   have hi:=zBa rv
   have hil:=hi.length
   refine zL0 (I1.ok.hd hc) pl.isList hi (by omega) fun h tk K so=>?_
   rw[hil] at so
   exact Calls.spliced_nil (key h tk K so)
 . obtain⟨its,rv,pl,hz⟩:=I1.tuple hq
   have hi:=zBa rv
   have hil:=hi.length
   refine mk_tup (I1.ok.hd hc) pl hi (by omega) fun h tk K so=>?_
   rw[hil] at so
   exact Calls.spliced_nil (key h tk K so)
end
end L2
namespace L2
open PySem PyProof.Rows
section
variable {prog:Program}{w:World}{A:Around}{s0:Shared}{I S:Addr}{its:List Value}{itAt:Nat->Heap->Prop}
theorem zJC {R:Result->Shared->Prop}{kw:List (Str×Value)}(M:zKn prog w A.in1 s0 I its itAt)(bt:Nat->Nat->Bool)(hS:s0.heap.objs.size<=S)(hI:s0.heap.objs.size<=I)(hSI:S≠I)
 (cmp:∀(i j:Nat)(vi vj:Value)(h:Heap)(tk:Nat)(Q E:Value->Shared->Prop),Kp s0 h->its[i]? = some vi->its[j]? = some vj->Q (.bool (bt i j)) { s0 with heap:=h,toks:=tk }->wpAny (model prog w) A.in1 (richCompare .Gt vi vj) Q E { s0 with heap:=h,toks:=tk })
 (hR:∀(v:Value)(h:Heap)(tk:Nat),its[argBest bt (its.length-1)]? = some v->Kp s0 h->R (.ok (.ret v)) { s0 with heap:=h,toks:=tk })
 : ∀(r j:Nat)(h:Heap)(tk:Nat)(vb:Value)(c:Nat),its.length-(j+1)=r->j+1<=its.length->Kp s0 h->itAt (j+1) h->its[argBest bt j]? = some vb ->
  h.get? S=some { cls:=.type "list",data:=.seq #[vb,vb] c }->codeAny (model prog w) A (.builtin "max.loop" { pos:=[.ref I,.none,.ref S],kw:=kw }) R { s0 with heap:=h,toks:=tk }:=by
 intro r
 induction r with
 | zero=>
  intro j h tk vb c hr hj K hit hv hSo
  refine codeAny_builtin PySem.F.entry_max_loop ?_
  unfold Builtin.«max.loop»
  refine zA (zBE hSo rfl ?_)
  dsimp only
  refine zA (zBO (M.fin (j+1) h tk _ _ K hit (zz (by omega)) fun h' k=>?_))
  have hS':=k S _ hSI hSo
  refine zA (zA1 hS' rfl (zA (wpAny_letGo (zB ?_))) (by show 2<=sizeLine;decide) (by show 0<=sizeLine+1;decide))
  refine hR vb _ tk ?_ ((K.but hI k).upd hS)
  rw[show its.length-1=j by omega];exact hv
 | succ r ih=>
  intro j h tk vb c hr hj K hit hv hSo
  obtain⟨x,hx⟩:∃x,its[j+1]? = some x:=⟨_,zE (by omega)⟩
  refine codeAny_builtin PySem.F.entry_max_loop ?_
  unfold Builtin.«max.loop»
  refine zA (zBE hSo rfl ?_)
  dsimp only
  refine zA (zBO (M.next (j+1) h tk x _ _ K hit hx fun h' hit' k=>?_))
  have K':Kp s0 h':=K.but hI fun b o hb e=>by rw[k b hb];exact e
  have hS':h'.get? S=some { cls:=.type "list",data:=.seq #[vb,vb] c }:=by rw[k S hSI];exact hSo
  refine zA (zB ?_)
  refine zA (zBO (zw (zA (cmp (j+1) (argBest bt j) x vb h' tk _ _ K' hx hv ?_))))
  refine zA (zw (zA9 (zA (wpAny_letGo (zB ?_)))))
  have eb:argBest bt (j+1)=if bt (j+1) (argBest bt j)=true then j+1 else argBest bt j:=argBest.eq_2 bt j
  cases e:bt (j+1) (argBest bt j) with
  | true=>
   rw[if_pos e] at eb
   refine zA (zA1 hS' rfl (zA (wpAny_letGo (zB ⟨rfl,?_⟩))) (by show 2<=sizeLine;decide) (by show 2<=sizeLine+1;decide))
   exact ih (j+1) _ tk x c (by omega) (by omega) (K'.upd hS) (M.stay _ _ _ hit' (zBY _ _ _ _ (Ne.symm hSI))) (by rw[eb];exact hx) (zv _ hS' rfl)
  | false=>
   rw[e,if_neg (by decide)] at eb
   refine zA (wpAny_letGo (zB ⟨rfl,?_⟩))
   exact ih (j+1) h' tk vb c (by omega) (by omega) K' hit' (by rw[eb];exact hv) hS'
theorem zE4 {R:Result->Shared->Prop}{d:Value}(M:zKn prog w A.in1 s0 I its itAt)(bt:Nat->Nat->Bool)(hS:s0.heap.objs.size<=S)(hI:s0.heap.objs.size<=I)(hSI:S≠I)
 (cmp:∀(i j:Nat)(vi vj:Value)(h:Heap)(tk:Nat)(Q E:Value->Shared->Prop),Kp s0 h->its[i]? = some vi->its[j]? = some vj->Q (.bool (bt i j)) { s0 with heap:=h,toks:=tk }->wpAny (model prog w) A.in1 (richCompare .Gt vi vj) Q E { s0 with heap:=h,toks:=tk })
 (hR:∀(v:Value)(h:Heap)(tk:Nat),its[argBest bt (its.length-1)]? = some v->Kp s0 h->R (.ok (.ret v)) { s0 with heap:=h,toks:=tk })
 (h0:its=[]->∀(h:Heap)(tk:Nat),Kp s0 h->R (.ok (.ret d)) { s0 with heap:=h,toks:=tk })
 (h:Heap)(tk:Nat)(c:Nat)(K:Kp s0 h)(hit:itAt 0 h)(hSo:h.get? S=some { cls:=.type "list",data:=.seq #[] c }) :
 codeAny (model prog w) A (.builtin "max.loop" { pos:=[.ref I,.none,.ref S],kw:=[(Str.ofString "default",d)] }) R { s0 with heap:=h,toks:=tk }:=by
 refine codeAny_builtin PySem.F.entry_max_loop ?_
 unfold Builtin.«max.loop»
 refine zA (zBE hSo rfl ?_)
 dsimp only
 cases e:its with
 | nil=>
  subst e
  refine zA (zBO (M.fin 0 h tk _ _ K hit rfl fun h' k=>?_))
  exact zA (zB7 (zB (h0 rfl h' tk (K.but hI k))))
 | cons x xs=>
  have hx:its[0]? = some x:=by rw[e];rfl
  refine zA (zBO (M.next 0 h tk x _ _ K hit hx fun h' hit' k=>?_))
  have K':Kp s0 h':=K.but hI fun b o hb e=>by rw[k b hb];exact e
  have hS':h'.get? S=some { cls:=.type "list",data:=.seq #[] c }:=by rw[k S hSI];exact hSo
  refine zA (zB ?_)
  refine zA (zA1 hS' rfl (zB ⟨rfl,?_⟩) (by show 0<=sizeLine;decide) (by show 2<=sizeLine+1;decide))
  refine zJC M bt hS hI hSI cmp hR (its.length-1) 0 _ tk x (c+1) rfl (by rw[e];simp) (K'.upd hS) (M.stay _ _ _ hit' (zBY _ _ _ _ (Ne.symm hSI))) hx (zv _ hS' rfl)
end
theorem zJo {prog:Program}{w:World}{A:Around}{s:Shared}{p:Addr}{its:List Value}{d:Value}{Q E:Value->Shared->Prop}(hA:A.handled=none)(bt:Nat->Nat->Bool)(hp:s.heap.IsList p its.toArray\/s.heap.IsTuple p its.toArray)
 (cmp:∀(i j:Nat)(vi vj:Value)(h:Heap)(tk:Nat)(Q E:Value->Shared->Prop),Kp s h->its[i]? = some vi->its[j]? = some vj->Q (.bool (bt i j)) { s with heap:=h,toks:=tk }->wpAny (model prog w) A.in1 (richCompare .Gt vi vj) Q E { s with heap:=h,toks:=tk })
 (hR:∀(v:Value)(h:Heap)(tk:Nat),its[argBest bt (its.length-1)]? = some v->Kp s h->Q v { s with heap:=h,toks:=tk })
 (h0:its=[]->∀(h:Heap)(tk:Nat),Kp s h->Q d { s with heap:=h,toks:=tk }) :
 wpAny (model prog w) A (call (.builtin "max") [.ref p] [(Str.ofString "default",d)]) Q E s:=by
 refine zA5 (codeAny_call_builtin PySem.F.plain_max PySem.F.entry_max (wpAny_of_eq (show checkBuiltinCall "max" { pos:=[.ref p],kw:=[(Str.ofString "default",d)] }=pure () from rfl) (zB ?_)))
 unfold Builtin.max
 refine zA (wpAny_of_eq (show Builtin.Builtins.bindParams "max" ["key", "default"] 0 { kw:=[(Str.ofString "default",d)] }=pure [none,some d] from rfl) (zB ?_))
 dsimp only
 refine zA (zB ?_)
 have kp0:∀(o1 o2:Obj),Kp s ((s.heap.push o1).push o2):=fun o1 o2 b o e=>zF _ (zF _ e)
 rcases hp with hp | hp
 . refine zA (wpAny_pyIter_list hp (zA (wpAny_newList (zB ⟨rfl,?_⟩) (by show 0<=sizeLine;decide))))
   have hSe:(s.heap.push { cls:=.type "list_iterator",data:=.fields #[.ref p,.int 0 0] }).objs.size=s.heap.objs.size+1:=zAr ..
   rw[hSe]
   refine zE4 (s0:=s) (I:=s.heap.objs.size) (S:=s.heap.objs.size+1) (itAt:=fun j h=>h.IsListIter s.heap.objs.size p j) ⟨fun j h h' a e=>?_,fun j h tk v Q E K hit hv q=>?_,fun j h tk Q E K hit hv q=>?_⟩ bt (zBo _) (zH _) (Nat.succ_ne_self _) cmp hR h0 _ s.toks 0 (kp0 _ _) ?_ ?_
   . obtain⟨o,ho,hc⟩:=a
     exact⟨o,by rw[e];exact ho,hc⟩
   . obtain⟨o,ho,hc⟩:=hp
     exact wpAny_pyNext_list_item hit ⟨o,K _ _ ho,hc⟩ (by rw[zy];exact hv) fun h' a b=>q h' a fun c hc=>b.2 c hc
   . obtain⟨o,ho,hc⟩:=hp
     exact wpAny_pyNext_list_end hA hit ⟨o,K _ _ ho,hc⟩ (by rw[zy];exact hv) fun h' b=>q h' b
   . exact⟨_,zF _ (zN _ rfl),rfl,rfl⟩
   . rw[<-hSe];exact zN _ rfl
 . refine zA (wpAny_pyIter_tuple hp (zA (wpAny_newList (zB ⟨rfl,?_⟩) (by show 0<=sizeLine;decide))))
   have hSe:(s.heap.push { cls:=.type "tuple_iterator",data:=.fields #[.ref p,.int 0 0] }).objs.size=s.heap.objs.size+1:=zAr ..
   rw[hSe]
   refine zE4 (s0:=s) (I:=s.heap.objs.size) (S:=s.heap.objs.size+1) (itAt:=fun j h=>h.IsTupleIter s.heap.objs.size p j) ⟨fun j h h' a e=>?_,fun j h tk v Q E K hit hv q=>?_,fun j h tk Q E K hit hv q=>?_⟩ bt (zBo _) (zH _) (Nat.succ_ne_self _) cmp hR h0 _ s.toks 0 (kp0 _ _) ?_ ?_
   . obtain⟨o,ho,hc⟩:=a
     exact⟨o,by rw[e];exact ho,hc⟩
   . obtain⟨o,ho,hc⟩:=hp
     exact wpAny_pyNext_tuple_item hit ⟨o,K _ _ ho,hc⟩ (by rw[zy];exact hv) fun h' a b=>q h' a fun c hc=>b.2 c hc
   . obtain⟨o,ho,hc⟩:=hp
     exact wpAny_pyNext_tuple_end hA hit ⟨o,K _ _ ho,hc⟩ (by rw[zy];exact hv) fun h' b=>q h' b
   . exact⟨_,zF _ (zN _ rfl),rfl,rfl⟩
   . rw[<-hSe];exact zN _ rfl
theorem zIH (f:Nat->Int)(k:Nat):argBest (fun i j=>decide (f i > f j)) k<=k/\∀j,j<=k->f j<=f (argBest (fun i j=>decide (f i > f j)) k):=by
 have e:(fun i j=>decide (f i > f j))=fun i j=>decide (-f i < -f j):=by
  funext i j
  rw[Bool.eq_iff_iff,decide_eq_true_iff,decide_eq_true_iff]
  omega
 rw[e]
 obtain⟨h1,h2⟩:=argBest_lt (fun i=>-f i) k
 refine⟨h1,fun j hj=>?_⟩
 have:=h2 j hj
 omega
section
variable {X:Cx}
noncomputable def rMaxD (K:PySem.W.Frag)(x dv:V)(H:Hp)(Q:VK):Prop:=∃(p:Addr)(ns:List Int),x = .ref p/\(SqL K H p (ns.map V.int)\/SqT K H p (ns.map V.int))/\(ns=[]->Q dv H)/\(∀n∈ns,(∀m∈ns,m<=n)->Q (.int n) H)
noncomputable def tMaxD (K:PySem.W.Frag)(t:TA)(td:TE):TE:=fun σ H Q=>t σ H fun vs H1=>∃x,vs=[x]/\td σ H1 fun dv H2=>rMaxD K x dv H2 Q
theorem zLm {e de:Expr}{t:TA}{td:TE}{pos np kpos:Pos}(hc:X.calm=true)(hu:X.A.units+1<cLine)(hg:Gl X "max") (hm:X.mg "max" = none) (he:PA X [e] t)(hd:PE X de td)
 (hs1:backTo pos (starEach [e] X.env)=(false,eval e X.env)::backTo pos (starEach [] X.env):=by rfl)(hs2:(backTo pos (starEach [e] X.env)).any (·.1)=false:=by rfl) :
 PE X (.Call (.Name "max" np) [e] [⟨some "default",de,kpos⟩] pos) (tMaxD X.K t td):=by
 intro pins s σ H Q I h
 refine zAv (zCx I hg hm (by decide +kernel:bootBuiltins "max" = some (.builtin "max")) ?_)
 refine PyProof.Rows.callWith_kw (thn (he pos pins s σ H _ I h) fun us s1 ⟨vs,H1,I1,r,q1⟩=>?_) hs1 hs2
 obtain⟨x,rfl,q1⟩:=q1
 obtain⟨u,rfl,rx⟩:=zDB r
 show wpAny _ _ (evalAll ((do let v <-eval de X.env;standAt pos;pure v)::[])) _ _ s1
 refine wpAny_evalAll_cons (zA (thn (hd pins s1 σ H1 _ I1 q1) fun ud s2 ⟨dv,H2,I2,rd,q2⟩=>zA (wpAny_standAt (zB (wpAny_evalAll_nil ?_)))))
 show wpAny _ _ (call (.builtin "max") [u] [(Str.ofString "default",ud)]) _ _ s2
 obtain⟨p,ns,rfl,hp,q0,q⟩:=q2
 obtain⟨ys,ey⟩:∃ys,ys=ns.map V.int:=⟨_,rfl⟩
 rw[<-ey] at hp
 cases rx
 obtain⟨its,rv,hpp⟩:∃its:List Value,zBB ys its/\(s2.heap.IsList p its.toArray\/s2.heap.IsTuple p its.toArray):=by
  rcases hp with hp | hp
  . obtain⟨its,r',pl,_⟩:=I2.list hp
    exact⟨its,r',.inl pl.isList⟩
  . obtain⟨its,r',pl,_⟩:=I2.tuple hp
    exact⟨its,r',.inr pl⟩
 have hlen:=rv.length
 have e0:its=[]->ns=[]:=fun z=>by
  have:ys=[]:=zA3.mp (by rw[hlen,z];rfl)
  rw[ey] at this
  exact List.map_eq_nil_iff.mp this
 subst ey
 have hI:IntsAre its ns:=zBa rv
 have hl:=hI.length
 have look:∀(i:Nat)(v:Value),its[i]? = some v->∃t,v = .int (ns.getD i 0) t:=fun i v hv=>by
  have hi:i<ns.length:=by have:=(zL.mp hv).1;omega
  obtain⟨u,hu,ru⟩:=rv.get (i:=i) (x:=.int ns[i]) (by simp[hi])
  rw[hv] at hu;cases hu
  obtain⟨t,rfl⟩:=(show ∃t,v=Value.int ns[i] t from ru)
  exact⟨t,by rw[zM,zE hi];rfl⟩
 refine zJo (I2.ok.hd hc) (fun i j=>decide (ns.getD i 0 > ns.getD j 0)) hpp (fun i j vi vj h tk Q E K hi hj q=>?_) (fun v h tk hv K=>?_) (fun z h tk K=>⟨dv,H2,I2.kept K,rd,q0 (e0 z)⟩)
 . obtain⟨t1,rfl⟩:=look i vi hi
   obtain⟨t2,rfl⟩:=look j vj hj
   exact PyProof.Rows.gt_int q
 . obtain⟨b1,b2⟩:=zIH (fun i=>ns.getD i 0) (its.length-1)
   have hlt:=(zL.mp hv).1
   generalize eb:argBest (fun i j=>decide (ns.getD i 0 > ns.getD j 0)) (its.length-1)=bi at hv hlt b1 b2
   obtain⟨t,rfl⟩:=look bi v hv
   have hy:bi<ns.length:=by omega
   refine⟨.int (ns.getD bi 0),H2,I2.kept K,⟨t,rfl⟩,q _ ?_ fun m hm=>?_⟩
   . rw[zM,zE hy];exact zBH hy
   . obtain⟨j,hj,ej⟩:=zx hm
     have:=b2 j (by omega)
     have g1:ns.getD j 0=m:=by rw[zM,zE hj,ej];rfl
     rw[g1] at this
     exact this
end
end L2
namespace L2
open PySem PySem.Spec PyProof.Rows
theorem zEP (l:Addr)(items:Array Value)(n:Nat)(b:Addr)(o:Obj)(items2:Array Value)(n2:Nat)(hlong:¬ (!items.isEmpty && Builtin.List.listTooLong (items.size+items2.size))=true)(hs1:items.size<=sizeLine)(hs2:items.size+items2.size<=sizeLine+1) :
 Meets (Builtin.«list.extend» ⟨[.ref l,.ref b],[]⟩) (fun _ R s=>s.heap.get? l=some { cls:=.type "list",dict:=none,data:=.seq items n,slots:=#[] }/\(s.heap.get? b=some o/\o.cls = .type "tuple" /\ o.data = .seq items2 n2)/\R (.ok (.ret Value.none)) { s with heap:=s.heap.update l (Obj.mapSeq fun x=>x++items2),toks:=s.toks }):=
 .of_wp fun prog w A R s h=>by
  obtain⟨hl,⟨hb,hc,hd⟩,h⟩:=h
  show wpAny _ A.in1 (Builtin.List.listExtendWith (.ref l) (.ref b) .none) _ _ s
  unfold Builtin.List.listExtendWith
  refine zA (zBN ⟨o,hb,hc⟩ ?_)
  have h1:(Builtin.List.listSameRef (.ref l) (.ref b) || Value.type "tuple" == Value.type "list" || Value.type "tuple" == Value.type "tuple")=true:=by simp
  simp only[h1,if_true]
  refine zA ?_
  unfold Builtin.List.listItems
  refine zA (zBE hb hd (zB ?_))
  refine zA ?_
  refine zA (zBE hl rfl (zB ?_))
  rw[if_neg hlong]
  show wpAny _ A.in1 (updateSeq l (· ++ items2) >>= fun _=>ret .none) _ _ s
  refine zA (zA1 hl rfl ?_ (by omega) (by rw[Array.size_append];exact hs2))
  exact zB ⟨_,rfl,h⟩
section
variable {X:Cx}
noncomputable def zKL:V->List V->Hp->VK->Prop:=fun x vs H Q=>∃l b xs zs,x = .ref l/\vs=[.ref b]/\H l=some (.lst xs)/\H b=some (.tup zs)/\xs.length+zs.length<=sizeLine/\Q .non (upd H l (.lst (xs++zs)))
theorem zHy:MtM X "list.extend" zKL:=by
 intro pins s σ H x vs v us Q I rx rv h
 obtain⟨l,b,xs,zs,rfl,rfl,hH,hB,hz,q⟩:=h
 cases rx
 obtain⟨u,rfl,ru⟩:=rv.one
 cases ru
 obtain⟨z,its,n,r,hl,e⟩:=I.lstM hH
 obtain⟨z2,its2,r2,o2,ho2,hc2,n2,hd2⟩:=I.hok b _ hB
 have hl2:=r2.length
 have hsz:its.toArray.size+its2.toArray.size<=sizeLine:=by rw[zS,zS];omega
 have hlong:¬ (!its.toArray.isEmpty && Builtin.List.listTooLong (its.toArray.size+its2.toArray.size))=true:=by
  rw[zHS hsz,Bool.and_false]
  exact zg
 refine call_meets PySem.F.slot_list_extend ⟨_,e,rfl⟩ PySem.F.entry_list_extend (PySem.F.args_list_extend_2 _ _)
  (zEP l its.toArray n b o2 its2.toArray n2 hlong (by rw[zS];omega) (by omega)) ⟨e,⟨ho2,hc2,hd2⟩,?_⟩
 refine⟨.non,_,I.lset (its':=its++its2) hH e (by simp) (r.append r2) ?_,rfl,q⟩
 rw[zC]
 omega
end
end L2
namespace L2
open PySem PySem.Spec PyProof.Rows
theorem zBP.there {P:Program}{w:World}{H:Hp}{h:Heap}{a:Addr}{o:HO}(x:zBP P w H h a o):∃ob,h.get? a=some ob:=by
 cases o with
 | lst xs=>obtain⟨_,_,_,_,e⟩:=x;exact⟨_,e⟩
 | tup xs=>obtain⟨⟨_,o2,e2,_⟩,_⟩:=x;exact⟨_,e2⟩
 | dK kvs=>obtain⟨_,_,_,_,o,_,_,e,_⟩:=x;exact⟨_,e⟩
 | dT kvs=>obtain⟨_,_,_,_,o,_,_,e,_⟩:=x;exact⟨_,e⟩
 | set S n=>obtain⟨o,_,_,_,e,_⟩:=x;exact⟨_,e⟩
 | ins C dx fs=>obtain⟨_,_,_,e,_⟩:=x;exact⟨_,e⟩
 | own y=>obtain⟨_,e⟩:=x;exact⟨_,e⟩
 | xd fs=>obtain⟨_,⟨_,_,_,e,_⟩,_⟩:=x;exact⟨_,e⟩
 | rng lo hi=>obtain⟨_,_,_,e⟩:=x;exact⟨_,e⟩
 | frz ob u=>obtain⟨e,_⟩:=x;exact⟨_,e⟩
 | tbl ps=>exact⟨_,show h.get? a=some _ from x⟩
 | met f y=>exact⟨_,show h.get? a=some _ from x⟩
 | ext φ=>obtain⟨_,⟨_,e⟩,_⟩:=x;exact⟨_,e⟩
theorem HOk.stays {P:Program}{w:World}{H:Hp}{h h' B:Heap}(x:HOk P w H h)(k:B.StaysIn h)(k':B.StaysIn h')(tr:∀b u,H b=some u->∃o,B.get? b=some o):HOk P w H h':=fun a o e=>
 (x a o e).stay (fun b u hb q=>by
  have:∃v,H b=some v:=by
   rcases hb with rfl | hb
   . exact⟨_,e⟩
   . exact⟨_,hb⟩
  obtain⟨v,hv⟩:=this
  obtain⟨o',ho'⟩:=tr b v hv
  have e2:o'=u:=zf ((k b o' ho').symm.trans q)
  exact e2 ▸ k' b o' ho') (fun _ q=>q) fun _ _ q=>q
section
variable {P:Program}{w:World}{K:PySem.W.Frag}{mg:Str->Option Value}{base:Heap}{N:List Str}{qual:Str}{scope:Scope}{f:Addr}{cd:Value}{A:Around}{outer:List Env}{s0 s:Shared}{H0 H:Hp}{E:XK}{pins:List (Addr×Obj)}{σ:St}
end
noncomputable abbrev bmV:List Value:=[.type "ValueError",.type "Exception",.type "BaseException",.type "object"]
theorem zJV {K:PySem.W.Frag}{h:Heap}{C:Addr}{bmB:List Value}{newId:String}(X:K.In h)(q:PySem.W.excIn K C bmB newId=true) :
 ∃bm N nm qn bs hdct sn sub ab col dd k0 k1 k2 k3 k5 mN,h.get? C=some (excClassObj nm qn C N bs bm hdct sn sub ab col dd k0 k1 k2 k3 k5 newId)/\h.Ns N mN/\mN "__init__" = none/\OwnTail h bmB bm:=by
 unfold PySem.W.excIn at q
 split at q
 . next dd cd sl look=>
   split at q
   . next D bm k0 k1 k2 k3 n k5 em es=>
     simp only[zA8,beq_iff_eq,Bool.not_eq_true'] at q
     obtain⟨⟨⟨⟨⟨q1,q2⟩,q3⟩,q4⟩,q5⟩,q6⟩:=q
     subst q1 q2
     cases cd
     simp only at em q3 q5 q6
     subst em q3
     cases sl
     simp only at es
     subst es
     exact⟨_,_,_,_,_,_,_,_,_,_,_,_,_,_,_,_,_,X _ _ look,.of_isNs (PySem.W.isNs_of_in X q5),PySem.W.nsMap_none_of_in X q5 q6,PySem.W.tail_of_in X q4⟩
   . cases q
 . cases q
end L2
namespace L2
open PySem PySem.Spec PyProof.Rows
section
variable {X:Cx}{pins:List (Addr×Obj)}{σ:St}{H:Hp}{s:Shared}
end
theorem zHz {M:Model}{A:Around}{E:Value->Shared->Prop}{s:Shared}{nm qn nm' qn':Str}{C W Nn Nn':Addr}{bs bm bs' bm':List Value}{hdct hdct':Bool}{sn sn':List Str}{sub sub':List Value}{ab ab':Bool}{col col':Option Bool}{dd dd':Option Addr}
 {k0 k1 k2 k3 k5 k0' k1' k2' k3' k5':Option Value}{newId newId':String}{e:Addr}{oe:Obj}{Q:Bool->Shared->Prop}
 (hC:s.heap.get? C=some (excClassObj nm qn C Nn bs bm hdct sn sub ab col dd k0 k1 k2 k3 k5 newId))(hW:s.heap.get? W=some (excClassObj nm' qn' W Nn' bs' bm' hdct' sn' sub' ab' col' dd' k0' k1' k2' k3' k5' newId'))
 (he:s.heap.get? e=some oe)(hcls:oe.cls = .ref C)(hb:bm'.contains (.type "BaseException")=true) (hs:(Value.ref C::bm).contains (.ref W)=true)(hq:Q true s):wpAny M A (excMatches (.ref e) (.ref W)) Q E s:=by
 obtain⟨h,g,d,t,os⟩:=s
 have hWB:(Value.ref W::bm').contains (.type "BaseException")=true:=by rw[List.contains_cons,hb,Bool.or_true]
 have f:=tc_notTuple
 unfold excMatches
 repeat (first | (with_reducible refine zBA he ?_;rw[hcls]) | with_reducible refine zBA hW ?_ | (with_reducible refine wpAny_isSubtype_exc hW ?_;rw[hWB]) | (with_reducible refine wpAny_isSubtype_exc hC ?_;rw[hs]) | wp_step)
 exact hq
end L2
namespace L2
open PySem PySem.Spec PyProof.Rows
noncomputable def subIn (K:PySem.W.Frag)(C W:Addr):Bool:=match K.lookup C with
 | some ⟨_,_,.cls cd,_⟩=>cd.mro.contains (.ref W)
 | _=>false
theorem sub_of {K:PySem.W.Frag}{h:Heap}{C W:Addr}{nm qn:Str}{Nn:Addr}{bs bm:List Value}{hdct:Bool}{sn:List Str}{sub:List Value}{ab:Bool}{col:Option Bool}{dd:Option Addr}{k0 k1 k2 k3 k5:Option Value}{newId:String}
 (X:K.In h)(q:subIn K C W=true)(hC:h.get? C=some (excClassObj nm qn C Nn bs bm hdct sn sub ab col dd k0 k1 k2 k3 k5 newId)):(Value.ref C::bm).contains (.ref W)=true:=by
 unfold subIn at q
 split at q
 . next look=>
   have e:=(X _ _ look).symm.trans hC
   unfold excClassObj at e
   cases e
   exact q
 . cases q
noncomputable def Cx.held (X:Cx)(ea:Addr)(oe:Obj):Cx:={ X with A:=X.A.mark (some (.ref ea)),calm:=false,pn:=(ea,oe)::X.pn,xe:=fun _ _=>False }
section
variable {X:Cx}{pins:List (Addr×Obj)}{σ:St}{H:Hp}{s:Shared}{ea:Addr}{oe:Obj}
theorem Inv.hold (I:Inv X pins σ H s)(h1:s.heap.get? ea=some oe)(h2:H ea=none)(h3:ea≠X.env.locals)(h4:ea∉X.fs)(h5:∀v,oe.data ≠ .cell v):Inv (X.held ea oe) pins σ H s:=
 ⟨⟨I.ok.mod,I.ok.kind,I.ok.glob,I.ok.blt,I.ok.above,I.ok.inj,I.ok.has,I.ok.cab,(fun z=>by cases z),I.ok.frames,I.ok.stk,I.ok.exf,I.ok.bs,I.ok.bsz,I.ok.noex,I.ok.exfs,I.ok.funs,I.ok.frf⟩,I.os,I.bare,I.base,I.loc,I.cell,I.free,I.freeC,
  fun p hp=>by
   rcases zT.mp (show p∈(ea,oe)::(X.pn++pins) from hp) with rfl | hp
   . exact⟨h1,h2,h3,h4,h5⟩
   . exact I.pin p hp,I.hok,I.len⟩
theorem Inv.letgo (ok:X.Ok)(I:Inv (X.held ea oe) pins σ H s):Inv X pins σ H s:=
 ⟨ok,I.os,I.bare,I.base,I.loc,I.cell,I.free,I.freeC,fun p hp=>I.pin p (zR _ hp),I.hok,I.len⟩
end
theorem zJH {st:List Env}{H1 H':Hp}{s1 s':Shared}{ea:Addr}{C a0:Value}{B h5:Heap}(un:Un (frs st) [] H1 H' s1.heap s'.heap)(fl:Heap.FlyingW B st ea C a0 s'.heap)
 (old:∀b o,s1.heap.get? b=some o->H1 b=none->b∉frs st->B.get? b=some o)(al:∀b o,s1.heap.get? b=some o->b∉frs st->∃o',B.get? b=some o')(st5:B.StaysIn h5)(up:s'.heap.UpToSlots h5):Un (frs st) [] H1 H' s1.heap h5:=by
 refine⟨fun b o e n hb _=>st5 b o (old b o e n hb),fun b o e n hb _=>?_,un.free,fun b o e _=>?_,un.tups,un.frzs,un.tbls⟩
 . obtain⟨sl2,e2⟩:=un.slot b o e n hb (by intro z;cases z)
   obtain⟨_,o3,e3,nd⟩:=fl.2.2.1.mem hb
   obtain⟨sl4,e4⟩:=up b _ e3 nd
   have e5:=zf (e3.symm.trans e2)
   rw[e5] at e4
   exact⟨sl4,e4⟩
 . by_cases hb:b∈frs st
   . obtain⟨_,o3,e3,nd⟩:=fl.2.2.1.mem hb
     obtain⟨sl4,e4⟩:=up b _ e3 nd
     exact⟨_,e4⟩
   . obtain⟨o3,e3⟩:=al b o e hb
     exact⟨_,st5 b o3 e3⟩
end L2
namespace L2
open PySem PySem.Spec PySem.W PyProof.Rows Builtin Builtin.ObjectAttr Builtin.Getset_descriptor
section
variable {prog:Program}{w:World}{A:Around}{E:Value->Shared->Prop}{s:Shared}{K:Frag}{x C:Addr}{ox:Obj}
noncomputable def zKp (h:Heap)(x C:Addr):Prop:=∃o,h.get? x=some o/\o.cls = .ref C
theorem zKp.type {M:Model}{h:Heap}{x C:Addr}(I:zKp h x C):Looks M h (typeOf (.ref x)) (.ref C):=by
 obtain⟨o,e,c⟩:=I
 rw[<-c]
 exact (Looks.ld e).andThen .now
end
section
variable {X:Cx}
variable {k:Nat}{f:Addr}{fd:FuncData}{ps:List Str}{sp:Sp}{x:Str}{p pos epos:Pos}{e:Expr}{es:List Expr}{t:TA}
end
end L2
namespace L2
open PySem PySem.Spec PyProof.Rows
noncomputable def DK (h h':Heap):Prop:=∀b o,h.get? b=some o->∃o',h'.get? b=some o'/\o'.dict=o.dict
theorem DK.refl (h:Heap):DK h h:=fun _ o e=>⟨o,e,rfl⟩
theorem DK.trans {h1 h2 h3:Heap}(a:DK h1 h2)(b:DK h2 h3):DK h1 h3:=fun x o e=>by
 obtain⟨o1,e1,d1⟩:=a x o e
 obtain⟨o2,e2,d2⟩:=b x o1 e1
 exact⟨o2,e2,d2.trans d1⟩
noncomputable def KD {α:Type}:Sem α->Prop
 | .pure _=>True
 | .raise _=>True
 | .unsupported _=>True
 | .finish _=>True
 | .rule _ k=>KD (k ())
 | .at _ k=>KD (k ())
 | .load _ _ k=>∀o,KD (k o)
 | .update _ _ f k=>(∀o,(f o).dict=o.dict/\(o.isFreed=false->(f o).isFreed=false))/\KD (k ())
 | .alloc _ k=>∀a,KD (k a)
 | .loadIfAlive _ k=>∀o,KD (k o)
 | .point _ k=>KD (k ())
 | .fresh k=>∀t,KD (k t)
 | .ask k=>∀x,KD (k x)
 | .stack k=>∀l,KD (k l)
 | .handled _ k=>∀v,KD (k v)
 | _=>False
theorem KD.bind {α β:Type}{t:Sem α}{k:α->Sem β}(h:KD t)(hk:∀a,KD (k a)):KD (t >>= k):=by
 show KD (Sem.bind t k)
 induction t with
 | pure a=>exact hk a
 | raise e=>trivial
 | unsupported w=>trivial
 | finish e=>trivial
 | rule t f ih=>exact ih () h
 | «at» p f ih=>exact ih () h
 | load a p f ih=>exact fun o=>ih o (h o)
 | update a p f g ih=>exact⟨h.1,ih () h.2⟩
 | alloc o f ih=>exact fun a=>ih a (h a)
 | loadIfAlive a f ih=>exact fun o=>ih o (h o)
 | point l f ih=>exact ih () h
 | fresh f ih=>exact fun t=>ih t (h t)
 | ask f ih=>exact fun x=>ih x (h x)
 | stack f ih=>exact fun l=>ih l (h l)
 | handled o f ih=>exact fun v=>ih v (h v)
 | register=>exact h.elim
 | choose=>exact h.elim
 | os=>exact h.elim
 | call=>exact h.elim
 | newGen=>exact h.elim
 | genState=>exact h.elim
 | resume=>exact h.elim
 | yield=>exact h.elim
 | fork=>exact h.elim
 | thread=>exact h.elim
 | await=>exact h.elim
theorem KD.wp {α:Type}{M:Model}{Γ : PySem.Ctx}{t:Sem α}(h:KD t){h0:Heap}{Q:α->Pos->Shared->Prop}{E:Value->Pos->Shared->Prop}:∀{p:Pos}{s:Shared},DK h0 s.heap->Sem.wp M Γ t Q E p s->Sem.wp M Γ t (fun a p' s'=>Q a p' s'/\DK h0 s'.heap) E p s:=by
 induction t with
 | pure a=>exact fun d w=>⟨w,d⟩
 | raise e=>exact fun d w=>w
 | unsupported w=>exact fun d w=>w
 | finish e=>exact fun d w=>w
 | rule t f ih=>exact fun d w=>ih () h d w
 | «at» p f ih=>exact fun d w=>ih () h d w
 | load a p f ih=>
  intro p s d w
  obtain⟨o,e,w⟩:=w
  exact⟨o,e,ih o (h o) d w⟩
 | update a p f g ih=>
  intro p s d w
  obtain⟨e,w⟩:=w
  refine⟨e,ih () h.2 (d.trans fun b o q=>?_) w⟩
  by_cases c:b=a
  . subst c
    have fr:=(Heap.get?_some_iff.mp q).2
    exact⟨f o,zv f q ((h.1 o).2 fr),(h.1 o).1⟩
  . exact⟨o,(zAn _ _ (Ne.symm c)).trans q,rfl⟩
 | alloc o f ih=>
  intro p s d w
  exact ih _ (h _) (d.trans fun b o q=>⟨o,zF _ q,rfl⟩) w
 | loadIfAlive a f ih=>exact fun d w=>ih _ (h _) d w
 | point l f ih=>exact fun d w=>ih () h d w
 | fresh f ih=>exact fun d w=>ih _ (h _) d w
 | ask f ih=>exact fun d w=>ih _ (h _) d w
 | stack f ih=>exact fun d w=>ih _ (h _) d w
 | handled o f ih=>exact fun d w=>ih _ (h _) d w
 | register=>exact h.elim
 | choose=>exact h.elim
 | os=>exact h.elim
 | call=>exact h.elim
 | newGen=>exact h.elim
 | genState=>exact h.elim
 | resume=>exact h.elim
 | yield=>exact h.elim
 | fork=>exact h.elim
 | thread=>exact h.elim
 | await=>exact h.elim
theorem zDQ {α:Type}{M:Model}{A:Around}{t:Sem α}{Q:α->Shared->Prop}{E:Value->Shared->Prop}{s:Shared}(k:KD t)(h:wpAny M A t Q E s):wpAny M A t (fun a s'=>Q a s'/\DK s.heap s'.heap) E s:=
 fun Γ p hΓ => k.wp (DK.refl _) (h Γ p hΓ)
theorem zDa {α:Type}{c:Prop} [Decidable c] {a b:Sem α}(h1:KD a)(h2:KD b):KD (if c then a else b):=by split <;> assumption
theorem zGy (v:Value):KD (fieldsOf v):=by
 unfold fieldsOf
 split
 . refine KD.bind (fun o=>trivial) fun o=>?_
   split <;> trivial
 . trivial
theorem zD8 (v:Value)(i:Nat):KD (field v i):=by
 unfold field
 refine KD.bind (zGy v) fun vs=>?_
 split <;> trivial
theorem zJU (g:Array Value->Array Value)(o:Obj):(Obj.mapFields g o).dict=o.dict/\(o.isFreed=false->(Obj.mapFields g o).isFreed=false):=by
 obtain⟨c,d,dt,sl⟩:=o
 cases dt <;> exact⟨rfl,fun h=>h⟩
theorem zDJ (v:Value)(i:Nat)(x:Value):KD (setField v i x):=by
 unfold setField
 split
 . unfold updateField
   refine KD.bind (fun o=>trivial) fun o=>?_
   split
   . exact zDa ⟨fun o=>zJU _ o,trivial⟩ trivial
   . trivial
 . trivial
theorem zC5 (e:Value)(f:Option Addr):KD (setFlight e f):=by
 unfold setFlight
 refine KD.bind (zD8 e 1) fun tb=>zDa (zDJ _ _ _) trivial
theorem zGA:KD frameEnvs:=by
 unfold frameEnvs
 exact KD.bind (fun l=>trivial) fun l=>trivial
theorem zJM (env:Env)(l:List Env):KD (behindIsImport env l):=by
 unfold behindIsImport
 exact zDa trivial (zDa trivial (KD.bind (zD8 _ _) fun _=>trivial))
theorem zL4 (env:Env)(b:Bool)(l:List Env):KD (keptBack env b l):=by
 unfold keptBack
 split
 . refine zDa trivial ?_
   refine KD.bind ?_ fun _=>trivial
   unfold underTheClaimsCaller
   exact KD.bind (fun l=>trivial) fun l=>trivial
 . trivial
theorem zHU:∀l:List Env,KD (readyFrames l)
 | []=>trivial
 | env::outer=>by
  unfold readyFrames
  split
  . refine KD.bind (fun o=>trivial) fun o=>?_
    refine zDa trivial ?_
    refine KD.bind (zJM _ _) fun b=>?_
    refine KD.bind (zL4 _ _ _) fun b=>?_
    refine KD.bind ⟨fun o=>⟨rfl,fun h=>(by obtain⟨c,d,dt,sl⟩:=o;cases dt <;> exact h)⟩,trivial⟩ fun _=>zHU outer
  . trivial
theorem zH6 (env:Env):KD (PySem.frameOf env):=by
 unfold PySem.frameOf
 refine KD.bind zGA fun l=>?_
 refine KD.bind ?_ fun r=>?_
 . unfold frameObject
   split
   . trivial
   . exact KD.bind (zHU _) fun _=>trivial
 . split <;> trivial
theorem zKZ (f:Addr)(b:Bool):KD (entryPlaceOf f b):=by
 unfold entryPlaceOf
 refine KD.bind (fun l=>trivial) fun l=>?_
 split <;> trivial
theorem zKa (a b c d e:Value)(l:List Value):KD (EntryCells.newEntry a b c d e l):=by
 unfold EntryCells.newEntry newFields newObj
 have fin:∀d:Data,KD (newObjAsIs (.type "traceback") d):=fun d=>by
  unfold newObjAsIs
  exact KD.bind (fun a=>trivial) fun a=>trivial
 simp only[]
 exact zDa (KD.bind trivial fun _=>fin _) (fin _)
theorem zJL (e:Value)(env:Env):KD (noteFrame e env):=by
 unfold noteFrame
 split
 . refine KD.bind (zD8 _ _) fun hd=>?_
   have fin:∀f:Addr,KD (do setField e 1 (<-EntryCells.newEntry hd (<-PySem.frameOf env) .none (rawInt f) .none (<-entryPlaceOf f (hd != .none)))):=fun f=>
    KD.bind (zH6 env) fun a=>KD.bind (zKZ _ _) fun pl=>KD.bind (zKa _ _ _ _ _ _) fun b=>zDJ _ _ _
   refine zDa ?_ (fin _)
   refine KD.bind (zD8 _ _) fun x=>zDa trivial ?_
   exact KD.bind (zDJ _ _ _) fun _=>fin _
 . trivial
theorem zE6 (env:Env)(e:Value):KD (leaving env e):=KD.bind (zJL e env) fun _=>zC5 e none
end L2
namespace L2
open PySem PySem.Spec PyProof.Rows
noncomputable def excI (K:PySem.W.Frag)(C:Addr):Bool:=match K.lookup C with
 | some ⟨.type "type",_,.cls u,z⟩=>
  match u.mro,z.toList with
  | .ref D::b,[_,_,_,_,some (.builtin m),_]=>D==C && m == "ValueError.__new__" && !u.hasDel && PySem.W.tailIn K bmV b && PySem.W.nsOkIn K u.ns && u.hasDict
  | _,_=>false
 | _=>false
theorem zCu {K:PySem.W.Frag}{h:Heap}{C:Addr}(X:K.In h)(q:excI K C=true) :
 ∃bm N nm qn bs sn sub ab col dd k0 k1 k2 k3 k5 mN,h.get? C=some (excClassObj nm qn C N bs bm true sn sub ab col dd k0 k1 k2 k3 k5 "ValueError.__new__")/\h.Ns N mN/\OwnTail h bmV bm:=by
 unfold excI at q
 split at q
 . next dd cd sl look=>
   split at q
   . next D bm k0 k1 k2 k3 n k5 em es=>
     simp only[zA8,beq_iff_eq,Bool.not_eq_true'] at q
     obtain⟨⟨⟨⟨⟨q1,q2⟩,q3⟩,q4⟩,q5⟩,q6⟩:=q
     subst q1 q2
     cases cd
     simp only at em q3 q5 q6
     subst em q3 q6
     cases sl
     simp only at es
     subst es
     exact⟨_,_,_,_,_,_,_,_,_,_,_,_,_,_,_,_,X _ _ look,.of_isNs (PySem.W.isNs_of_in X q5),PySem.W.tail_of_in X q4⟩
   . cases q
 . cases q
structure zG8 (K:PySem.W.Frag)(C fI:Addr):Prop where
 cl:excI K C=true
 ini:PySem.W.findIn K (.ref C) "__init__" = some (some (.ref fI))
 fn:PySem.W.isFn K (.ref fI)=true
 sa:PySem.W.findIn K (.ref C) "__setattr__" = some (some (.builtin "object.__setattr__"))
 kp:PySem.W.keepIn K (.ref C)=true
noncomputable def zFC (C t:Addr)(od:Option Addr):Obj:={ cls:=.ref C,dict:=od,data:=.fields #[.ref t,.none,.none,.none,.bool false,.none] }
noncomputable def xTup (us:List Value):Obj:={ cls:=.type "tuple",data:=.seq us.toArray }
section
variable {prog:Program}{w:World}{A:Around}{E:Value->Shared->Prop}{h:Heap}{g:Array GenState}{d:Drawn}{t:Nat}{os:OsState}{K:PySem.W.Frag}{C fI:Addr}{us:List Value}
noncomputable def zKc (h:Heap)(C:Addr)(us:List Value):Heap:=(h.push (xTup us)).push (zFC C h.objs.size none)
theorem zGE (h:Heap)(C:Addr)(us:List Value):∀b o,h.get? b=some o->(zKc h C us).get? b=some o:=fun _ _ e=>zF _ (zF _ e)
theorem zLD (h:Heap)(C:Addr)(us:List Value):(zKc h C us).get? (h.objs.size+1)=some (zFC C h.objs.size none):=Heap.get?_push_at (by rw[zAr]) rfl
theorem zJD {Q:PySem.Fin->Shared->Prop}(X:K.In h)(I:zG8 K C fI)(hz:us.length<=sizeLine)
 (hq:wpAny (model prog w) A (call (.ref fI) (.ref (h.objs.size+1)::us)) (fun r s'=>r = .none/\Q (.done (.ret (.ref (h.objs.size+1)))) s') E ⟨zKc h C us,g,d,t,os⟩) :
 wpAny (model prog w) A (Builtin.«type.__call__» ⟨.ref C::us,[]⟩) Q E ⟨h,g,d,t,os⟩:=by
 obtain⟨bm,N,nm,qn,bs,sn,sub,ab,col,dd,k0,k1,k2,k3,k5,mN,hC,hN,T⟩:=zCu X I.cl
 have F:=PySem.F.excBase_ValueError
 repeat (first | with_reducible refine zBA hC ?_ | with_reducible refine wpAny_madeBy_exc hC ?_ | wp_step)
 refine codeAny_call_builtin_code (Code.quiet_builtin _ F.quiet) (wpAny_check_new_subT F T hC (codeAny_exc_new_subT F T hC ?_ hz))
 show wpAny _ _ _ _ _ ⟨zKc h C us,g,d,t,os⟩
 have hC1:=zGE h C us _ _ hC
 have he1:(zKc h C us).get? (h.objs.size+1)=some { cls:=.ref C,data:=.fields #[.ref h.objs.size,.none,.none,.none,.bool false,.none] }:=zLD h C us
 have X1:K.In (zKc h C us):=X.keeps (zGE h C us)
 have own:(Value.ref C::bm).contains (.ref C)=true:=by simp
 unfold isInstance
 repeat (first | with_reducible refine zBA he1 ?_ | (with_reducible refine wpAny_isSubtype_exc hC1 ?_;rw[own]) | wp_step)
 have L:=PySem.W.looks_findIn (M:=model prog w) X1 I.ini
 refine L.at ?_
 refine zw (zA ?_)
 refine (PySem.W.bind_fn (M:=model prog w) X1 (.ref (h.objs.size+1)) (beq_iff_eq.mp I.fn)).at ?_
 refine zA (zAO hq (fun r s' hr=>?_) fun _ _ z=>z)
 obtain⟨rfl,hQ⟩:=hr
 wp_walk
 exact hQ
theorem zJq {Q:Value->Shared->Prop}(X:K.In h)(I:zG8 K C fI)(hz:us.length<=sizeLine)
 (hq:wpAny (model prog w) (A.under (.builtin "type.__call__" ⟨.ref C::us,[]⟩)) (call (.ref fI) (.ref (h.objs.size+1)::us)) (fun r s'=>r = .none/\Q (.ref (h.objs.size+1)) s') E ⟨zKc h C us,g,d,t,os⟩) :
 wpAny (model prog w) A (call (.ref C) us) Q E ⟨h,g,d,t,os⟩:=by
 obtain⟨bm,N,nm,qn,bs,sn,sub,ab,col,dd,k0,k1,k2,k3,k5,mN,hC,hN,T⟩:=zCu X I.cl
 have f1:=tc_lookup
 have f2:=tc_bind (.ref C)
 have hT:(⟨h,g,d,t,os⟩:Shared).TypeIs (.ref C) "type" := ⟨_,hC,rfl⟩
 refine zA5 (codeAny_of_tree ?_)
 show wpAny _ _ (callAny (.ref C) _) _ _ _
 repeat (any_goals (first | assumption | with_reducible refine zBA hC ?_ | wp_step))
 refine⟨rfl,?_⟩
 exact codeAny_call_builtin_at (Code.quiet_builtin _ (by decide +kernel)) entry_typeCall (wpAny_check_type_call_sub hC (zJD X I hz hq))
end
end L2
namespace L2
open PySem PySem.Spec PyProof.Rows
theorem zEE {h:Heap}{bm:List Value}(T:OwnTail h bmV bm)(self:Value):refuseLoop self "__setattr__" bm=pure ():=by
 induction T with
 | base=>exact PySem.F.store_ValueError.passes self
 | own _ _ _ _ ih=>rw[refuseLoop_ref];exact ih
section
variable {prog:Program}{w:World}{A:Around}{E:Value->Shared->Prop}{h:Heap}{g:Array GenState}{d:Drawn}{t:Nat}{os:OsState}{K:PySem.W.Frag}{C fI x tt:Addr}{name:Str}{v:Value}
theorem zIe {M:Model}{od:Option Addr}{nameV:Value}{Q:Unit->Shared->Prop}(X:K.In h)(mo:PySem.W.mroIn K C (.type "object")=some true) (hx:h.get? x=some (zFC C tt od))(hq:Q () ⟨h,g,d,t,os⟩) :
 wpAny M A (checkBuiltinCall "object.__setattr__" ⟨[.ref x,nameV,v],[]⟩) Q E ⟨h,g,d,t,os⟩:=by
 have L0:=(show zKp h x C from ⟨_,hx,rfl⟩).type (M:=M)
 have L1:=PySem.W.looks_mroIn (M:=M) X mo
 have ha:=PySem.F.store_ValueError.args (.ref x) nameV v
 have e1:=PySem.F.store_ValueError.kind
 have e2:=PySem.F.store_ValueError.split
 simp only[checkBuiltinCall,e1,e2]
 refine zA ?_
 unfold isInstance
 repeat (any_goals (first | assumption | with_reducible refine L0.at ?_ | with_reducible refine L1.at ?_ | wp_step))
theorem zKz {M:Model}{tk:Tok}{dx:Addr}{mA:Str->Option Value}{ns:List Str}{Q:PySem.Fin->Shared->Prop}(hns:h.Ns1 dx mA)(hw:PySem.Within mA ns)(hz:ns.length<1000)
 (hq:∀h' tk',h'.Ns1 dx (fun y=>if y=name then some v else mA y)->(∀b,b≠dx->h'.get? b=h.get? b)->Q (.done (.ret .none)) ⟨h',g,d,tk',os⟩) :
 wpAny M A (Builtin.ObjectAttr.storeInDict dx (.str name tk) name v) Q E ⟨h,g,d,t,os⟩:=by
 unfold Builtin.ObjectAttr.storeInDict Builtin.ObjectAttr.newKeyGuard
 refine zA (zB (zA (wpAny_nsSet1 hns fun h' hn' hs=>?_)))
 obtain⟨oD,esD,epD,hoD,hdD,hcD⟩:=hn'.count (Within.cons name v hw)
 refine zA (wpAny_lookBehind hoD (by rw[hdD];exact pastItsLine_dict (zAf hcD (by rw[zd,sizeLine_eq];omega))) ?_)
 wp_walk
 exact hq h' _ hn' fun b hb=>hs.2 b hb
theorem zHq {tk:Tok}{Q:PySem.Fin->Shared->Prop}(X:K.In h)(I:zG8 K C fI)(nm:PySem.W.findIn K (.ref C) name=some none)(hx:h.get? x=some (zFC C tt none))
 (hq:∀h' tk',h'.get? x=some (zFC C tt (some h.objs.size))->h'.Ns1 h.objs.size (fun y=>if y=name then some v else none)->(∀b o,b≠x->h.get? b=some o->h'.get? b=some o)->Q (.done (.ret .none)) ⟨h',g,d,tk',os⟩) :
 wpAny (model prog w) A (Builtin.«object.__setattr__» ⟨[.ref x,.str name tk,v],[]⟩) Q E ⟨h,g,d,t,os⟩:=by
 obtain⟨bm,N,nmm,qn,bs,sn,sub,ab,col,dd,k0,k1,k2,k3,k5,mN,hC,hN,T⟩:=zCu X I.cl
 have pass:=zEE T (.ref x)
 obtain⟨o,ho⟩:∃o,o=zFC C tt none:=⟨_,rfl⟩
 rw[<-ho] at hx
 have hc:o.cls = .ref C:=by rw[ho];rfl
 have hdn:o.dict=none:=by rw[ho];rfl
 have L:=PySem.W.looks_findIn (M:=model prog w) X nm
 unfold Builtin.«object.__setattr__»
 repeat (first | rw[refuse_eq] | (rw[refuseLoop_ref,pass]) | (with_reducible refine zBA hx ?_;rw[hc]) | with_reducible refine wpAny_mroOf_exc hC ?_ | with_reducible refine L.at ?_ | wp_step)
 have hdt:o.data = .fields #[.ref tt,.none,.none,.none,.bool false,.none]:=by rw[ho];rfl
 have hx1:=zF { cls:=.type "dict",data:=.dict #[] } hx
 have xs:x≠h.objs.size:=zh (zU hx)
 rw[hdn,hdt]
 refine zA (wpAny_alloc' (zA (wpAny_update' hx1 (zB ?_))))
 have fr:(zFC C tt (some h.objs.size)).isFreed=false:=rfl
 have up:((h.push { cls:=.type "dict",data:=.dict #[] }).update x fun o=>{ cls:=o.cls,dict:=some h.objs.size,data:=o.data,slots:=o.slots }).get? x=some (zFC C tt (some h.objs.size)):=by
  have:=zv (fun o:Obj=>{ cls:=o.cls,dict:=some h.objs.size,data:=o.data,slots:=o.slots }) hx1 (by rw[ho];rfl)
  rw[this,ho];rfl
 have nd:((h.push { cls:=.type "dict",data:=.dict #[] }).update x fun o=>{ cls:=o.cls,dict:=some h.objs.size,data:=o.data,slots:=o.slots }).get? h.objs.size=some { cls:=.type "dict",data:=.dict #[] }:=
  (zAn _ _ xs).trans (Heap.get?_push_at rfl rfl)
 refine zKz (Heap.Ns1.of_empty ⟨_,#[],_,nd,rfl,fun e he=>absurd he (by simp),fun _=>rfl⟩) Within.nil (by decide) fun h' tk' n' same=>?_
 refine hq h' tk' ((same x xs).trans up) n' fun b ob hb e=>?_
 rw[same b (zh (zU e)),zAn _ _ (Ne.symm hb)]
 exact zF _ e
theorem zHp {tk:Tok}{dx:Addr}{mA:Str->Option Value}{ns:List Str}{Q:PySem.Fin->Shared->Prop}(X:K.In h)(I:zG8 K C fI)(nm:PySem.W.findIn K (.ref C) name=some none)(hx:h.get? x=some (zFC C tt (some dx)))
 (hns:h.Ns1 dx mA)(hw:PySem.Within mA ns)(hz:ns.length<1000)
 (hq:∀h' tk',h'.Ns1 dx (fun y=>if y=name then some v else mA y)->(∀b,b≠dx->h'.get? b=h.get? b)->Q (.done (.ret .none)) ⟨h',g,d,tk',os⟩) :
 wpAny (model prog w) A (Builtin.«object.__setattr__» ⟨[.ref x,.str name tk,v],[]⟩) Q E ⟨h,g,d,t,os⟩:=by
 obtain⟨bm,N,nmm,qn,bs,sn,sub,ab,col,dd,k0,k1,k2,k3,k5,mN,hC,hN,T⟩:=zCu X I.cl
 have pass:=zEE T (.ref x)
 obtain⟨o,ho⟩:∃o,o=zFC C tt (some dx):=⟨_,rfl⟩
 rw[<-ho] at hx
 have hc:o.cls = .ref C:=by rw[ho];rfl
 have hdn:o.dict=some dx:=by rw[ho];rfl
 have L:=PySem.W.looks_findIn (M:=model prog w) X nm
 unfold Builtin.«object.__setattr__»
 repeat (first | rw[refuse_eq] | (rw[refuseLoop_ref,pass]) | (with_reducible refine zBA hx ?_;rw[hc]) | with_reducible refine wpAny_mroOf_exc hC ?_ | with_reducible refine L.at ?_ | wp_step)
 rw[hdn]
 exact zB (zKz hns hw hz hq)
theorem zHH {od:Option Addr}{Pr:Heap->Prop}{Q:Unit->Shared->Prop}(X:K.In h)(I:zG8 K C fI)(mo:PySem.W.mroIn K C (.type "object")=some true) (hx:h.get? x=some (zFC C tt od))
 (ent:∀(A':Around)(E':Value->Shared->Prop)(tk:Tok)(t':Nat)(Q':PySem.Fin->Shared->Prop),(∀h' tk',Pr h'->Q' (.done (.ret .none)) ⟨h',g,d,tk',os⟩)->wpAny (model prog w) A' (Builtin.«object.__setattr__» ⟨[.ref x,.str name tk,v],[]⟩) Q' E' ⟨h,g,d,t',os⟩)
 (hq:∀h' tk',Pr h'->Q () ⟨h',g,d,tk',os⟩):wpAny (model prog w) A (setAttr (.ref x) name v) Q E ⟨h,g,d,t,os⟩:=by
 have SF:=PySem.F.store_ValueError
 have f3:=SF.slot.bind (.ref x)
 have L0:=(show zKp h x C from ⟨_,hx,rfl⟩).type (M:=model prog w)
 have L1:=PySem.W.looks_findIn (M:=model prog w) X I.sa
 unfold setAttr callSpecial? specialOf
 repeat (any_goals (first | assumption | with_reducible refine L0.at ?_ | with_reducible refine L1.at ?_ | wp_step))
 refine codeAny_call_builtin SF.slot.plain SF.entry (zIe X mo hx (ent _ _ _ _ _ fun h' tk' p=>?_))
 repeat (any_goals (first | assumption | wp_step))
 exact hq h' tk' p
end
end L2
namespace L2
open PySem PySem.Spec PyProof.Rows
noncomputable def xO (e C t:Addr)(od:Option Addr):HO:=.ext fun h=>h.get? e=some (zFC C t od)
noncomputable def dO (dx:Addr)(fs:List (Str×V)):HO:=.ext fun h=>∃mA,h.Ns1 dx mA/\(∀f,zFc (fs.lookup f) (mA f))/\PySem.Within mA (fs.map (·.1))
section
variable {P:Program}{w:World}{H:Hp}{h:Heap}{e C t dx:Addr}{od:Option Addr}{fs:List (Str×V)}
theorem xO_ok (hx:h.get? e=some (zFC C t od)):zBP P w H h e (xO e C t od):=⟨hx,⟨_,hx⟩,fun _ _ p k=>k _ p⟩
theorem dO_ok {mA:Str->Option Value}(hn:h.Ns1 dx mA)(r:∀f,zFc (fs.lookup f) (mA f))(wi:PySem.Within mA (fs.map (·.1))):zBP P w H h dx (dO dx fs):=
 ⟨⟨mA,hn,r,wi⟩,let ⟨o,_,_,q,_⟩:=hn;⟨o,q⟩,fun _ _ ⟨m,⟨o,es,ep,q,z⟩,r,wi⟩ k=>⟨m,⟨o,es,ep,k _ q,z⟩,r,wi⟩⟩
theorem HOk.add {a:Addr}{o:HO}(x:HOk P w H h)(hn:H a=none)(new:zBP P w (upd H a o) h a o):HOk P w (upd H a o) h:=fun b u e=>by
 by_cases hb:b=a
 . subst hb;rw[zJ] at e;cases e;exact new
 . rw[zb hb] at e
   exact (x b u e).stay (fun c v _ q=>q) (fun c q=>by rw[zb (zl q hn)];exact q) fun c xs q=>by rw[zb (zl q hn)];exact q
theorem zJ4 {a b:Addr}{o u:HO}(n:a≠b):upd (upd H a o) b u=upd (upd H b u) a o:=by
 funext c
 by_cases h1:c=a
 . subst h1;rw[zJ,zb n,zJ]
 . by_cases h2:c=b
   . subst h2;rw[zJ,zb h1,zJ]
   . rw[zb h2,zb h1,zb h1,zb h2]
end
section
variable {X:Cx}{pins:List (Addr×Obj)}{σ:St}{H:Hp}{s:Shared}{A:Around}{E:Value->Shared->Prop}{e C t fI:Addr}{f:Str}{y:V}{u:Value}{Q:Unit->Shared->Prop}
theorem zKD (I:Inv X pins σ H s)(EI:zG8 X.K C fI)(mo:PySem.W.mroIn X.K C (.type "object")=some true) (nm:PySem.W.findIn X.K (.ref C) f=some none)(he:H e=some (xO e C t none))(ry:zBn y u)
 (h:∀dx s',H dx=none->Inv X pins σ (upd (upd H dx (dO dx [(f,y)])) e (xO e C t (some dx))) s'->Q () s'):wpAny (model X.prog X.w) A (setAttr (.ref e) f u) Q E s:=by
 obtain⟨hp,g,d,tk,os⟩:=s
 have hx:hp.get? e=some (zFC C t none):=(I.hok e _ he).1
 refine zHH (Pr:=fun h'=>h'.get? e=some (zFC C t (some hp.objs.size))/\h'.Ns1 hp.objs.size (fun y=>if y=f then some u else none)/\(∀b o,b≠e->hp.get? b=some o->h'.get? b=some o)) I.kIn EI mo hx
  (fun A' E' tk' t' Q' k=>zHq I.kIn EI nm hx fun h' tk2 a b c=>k h' tk2 ⟨a,b,c⟩) fun h' tk' ⟨a,b,c⟩=>?_
 have hn:H hp.objs.size=none:=I.hok.fresh (zH _)
 have ne:e≠hp.objs.size:=zh (zU hx)
 refine h hp.objs.size _ hn ?_
 have mu:Mut ((upd H hp.objs.size (dO hp.objs.size [(f,y)])) e):=by rw[zb ne,he];exact True.intro
 have mu':Mut (H e):=by rw[he];exact True.intro
 refine I.un (h':=h') (t':=tk') ((Un.laid (h':=hp) (fun _ _ q=>q) (zH _) hn).trans (Un.write mu (.inl rfl) c ⟨_,a⟩)) ?_
 rw[zJ4 (Ne.symm ne)]
 refine HOk.add (I.hok.write mu' (.inl rfl) c ⟨_,a⟩ (xO_ok a)) (by rw[zb (Ne.symm ne)];exact hn) (dO_ok b (fun g=>?_) (fun g hg=>?_))
 . show zFc (List.lookup g [(f,y)]) (if g=f then some u else none)
   by_cases q:g=f
   . subst q;rw[if_pos rfl,List.lookup_cons_self];exact ry
   . rw[if_neg q,zBd,show (g==f)=false from by simpa using q];trivial
 . by_cases q:g=f
   . subst q;exact zY
   . exact absurd (by show (if g=f then some u else none)=none;rw[if_neg q]) hg
theorem zKC {dx:Addr}{fs:List (Str×V)}(I:Inv X pins σ H s)(EI:zG8 X.K C fI)(mo:PySem.W.mroIn X.K C (.type "object")=some true) (nm:PySem.W.findIn X.K (.ref C) f=some none)(he:H e=some (xO e C t (some dx)))(hd:H dx=some (dO dx fs))(hl:fs.length<900)(ry:zBn y u)
 (h:∀s',Inv X pins σ (upd H dx (dO dx (zIN f y fs))) s'->Q () s'):wpAny (model X.prog X.w) A (setAttr (.ref e) f u) Q E s:=by
 obtain⟨hp,g,d,tk,os⟩:=s
 have hx:hp.get? e=some (zFC C t (some dx)):=(I.hok e _ he).1
 obtain⟨mA,hns,r,wi⟩:=(I.hok dx _ hd).1
 refine zHH (Pr:=fun h'=>h'.Ns1 dx (fun y=>if y=f then some u else mA y)/\(∀b,b≠dx->h'.get? b=hp.get? b)) I.kIn EI mo hx
  (fun A' E' tk' t' Q' k=>zHp I.kIn EI nm hx hns wi (by rw[zD];omega) fun h' tk2 a b=>k h' tk2 ⟨a,b⟩) fun h' tk' ⟨a,b⟩=>?_
 refine h _ ?_
 have mu:Mut (H dx):=by rw[hd];exact True.intro
 refine I.write (x:=dx) (e:=dx) (t':=tk') mu (.inl rfl) (fun b_ u' hb q=>(b b_ hb).trans q) (let ⟨o,_,_,q,_⟩:=a;⟨o,q⟩) (dO_ok a (fun g=>?_) (fun g hg=>?_))
 . show zFc ((zIN f y fs).lookup g) (if g=f then some u else mA g)
   rw[zEO]
   by_cases q:g=f
   . rw[if_pos q,if_pos q];exact ry
   . rw[if_neg q,if_neg q];exact r g
 . by_cases q:g=f
   . rw[q];exact (zEU f y fs).1
   . refine (zEU f y fs).2 g (wi g fun z=>hg ?_)
     show (if g=f then some u else mA g)=none
     rw[if_neg q];exact z
end
end L2
namespace L2
open PySem PySem.Spec PyProof.Rows
noncomputable def sFldX (C:Addr)(f:Str)(ta tv:TE):TS:=fun D σ H=>tv σ H fun y H1=>ta σ H1 fun x H2=>∃e t,x = .ref e /\
 ((H2 e=some (xO e C t none)/\∀dx,H2 dx=none->D.nx σ (upd (upd H2 dx (dO dx [(f,y)])) e (xO e C t (some dx)))) \/
  ∃dx fs,H2 e=some (xO e C t (some dx))/\H2 dx=some (dO dx fs)/\fs.length<900/\D.nx σ (upd H2 dx (dO dx (zIN f y fs))))
section
variable {X:Cx}{o value:Expr}{ta tv:TE}{f:Str}{C fI:Addr}{pos pos':Pos}
theorem zIs (EI:zG8 X.K C fI)(mo:PySem.W.mroIn X.K C (.type "object")=some true) (nm:PySem.W.findIn X.K (.ref C) f=some none)(ha:PE X o ta)(hv:PE X value tv)(hs:swapsWith value (some (.Attribute o f pos')) pos.line X.env=pure false:=by rfl) :
 PS X (.Assign [.Attribute o f pos'] value pos) (sFldX C f ta tv):=by
 intro pins s σ H D I h
 refine plainObj_wpAny_Assign_Attribute (thn (hv pins s σ H _ I h) fun u s1 ⟨y,H1,I1,ry,q⟩=>thn (ha pins s1 σ H1 _ I1 q) fun ov s2 ⟨x,H2,I2,rx,e,t,ex,q2⟩=>?_) hs
 subst ex
 obtain rfl:ov=Value.ref e:=rx
 rcases q2 with ⟨he,q⟩ | ⟨dx,fs,he,hd,hl,q⟩
 . exact zKD I2 EI mo nm he ry fun dx s3 n I3=>⟨σ,_,I3,q dx n⟩
 . exact zKC I2 EI mo nm he hd hl ry fun s3 I3=>⟨σ,_,I3,q⟩
end
noncomputable def spXI (C:Addr)(f1 f2:Str):Sp:=fun vs H Q _=>∃(e t:Addr)(v1 v2:V),vs=[.ref e,v1,v2]/\H e=some (xO e C t none)/\∀dx,H dx=none->dx≠e->Q .non (upd (upd H dx (dO dx [(f1,v1),(f2,v2)])) e (xO e C t (some dx)))
noncomputable def FlyD (B:Heap)(l:List Env)(e:Addr)(C a0:Value)(od:Option Addr)(h:Heap):Prop:=Heap.FlyingW B l e C a0 h/\∃o,h.get? e=some o/\o.dict=od
theorem FlyD.step {B h h':Heap}{l l':List Env}{e:Addr}{C a0:Value}{od:Option Addr}(x:FlyD B l e C a0 od h)(f:Heap.FlyingW B l' e C a0 h')(k:DK h h'):FlyD B l' e C a0 od h':=by
 obtain⟨_,o,q,r⟩:=x
 obtain⟨o',q',r'⟩:=k e o q
 exact⟨f,o',q',r'.trans r⟩
noncomputable def CXI (P:Program)(w:World):CXT:=fun outer H s E e s'=>
 ∃(ea t:Addr)(C:Value)(od:Option Addr)(H':Hp)(B:Heap),e = .ref ea/\s'.os=s.os/\AllBare s'.gens/\Un (frs outer) [] H H' s.heap s'.heap/\HOk P w H' s'.heap /\
  FlyD B outer ea C (.ref t) od s'.heap/\(∀b u,H' b=some u->∃o,B.get? b=some o)/\(∀b o,s.heap.get? b=some o->H b=none->b∉frs outer->B.get? b=some o)/\(∀b o,s.heap.get? b=some o->b∉frs outer->∃o',B.get? b=some o')/\E C od H'
section
variable {P:Program}{w:World}{K:PySem.W.Frag}{mg:Str->Option Value}{base:Heap}{N:List Str}{qual:Str}{scope:Scope}{f:Addr}{cd:Value}{A:Around}{outer:List Env}{s0 s:Shared}{H0 H:Hp}{E:XK}{pins:List (Addr×Obj)}{σ:St}
theorem zIr {ea t:Addr}{oe:Obj}{C:Value}{vs:Array Value}(I:Inv (zIE (CXI P w) P w K mg base N qual scope f cd A outer s0 H0 E) pins σ H s)(he:s.heap.get? ea=some oe)(hc:oe.cls=C)(hd:oe.data = .fields vs)(h1:vs[1]? = some .none)(h0:vs[0]? = some (.ref t))(hn:H ea=none)(h00:s0.heap.get? ea=none)(hE:E C oe.dict H) :
 (zIE (CXI P w) P w K mg base N qual scope f cd A outer s0 H0 E).xe (.ref ea) s:=by
 subst hc
 let fr:List Addr:=(envOfC qual scope s0.heap.objs.size f cd::outer).filterMap (·.frame)
 have hin:∀env∈(envOfC qual scope s0.heap.objs.size f cd::outer),∀a,env.frame=some a->a∈ea::fr:=fun env he b hb=>zR _ (List.mem_filterMap.mpr ⟨env,he,hb⟩)
 have ff:=PySem.W.funFrames_hide I.stack hin
 have off:ea∉fr:=fun z=>by
  obtain⟨_,o,ho,nd⟩:=I.stack.mem z
  rw[he] at ho
  cases ho
  exact nd vs hd
 refine zAO (zDQ (zE6 _ _) (wpAny_leaving_firstW (Q:=fun _ s'=>∃h',s'={ s with heap:=h' }/\Heap.LeftW (PySem.W.hideAll s.heap (ea::fr)) (envOfC qual scope s0.heap.objs.size f cd::outer) ea oe.cls (.ref t) s.heap h') (base:=PySem.W.hideAll s.heap (ea::fr)) I.ok.frames ff rfl he (fun b o q=>PySem.W.of_hideAll _ q) (PySem.W.hideAll_none _ zY) hd h1 h0 fun h' L=>⟨h',rfl,L⟩)) (fun _ s' hq=>?_) fun _ _ z=>z
 obtain⟨⟨h'',rfl,L1,⟨_,_,L2'⟩,L3,up⟩,dk⟩:=hq
 have st:(PySem.W.hideAll s.heap (ea::fr)).StaysIn h'':=L1
 have stk:∀b,b∈fr->b=s0.heap.objs.size\/b∈frs outer:=fun b z=>zT.mp (I.stkSub b z)
 have hid:∀b o,s.heap.get? b=some o->b≠ea->b∉fr->(PySem.W.hideAll s.heap (ea::fr)).get? b=some o:=fun b o q n z=>PySem.W.hideAll_get _ q fun y=>by
  rcases zT.mp y with y | y
  . exact n y
  . exact z y
 have nea:∀b o,s0.heap.get? b=some o->b≠ea:=fun b o q z=>by rw[z,h00] at q;cases q
 have nfr:∀b o,s0.heap.get? b=some o->b∉frs outer->b∉fr:=fun b o q hb z=>by
  rcases stk b z with y | y
  . exact absurd (zU q) (by rw[y];exact Nat.not_lt_of_le (zH _))
  . exact hb y
 have old:∀b o,s0.heap.get? b=some o->H0 b=none->b∉frs outer->(PySem.W.hideAll s.heap (ea::fr)).get? b=some o:=fun b o e n hb=>
  hid b o (I.base.keep b o e n hb (by intro z;cases z)) (nea b o e) (nfr b o e hb)
 have al:∀b o,s0.heap.get? b=some o->b∉frs outer->∃o',(PySem.W.hideAll s.heap (ea::fr)).get? b=some o':=fun b o e hb=>by
  obtain⟨o1,e1⟩:=I.base.there b o e (by intro z;cases z)
  exact⟨o1,hid b o1 e1 (nea b o e) (nfr b o e hb)⟩
 have tr:∀b u,H b=some u->∃o,(PySem.W.hideAll s.heap (ea::fr)).get? b=some o:=fun b u e=>by
  obtain⟨o,ho⟩:=(I.hok b u e).there
  refine⟨o,hid b o ho (fun z=>by rw[z,hn] at e;cases e) fun z=>?_⟩
  have:=I.stkFree b z
  rw[e] at this
  cases this
 obtain⟨o',q',r'⟩:=dk ea oe he
 refine⟨ea,t,oe.cls,oe.dict,H,_,rfl,I.os,I.bare,⟨fun b o e n hb hx'=>st b o (old b o e n hb),fun b o e n hb hx'=>?_,I.base.free,fun b o e hx'=>?_,I.base.tups,I.base.frzs,I.base.tbls⟩,I.hok.stays (fun b o q=>PySem.W.of_hideAll _ q) st tr,⟨⟨L1,PySem.W.hideAll_none _ zY,L2',L3⟩,o',q',r'⟩,tr,old,al,hE⟩
 . obtain⟨sl,e1⟩:=I.base.slot b o e n hb (by intro z;cases z)
   obtain⟨_,o2,e2,nd⟩:=I.stack.mem (show b∈fr from zR _ hb)
   have e3:o2={ o with slots:=sl }:=zf (e2.symm.trans e1)
   obtain⟨sl2,e4⟩:=up b _ e1 (fun vs=>by rw[<-e3];exact nd vs)
   exact⟨sl2,e4⟩
 . obtain⟨o1,e1⟩:=I.base.there b o e (by intro z;cases z)
   by_cases hb:b∈fr
   . obtain⟨_,o2,e2,nd⟩:=I.stack.mem hb
     obtain⟨sl2,e4⟩:=up b _ e2 nd
     exact⟨_,e4⟩
   . exact⟨_,st b _ (hid b o1 e1 (nea b o e) hb)⟩
end
end L2
namespace L2
open PySem PySem.Spec PyProof.Rows
section
variable {P:Program}{w:World}{K:PySem.W.Frag}{mg:Str->Option Value}{base:Heap}{N:List Str}{qual:Str}{scope:Scope}{f:Addr}{cd:Value}{A:Around}{outer:List Env}{s0 s:Shared}{H0 H:Hp}{E:XK}{pins:List (Addr×Obj)}{σ:St}
theorem zLp {E1:XK}{e:Value}{s':Shared}(I:Inv (zIE (CXI P w) P w K mg base N qual scope f cd A outer s0 H0 E) pins σ H s)(h:CXI P w (envOfC qual scope s0.heap.objs.size f cd::outer) H s E1 e s')
 (imp:∀C d H',E1 C d H'->E C d H'):(zIE (CXI P w) P w K mg base N qual scope f cd A outer s0 H0 E).xe e s':=by
 obtain⟨ea,t,C,od,H',B,rfl,os,bare,un,hok,fl,tr,old,al,hE⟩:=h
 refine zAO (zDQ (zE6 _ _) (wpAny_leaves_onW (Q:=fun _ s2=>∃h',s2={ s' with heap:=h' }/\Heap.FlyingW B outer ea C (.ref t) h'/\s'.heap.UpToSlots h') I.ok.frames rfl fl.1 fun h' f2 u=>⟨h',rfl,f2,u⟩)) (fun _ s2 hq=>?_) fun _ _ z=>z
 obtain⟨⟨h'',rfl,fl2,up⟩,dk⟩:=hq
 have st:B.StaysIn h'':=fl2.1
 have nl:∀b o,s0.heap.get? b=some o->H0 b=none->b∉frs outer->B.get? b=some o:=fun b o e n hb=>by
  refine old b o (I.base.keep b o e n hb (by intro z;cases z)) (I.base.free b o e n (by intro z;cases z)) fun z=>?_
  rcases zT.mp (I.stkSub b z) with q | q
  . exact absurd (zU e) (by rw[q];exact Nat.not_lt_of_le (zH _))
  . exact hb q
 have na:∀b o,s0.heap.get? b=some o->b∉frs outer->∃o',B.get? b=some o':=fun b o e hb=>by
  obtain⟨o1,e1⟩:=I.base.there b o e (by intro z;cases z)
  refine al b o1 e1 fun z=>?_
  rcases zT.mp (I.stkSub b z) with q | q
  . exact absurd (zU e) (by rw[q];exact Nat.not_lt_of_le (zH _))
  . exact hb q
 refine⟨ea,t,C,od,H',B,rfl,os.trans I.os,bare,⟨fun b o e n hb _=>st b o (nl b o e n hb),fun b o e n hb _=>?_,fun b o e n _=>?_,fun b o e _=>?_,fun b xs e=>un.tups _ _ (I.base.tups _ _ e),fun b o u e=>un.frzs _ _ _ (I.base.frzs _ _ _ e),fun b ps e=>?_⟩,hok.stays fl.1.1 st tr,fl.step fl2 dk,tr,nl,na,imp _ _ _ hE⟩
 . obtain⟨sl,e1⟩:=I.base.slot b o e n hb (by intro z;cases z)
   have n1:=I.base.free b o e n (by intro z;cases z)
   obtain⟨sl2,e2⟩:=un.slot b _ e1 n1 (zR _ hb) (by intro z;cases z)
   obtain⟨_,o3,e3,nd⟩:=fl.1.2.2.1.mem (show b∈(envOfC qual scope s0.heap.objs.size f cd::outer).filterMap (·.frame) from zR _ hb)
   obtain⟨sl4,e4⟩:=up b _ e3 nd
   have e5:=zf (e3.symm.trans e2)
   rw[e5] at e4
   exact⟨sl4,e4⟩
 . exact un.free b _ (I.base.there b o e (by intro z;cases z)).choose_spec (I.base.free b o e n (by intro z;cases z)) (by intro z;cases z)
 . obtain⟨o1,e1⟩:=I.base.there b o e (by intro z;cases z)
   by_cases hb:b∈(envOfC qual scope s0.heap.objs.size f cd::outer).filterMap (·.frame)
   . obtain⟨_,o3,e3,nd⟩:=fl.1.2.2.1.mem hb
     obtain⟨sl4,e4⟩:=up b _ e3 nd
     exact⟨_,e4⟩
   . obtain⟨o3,e3⟩:=al b o1 e1 hb
     exact⟨_,st b o3 e3⟩
 . obtain⟨m1,e1⟩:=I.base.tbls _ _ e
   obtain⟨m2,e2⟩:=un.tbls _ _ e1
   exact⟨m1++m2,by rw[e2,Array.append_assoc]⟩
end
theorem zLq {P:Program}{w:World}{K:PySem.W.Frag}{mg:Str->Option Value}{base:Heap}{N:List Str}{qual:Str}{scope:Scope}{f:Addr}{cd:Value}{A:Around}{outer:List Env}{s0:Shared}{H0:Hp}{E:XK}:zHk (CXI P w) (zIE (CXI P w) P w K mg base N qual scope f cd A outer s0 H0 E) E:=fun _ _ _ _ _ _ I h=>zLp I h fun _ _ _ z=>z
theorem Fun.okI {P:Program}{w:World}{K:PySem.W.Frag}{mg:Str->Option Value}{base:Heap}{x qual:Str}{st:Stmt}{f:Addr}{fd:FuncData}{N ps:List Str}{k:Nat}{sp:Sp}(F:Fun K x qual st f fd)(S:zAH N ps (defScope st))(len:∀vs H Q E,sp vs H Q E->vs.length=ps.length)
 (hbody:∀(cdv:Value)(A:Around)(outer:List Env)(s:Shared)(H:Hp)(vs:List V)(Q:VK)(E:XK),zDF k (A.deeper (envOfC qual (defScope st) s.heap.objs.size f cdv))->sp vs H Q E ->
  ∃t,PSs (zIE (CXI P w) P w K mg base N qual (defScope st) f cdv A outer s H E) (defBody st) t/\t { nx:=fun _ H'=>Q .non H',rt:=Q } (start N vs) H):zAi P w K mg base (CXI P w) (k+1) f fd ps sp:=by
 obtain⟨oc,od,kV,doc,pm,an,cdv,ct,osl,rfl,lk,hcd⟩:=F.ex
 exact zME lk hcd S len fun A outer s H vs Q E hr hsp=>hbody cdv A outer s H vs Q E hr hsp
noncomputable def zL7 (e:Addr)(H:Hp):Hp:=fun b=>if b=e then none else H b
theorem zCV {e b:Addr}{H:Hp}(n:b≠e):zL7 e H b=H b:=by unfold zL7;rw[if_neg n]
theorem zDK {e:Addr}{H:Hp}:zL7 e H e=none:=by unfold zL7;rw[if_pos rfl]
section
variable {X:Cx}{pins:List (Addr×Obj)}{σ:St}{H:Hp}{s:Shared}{e:Addr}{φ:Heap->Prop}
theorem Inv.drop (I:Inv X pins σ H s)(he:H e=some (.ext φ)):Inv X pins σ (zL7 e H) s:=by
 have nt:∀b xs,H b=some (.tup xs)->b≠e:=fun b xs q z=>by rw[z,he] at q;cases q
 have no:∀b y,H b=some (.own y)->b≠e:=fun b y q z=>by rw[z,he] at q;cases q
 refine⟨I.ok,I.os,I.bare,⟨I.base.keep,I.base.slot,fun b o q n hx=>?_,I.base.there,fun b xs q=>by rw[zCV (nt b xs (I.base.tups b xs q))];exact I.base.tups b xs q,fun b o u q=>?_,fun b ps q=>?_⟩,I.loc,I.cell,?_,fun x c q=>?_,fun p hp=>?_,fun b o q=>?_,I.len⟩
 . by_cases z:b=e
   . subst z;exact zDK
   . rw[zCV z];exact I.base.free b o q n hx
 . have r:=I.base.frzs b o u q
   rw[zCV (fun z=>by rw[z,he] at r;cases r)];exact r
 . obtain⟨m,r⟩:=I.base.tbls b ps q
   exact⟨m,by rw[zCV (fun z=>by rw[z,he] at r;cases r)];exact r⟩
 . by_cases z:X.env.locals=e
   . rw[z];exact zDK
   . rw[zCV z];exact I.free
 . by_cases z:c=e
   . subst z;exact zDK
   . rw[zCV z];exact I.freeC x c q
 . obtain⟨a,b,r⟩:=I.pin p hp
   refine⟨a,?_,r⟩
   by_cases z:p.1=e
   . rw[z];exact zDK
   . rw[zCV z];exact b
 . have z:b≠e:=fun z=>by rw[z,zDK] at q;cases q
   rw[zCV z] at q
   exact (I.hok b o q).stay (fun _ _ _ r=>r) (fun c r=>by rw[zCV (no c _ r)];exact r) fun c xs r=>by rw[zCV (nt c xs r)];exact r
theorem zLi {M:Model}{A:Around}{E:Value->Shared->Prop}{env:Env}{K:PySem.W.Frag}{C tt:Addr}{od:Option Addr}{y:Sem Value}{Q:Flow->Shared->Prop}(q:excI K C=true)(hh:A.handled=none)
 (h:wpAny M A y (fun v s1=>∃e,v = .ref e/\K.In s1.heap/\(∃tt od,s1.heap.get? e=some (zFC C tt od))/\E (.ref e) s1) E s):wpAny M A (raiseStmt env (some y) none) Q E s:=by
 unfold raiseStmt
 refine zA (zAO h (fun v s1 hv=>?_) fun _ _ z=>z)
 obtain⟨e,rfl,X1,⟨tt,od,he⟩,hE⟩:=hv
 obtain⟨bm,N,nm,qn,bs,sn,sub,ab,col,dd,k0,k1,k2,k3,k5,mN,hC,hN,T⟩:=zCu X1 q
 have hcB:(Value.ref C::bm).contains (.type "BaseException")=true:=by rw[List.contains_cons,T.hasType (X := "BaseException") (b:=true) (by rfl),Bool.or_true]
 obtain⟨hp,g,d,tk,os⟩:=s1
 have he':hp.get? e=some { cls:=.ref C,dict:=od,data:=.fields #[.ref tt,.none,.none,.none,.bool false,.none] }:=he
 repeat (first | with_reducible refine zBA he' ?_ | with_reducible refine zBA hC ?_ | (with_reducible refine wpAny_isSubtype_exc hC ?_;rw[hcB]) | wp_step)
 exact wpAny_raiseNew_none hh hE
theorem Inv.madeX {C:Addr}{us:List Value}{vs:List V}(I:Inv X pins σ H s)(r:zBB vs us)(hz:vs.length<=sizeLine) :
 Inv X pins σ (upd (upd H s.heap.objs.size (.tup vs)) (s.heap.objs.size+1) (xO (s.heap.objs.size+1) C s.heap.objs.size none)) { s with heap:=zKc s.heap C us }:=by
 have e1:(s.heap.push (xTup us)).get? s.heap.objs.size=some (xTup us):=Heap.get?_push_at rfl rfl
 have I1:=I.laid (a:=s.heap.objs.size) (o:=.tup vs) (h':=s.heap.push (xTup us)) (t':=s.toks) (fun b u q=>zF _ q) (zH _) ⟨⟨hz,_,e1,rfl⟩,us,r,⟨_,e1,rfl,_,rfl⟩⟩
 exact I1.laid (a:=s.heap.objs.size+1) (t':=s.toks) (h':=zKc s.heap C us) (fun b u q=>zF _ q) (Nat.le_of_eq (zAr _ _)) (xO_ok (zLD s.heap C us))
noncomputable def zLT (C:Addr)(f1 f2:Str)(t:TA)(E:XK):TS:=fun _ σ H=>t σ H fun vs H1=>∃v1 v2,vs=[v1,v2]/\∀tt dx,H1 tt=none->H1 dx=none->tt≠dx->E (.ref C) (some dx) (upd (upd H1 tt (.tup [v1,v2])) dx (dO dx [(f1,v1),(f2,v2)]))
theorem zFu {x f1 f2:Str}{ps:List Str}{C fI:Addr}{fd:FuncData}{k:Nat}{e1 e2:Expr}{t:TA}{E:XK}{np cpos pos:Pos}(hg:Gl X x)(hm:X.mg x=some (.ref C))(EI:zG8 X.K C fI)(hc:X.calm=true)(F:zAi X.prog X.w X.K X.mg X.base CX0 k fI fd ps (spXI C f1 f2))(hr:zDF (k+1) X.A)(hb:zAA X.K fd ps [])(ha:PA X [e1,e2] t)
 (hxe:∀(pins:List (Addr×Obj))(σ:St)(H:Hp)(s:Shared)(ea tt dx:Addr),Inv X pins σ H s->s.heap.get? ea=some (zFC C tt (some dx))->H ea=none->X.s₀.heap.get? ea=none->E (.ref C) (some dx) H->X.xe (.ref ea) s)
 (hd:(x==("__debug__" : Str))=false:=by decide) (hs:starEach [e1,e2] X.env=(false,eval e1 X.env)::starEach [e2] X.env:=by rfl)(hpl:(backTo cpos (starEach [e2] X.env)).any (·.1)=false:=by rfl) :
 PS X (.Raise (some (.Call (.Name x np) [e1,e2] [] cpos)) none pos) (zLT C f1 f2 t E):=by
 intro pins s σ H D I h
 rw[arm_exec_Raise]
 refine zA (wpAny_standAt ?_)
 show wpAny _ _ (raiseStmt X.env (some (do let v <-eval (.Call (.Name x np) [e1,e2] [] cpos) X.env;standAt pos;pure v)) none) _ _ _
 refine zLi (tt:=0) (od:=none) EI.cl (I.ok.hd hc) (zA (zAO (Q:=fun v s1=>∃e,v = .ref e/\X.K.In s1.heap/\(∃tt od,s1.heap.get? e=some (zFC C tt od))/\X.xe (.ref e) s1) (E:=X.xe) ?main (fun v s3 h3=>zA (wpAny_standAt (zB h3))) fun _ _ z=>z))
 case main=>
  refine zAv (zES I hg hm ?_ hd)
  refine PySem.W.callWith_K (h₀:=X.base) I.ok.mod.kin EI.kp (zAO (ha cpos pins s σ H _ I h) (fun us s1 ⟨vs,H1,I1,r,q⟩=>⟨I1.kIn,?_⟩) fun _ _ z=>z) hs hpl
  obtain⟨v1,v2,rfl,q⟩:=q
  have hz:us.length<=sizeLine:=by rw[<-r.length];show 2<=sizeLine;decide
  have I2:=Inv.madeX (C:=C) I1 r (show 2<=sizeLine by decide)
  have r2:zBB (V.ref (s1.heap.objs.size+1)::[v1,v2]) (Value.ref (s1.heap.objs.size+1)::us):=.cons rfl r
  have n1:H1 s1.heap.objs.size=none:=I1.hok.fresh (zH _)
  have n2:H1 (s1.heap.objs.size+1)=none:=I1.hok.fresh (zBo _)
  have s00:X.s₀.heap.get? (s1.heap.objs.size+1)=none:=Heap.get?_none_of_le (zAf I1.sz (zBo _))
  refine zJq (h:=s1.heap) I1.kIn EI hz ?_
  have ne:s1.heap.objs.size≠s1.heap.objs.size+1:=zh (Nat.lt_succ_self _)
  have hsp:spXI C f1 f2 (V.ref (s1.heap.objs.size+1)::[v1,v2]) (upd (upd H1 s1.heap.objs.size (.tup [v1,v2])) (s1.heap.objs.size+1) (xO (s1.heap.objs.size+1) C s1.heap.objs.size none))
   (fun v H2=>v = .non/\∃dx,H2 (s1.heap.objs.size+1)=some (xO (s1.heap.objs.size+1) C s1.heap.objs.size (some dx))/\E (.ref C) (some dx) (zL7 (s1.heap.objs.size+1) H2)) (fun _ _ _=>False):=by
   refine⟨_,_,v1,v2,rfl,zJ,fun dx hdx nd=>⟨rfl,dx,zJ,?_⟩⟩
   rw[zb nd] at hdx
   have nt:s1.heap.objs.size≠dx:=fun z=>by rw[<-z,zJ] at hdx;cases hdx
   have hdx1:H1 dx=none:=by rw[zb (Ne.symm nt)] at hdx;exact hdx
   have eq:zL7 (s1.heap.objs.size+1) (upd (upd (upd (upd H1 s1.heap.objs.size (.tup [v1,v2])) (s1.heap.objs.size+1) (xO (s1.heap.objs.size+1) C s1.heap.objs.size none)) dx (dO dx [(f1,v1),(f2,v2)])) (s1.heap.objs.size+1) (xO (s1.heap.objs.size+1) C s1.heap.objs.size (some dx)))
    = upd (upd H1 s1.heap.objs.size (.tup [v1,v2])) dx (dO dx [(f1,v1),(f2,v2)]):=by
    funext b
    by_cases hb:b=s1.heap.objs.size+1
    . subst hb
      rw[zDK,zb (Ne.symm nd),zb (Ne.symm ne)];exact n2.symm
    . rw[zCV hb,zb hb]
      by_cases hb2:b=dx
      . subst hb2;rw[zJ,zJ]
      . rw[zb hb2,zb hb,zb hb2]
   rw[eq]
   exact q _ dx n1 hdx1 nt
  have hl:(Value.ref (s1.heap.objs.size+1)::us).length=ps.length:=by rw[<-r2.length];exact F.len _ _ _ _ hsp
  refine zA5 (codeAny_mono (F.run _ X.stack _ _ ⟨Value.ref (s1.heap.objs.size+1)::us,[]⟩ (Value.ref (s1.heap.objs.size+1)::us) _ _ (fun _ _ _=>False) (hr.make C us []) (I2.env0.make C us [])
   (by have:=hb _ (Value.ref (s1.heap.objs.size+1)::us) I2.kIn (by rw[zq];exact hl);rw[zq] at this;exact this) r2 hsp) fun r s' hq'=>?_)
  cases r with
  | error e=>exact False.elim hq'
  | ok fl=>
   cases fl with
   | ret u=>
    obtain⟨v,H',I3,rv,ev,dx,hx,hE⟩:=I2.after hq'
    subst ev
    refine⟨rv,_,rfl,I3.kIn,⟨_,_,(I3.hok _ _ hx).1⟩,?_⟩
    exact hxe pins σ _ s' _ _ dx (I3.drop hx) (I3.hok _ _ hx).1 zDK s00 hE
   | next=>exact False.elim hq'
   | brk=>exact False.elim hq'
   | cont=>exact False.elim hq'
end
end L2
namespace L2
open PySem PySem.Spec PyProof.Rows
section
variable {prog:Program}{w:World}{A:Around}{E:Value->Shared->Prop}{h:Heap}{g:Array GenState}{d:Drawn}{t:Nat}{os:OsState}{K:PySem.W.Frag}{C x dx:Addr}{o:Obj}{name:Str}{v:Value}{mA:Str->Option Value}
end
end L2
namespace L2
open PySem PySem.Spec PyProof.Rows
noncomputable def zDo (e:Addr)(od:Option Addr)(h:Heap):Prop:=∃o,h.get? e=some o/\o.dict=od
theorem zDo.step {e:Addr}{od:Option Addr}{h h':Heap}(x:zDo e od h)(k:DK h h'):zDo e od h':=by
 obtain⟨o,q,r⟩:=x
 obtain⟨o',q',r'⟩:=k e o q
 exact⟨o',q',r'.trans r⟩
section
variable {M:Model}{A:Around}{E:Value->Shared->Prop}{s:Shared}{base:Heap}{env:Env}{outer l:List Env}{L e:Addr}{cls a0:Value}{od:Option Addr}{Q:Unit->Shared->Prop}
theorem zJE (hfr:A.frames=some (env::outer))(hf:env.frame=some L)(hfl:Heap.FlyingW base (env::outer) e cls a0 s.heap)(hd:zDo e od s.heap)
 (hQ:∀h',Heap.HeldW base (env::outer) e cls a0 L h'->s.heap.UpToSlots h'->zDo e od h'->Q () { s with heap:=h' }):wpAny M A (noteFrame (.ref e) env) Q E s:=by
 refine zAO (zDQ (zJL _ _) (wpAny_looks_onW (Q:=fun _ s2=>∃h',s2={ s with heap:=h' }/\Heap.HeldW base (env::outer) e cls a0 L h'/\s.heap.UpToSlots h') hfr hf hfl fun h' a b=>⟨h',rfl,a,b⟩)) (fun _ s2 hq=>?_) fun _ _ z=>z
 obtain⟨⟨h',rfl,a,b⟩,k⟩:=hq
 exact hQ h' a b (hd.step k)
theorem landsD (hh:Heap.HeldW base l e cls a0 L s.heap)(hd:zDo e od s.heap)
 (hQ:∀h',Heap.FlyingW base l e cls a0 h'->s.heap.UpToSlots h'->zDo e od h'->Q () { s with heap:=h' }):wpAny M A (setFlight (.ref e) none) Q E s:=by
 refine zAO (zDQ (zC5 _ _) (wpAny_landsW (Q:=fun _ s2=>∃h',s2={ s with heap:=h' }/\Heap.FlyingW base l e cls a0 h'/\s.heap.UpToSlots h') hh fun h' a b=>⟨h',rfl,a,b⟩)) (fun _ s2 hq=>?_) fun _ _ z=>z
 obtain⟨⟨h',rfl,a,b⟩,k⟩:=hq
 exact hQ h' a b (hd.step k)
theorem againD (hh:Heap.FlyingW base l e cls a0 s.heap)(hd:zDo e od s.heap)
 (hQ:∀h',Heap.FlyingW base l e cls a0 h'->s.heap.UpToSlots h'->zDo e od h'->Q () { s with heap:=h' }):wpAny M A (setFlight (.ref e) none) Q E s:=by
 refine zAO (zDQ (zC5 _ _) (lands_againW (Q:=fun _ s2=>∃h',s2={ s with heap:=h' }/\Heap.FlyingW base l e cls a0 h'/\s.heap.UpToSlots h') hh fun h' a b=>⟨h',rfl,a,b⟩)) (fun _ s2 hq=>?_) fun _ _ z=>z
 obtain⟨⟨h',rfl,a,b⟩,k⟩:=hq
 exact hQ h' a b (hd.step k)
end
noncomputable def zLI (K:PySem.W.Frag)(C:Addr):Bool:=excI K C || PySem.W.excIn K C bmV "ValueError.__new__"
theorem zKg {K:PySem.W.Frag}{h:Heap}{C:Addr}(X:K.In h)(q:zLI K C=true) :
 ∃bm N nm qn bs hdct sn sub ab col dd k0 k1 k2 k3 k5,h.get? C=some (excClassObj nm qn C N bs bm hdct sn sub ab col dd k0 k1 k2 k3 k5 "ValueError.__new__"):=by
 unfold zLI at q
 rcases Bool.or_eq_true _ _ ▸ q with q | q
 . obtain⟨bm,N,nm,qn,bs,sn,sub,ab,col,dd,k0,k1,k2,k3,k5,mN,hC,_⟩:=zCu X q
   exact⟨_,_,_,_,_,_,_,_,_,_,_,_,_,_,_,_,hC⟩
 . obtain⟨bm,N,nm,qn,bs,hdct,sn,sub,ab,col,dd,k0,k1,k2,k3,k5,mN,hC,_⟩:=zJV X q
   exact⟨_,_,_,_,_,_,_,_,_,_,_,_,_,_,_,_,hC⟩
noncomputable def PXI (X:Cx)(body:List Stmt)(tb:XK->TS):Prop:=∀(pins:List (Addr×Obj))(s:Shared)(σ:St)(H:Hp)(D:zJ2)(E1:XK),Inv X pins σ H s->tb E1 D σ H ->
 wpAny (model X.prog X.w) X.A (execs body X.env) (SP X pins D) (fun e s'=>∃H1 s1,Inv X pins σ H1 s1/\CXI X.prog X.w X.stack H1 s1 E1 e s') s
section
variable {X:Cx}{k:Nat}{f:Addr}{fd:FuncData}{ps:List Str}{sp:Sp}{x:Str}{p pos epos:Pos}{e:Expr}{es:List Expr}{t:TA}
theorem zMK {pins:List (Addr×Obj)}{s:Shared}{σ:St}{H:Hp}{Q:VK}{E1:XK}(F:zAi X.prog X.w X.K X.mg X.base (CXI X.prog X.w) k f fd ps sp)(hr:zDF k X.A)(hg:Gl X x)(hm:X.mg x=some (.ref f))(hk:PySem.W.keepIn X.K (.ref f)=true)(hb:zAA X.K fd ps [])
 (ha:PA X.nox (e::es) t)(I:Inv X pins σ H s)(h:t σ H fun vs H1=>sp vs H1 Q E1)(hdb:(x==("__debug__" : Str))=false:=by decide) (he:starEach (e::es) X.env=(false,eval e X.env)::starEach es X.env:=by rfl)(hpl:(backTo pos (starEach es X.env)).any (·.1)=false:=by rfl) :
 wpAny (model X.prog X.w) X.A (eval (.Call (.Name x p) (e::es) [] pos) X.env) (EP X pins σ Q) (fun e s'=>∃H1 s1,Inv X pins σ H1 s1/\CXI X.prog X.w X.stack H1 s1 E1 e s') s:=by
 refine zAv (zES I hg hm ?_ hdb)
 refine PySem.W.callWith_K (h₀:=X.base) I.ok.mod.kin hk (zAO (ha pos pins s σ H _ (I.wish _) h) (fun us s1 ⟨vs,H1,I1,r,q⟩=>⟨I1.unwish.kIn,?_⟩) fun _ _ z=>False.elim z) he hpl
 have I2:=I1.unwish
 have hl:us.length=ps.length:=by rw[<-r.length];exact F.len _ _ _ _ q
 refine zA5 (codeAny_mono (F.run X.A X.stack s1 H1 ⟨us,[]⟩ us vs Q E1 hr I2.env0 (by have:=hb s1 us I2.kIn (by rw[zq];exact hl);rw[zq] at this;exact this) r q) fun r s' hq=>?_)
 cases r with
 | error e=>exact⟨H1,s1,I2,hq⟩
 | ok fl=>
  cases fl with
  | ret u=>exact I2.after hq
  | next=>exact False.elim hq
  | brk=>exact False.elim hq
  | cont=>exact False.elim hq
end
end L2
namespace L2
open PySem PySem.Spec PyProof.Rows
section
variable {X:Cx}{k:Nat}{f:Addr}{fd:FuncData}{ps:List Str}{sp:Addr->Addr->Sp}{x:Str}{p pos:Pos}{e:Expr}{es:List Expr}{t:TA}{ea:Addr}{oe:Obj}
end
end L2
namespace L2
open PySem PySem.Spec PyProof.Rows
theorem zJW {K:PySem.W.Frag}{h:Heap}{C:Addr}(X:K.In h)(q:zLI K C=true) :
 ∃bm N nm qn bs hdct sn sub ab col dd k0 k1 k2 k3 k5,h.get? C=some (excClassObj nm qn C N bs bm hdct sn sub ab col dd k0 k1 k2 k3 k5 "ValueError.__new__")/\OwnTail h bmV bm:=by
 unfold zLI at q
 rcases Bool.or_eq_true _ _ ▸ q with q | q
 . obtain⟨bm,N,nm,qn,bs,sn,sub,ab,col,dd,k0,k1,k2,k3,k5,mN,hC,_,T⟩:=zCu X q
   exact⟨_,_,_,_,_,_,_,_,_,_,_,_,_,_,_,_,hC,T⟩
 . obtain⟨bm,N,nm,qn,bs,hdct,sn,sub,ab,col,dd,k0,k1,k2,k3,k5,mN,hC,_,_,T⟩:=zJV X q
   exact⟨_,_,_,_,_,_,_,_,_,_,_,_,_,_,_,_,hC,T⟩
noncomputable def EHN (K:PySem.W.Frag)(W:Addr)(ts:TS)(D:zJ2)(σ:St):XK:=fun C _ H'=>∃Ca,C = .ref Ca/\zLI K Ca=true/\subIn K Ca W=true/\ts D σ H'
noncomputable def tTryN (K:PySem.W.Frag)(W:Addr)(tb:XK->TS)(ts:TS):TS:=fun D σ H=>tb (EHN K W ts D σ) D σ H
theorem zLk {X:Cx}{body:List Stmt}{x:Str}{b0:Stmt}{suite:List Stmt}{pos hpos np:Pos}{W:Addr}{tb:XK->TS}{ts:TS}
 (hst:X.stack=X.env::X.outer)(hfl:X.env.frame=some X.env.locals)(hg:Gl X x)(hm:X.mg x=some (.ref W))(qW:zLI X.K W=true)
 (hb:PXI X body tb)(hs:∀(ea:Addr)(oe:Obj),PSs (X.held ea oe) (b0::suite) ts)(hd:(x==("__debug__" : Str))=false:=by decide) :
 PS X (.Try body [.ExceptHandler (some (.Name x np)) none (b0::suite) hpos] [] [] pos) (tTryN X.K W tb ts):=by
 intro pins s σ H D I h
 refine wpAny_Try_except (zAO (hb pins s σ H D _ I h) (fun fl s' hq=>?_) fun e s' hq=>?_)
 . cases fl with
   | next=>exact wpAny_execs_nil hq
   | brk=>exact hq
   | cont=>exact hq
   | ret u=>exact hq
 . obtain⟨H1,s1,I1,ea,t,C,od,H',B,rfl,os,bare,un,hok,⟨fl,fd⟩,tr,old,al,Ca,rfl,qC,sub,hts⟩:=hq
   have hfr:X.A.frames=some (X.env::X.outer):=by rw[<-hst];exact I.ok.frames
   have fl':=fl
   rw[hst] at fl'
   have hHe:H' ea=none:=by
    cases z:H' ea with
    | none=>rfl
    | some u=>
     obtain⟨o,ho⟩:=tr ea u z
     rw[fl.2.1] at ho;cases ho
   refine zJE hfr hfl fl' fd fun h4 held up4 d4=>?_
   refine landsD held d4 fun h5 fl5 up5 d5=>?_
   have key:∀(h6:Heap),Heap.FlyingW B (X.env::X.outer) ea (.ref Ca) (.ref t) h6->s'.heap.UpToSlots h6->∃oe,h6.get? ea=some oe/\oe.cls = .ref Ca/\Inv (X.held ea oe) pins σ H' { s' with heap:=h6 }:=fun h6 fl6 up6=>by
    obtain⟨oe,ws,hoe,hc,hdt,_⟩:=fl6.first
    have un6:Un (frs X.stack) [] H1 H' s1.heap h6:=zJH un fl old al fl6.1 up6
    have I6:Inv X pins σ H' { s' with heap:=h6 }:=I1.call' (s':={ s' with heap:=h6 }) os un6 (hok.stays fl.1 fl6.1 tr) bare (fun b z=>absurd z (by simp))
    have nfr:ea∉frs X.stack:=fun z=>by
     rw[hst] at z
     obtain⟨_,o,ho,nd⟩:=fl6.2.2.1.mem z
     rw[hoe] at ho
     cases ho
     exact nd ws hdt
    have hfs:frs X.stack=X.env.locals::X.fs:=by
     rw[hst]
     unfold frs
     rw[zB2,hfl]
     rfl
    rw[hfs] at nfr
    exact⟨oe,hoe,hc,I6.hold hoe hHe (fun z=>nfr (z ▸ zY)) (fun z=>nfr (zR _ z)) (fun v z=>by rw[hdt] at z;cases z)⟩
   obtain⟨oe5,hoe5,hc5,I5⟩:=key h5 fl5 (up4.trans up5)
   refine wpAny_handleBy_cons (codeAny_handlers_test (zES (X:=X.held ea oe5) I5 hg hm ?_ hd)) (by intro q;cases q)
   obtain⟨bm,Nn,nm,qn,bs,hdct,sn,sb,ab,col,dd,k0,k1,k2,k3,k5,hC⟩:=zKg I5.kIn qC
   obtain⟨bm',Nn',nm',qn',bs',hdct',sn',sb',ab',col',dd',k0',k1',k2',k3',k5',hW,TW⟩:=zJW I5.kIn qW
   refine zHz hC hW hoe5 hc5 (TW.hasType (by rfl)) (sub_of I5.kIn sub hC) ?_
   refine codeAny_handlers_suite (againD fl5 d5 fun h6 fl6 up6 d6=>?_)
   obtain⟨oe6,hoe6,hc6,I6⟩:=key h6 fl6 ((up4.trans up5).trans up6)
   refine zAO (hs ea oe6 pins _ _ H' D I6 hts) (fun f s8 hq=>?_) fun _ _ z=>z.elim
   cases f with
   | next=>
    obtain⟨σ',H2,J,q⟩:=hq
    exact⟨_,H2,Inv.letgo I.ok J,q⟩
   | brk=>
    obtain⟨σ',H2,J,q⟩:=hq
    exact⟨_,H2,Inv.letgo I.ok J,q⟩
   | cont=>
    obtain⟨σ',H2,J,q⟩:=hq
    exact⟨_,H2,Inv.letgo I.ok J,q⟩
   | ret u=>
    obtain⟨v,σ',H2,J,r,q⟩:=hq
    exact⟨v,_,H2,Inv.letgo I.ok J,r,q⟩
section
variable {X:Cx}
end
section
variable {X:Cx}{k:Nat}{f:Addr}{fd:FuncData}{ps:List Str}{sp:Sp}{x y:Str}{p pos epos pos' cpos:Pos}{e b:Expr}{es:List Expr}{t:TA}{i:Nat}
theorem zKM {tb:TE}(hN:X.N.Nodup)(hi:X.N[i]? = some y)(hx:Loc X.env.scope y)(F:zAi X.prog X.w X.K X.mg X.base (CXI X.prog X.w) k f fd ps sp)(hr:zDF k X.A)(hg:Gl X x)(hm:X.mg x=some (.ref f))(hk:PySem.W.keepIn X.K (.ref f)=true)(hb:zAA X.K fd ps [])
 (ha:PA X.nox (e::es) t)(hv:PE X.nox b tb)(hs:swapsWith (.Compare (.Call (.Name x p) (e::es) [] pos) [.Is] [b] cpos) (some (.Name y pos')) epos.line X.env=pure false:=by rfl)(hf:X.fn y=true\/X.env.scope.names.lookup y=some .local:=by first | exact .inl rfl | exact .inr rfl | assumption)(hdb:(x==("__debug__" : Str))=false:=by decide) (he:starEach (e::es) X.env=(false,eval e X.env)::starEach es X.env:=by rfl)(hpl:(backTo pos (starEach es X.env)).any (·.1)=false:=by rfl) :
 PXI X [.Assign [.Name y pos'] (.Compare (.Call (.Name x p) (e::es) [] pos) [.Is] [b] cpos) epos] (fun E1 D σ H=>t σ H fun vs H1=>sp vs H1 (fun v H2=>tb σ H2 fun u H3=>∃c d,v = .bl c/\u = .bl d/\D.nx (σ.set i (some (.bl (c==d)))) H3) E1):=by
 intro pins s σ H D E1 I h
 refine wpAny_execs_cons (wpAny_Assign_Name (wpAny_Compare1 (zAO (zMK F hr hg hm hk hb ha I h hdb he hpl) (fun v s1 ⟨z,H1,I1,r1,q1⟩=>?_) fun _ _ z=>z) (zAZ _)) hs)
 refine zAO (hv pins s1 σ H1 _ (I1.wish _) q1) (fun u s2 ⟨z2,H2,I2,r2,c,d,e1,e2,q2⟩=>?_) fun _ _ z=>False.elim z
 subst e1 e2
 cases r1;cases r2
 refine PyProof.Rows.is_bool ?_
 exact zD3 I2.unwish hN hi hx (v:=.bl (c==d)) rfl (fun s3 I3=>wpAny_execs_nil ⟨_,H2,I3,q2⟩) hf
end
end L2
namespace L2
open PySem PyProof.Rows
section
variable {X:Cx}
end
end L2
namespace L2
section
open PySem PySem.W PyProof.Rows
noncomputable def zFE (p:Program)(w:World)(n₀:Nat)(ann:Option Value):Nat->SharedT->Thread->Option SharedT
 | 0,_,_=>none
 | n+1,s,t=>match through t with
  | true=>some s
  | false=>match Fast.tw6613529449190102663 n₀ ann t with
   | false=>none
   | true=>match Fast.tw10156331382660048174 (Fast.tw11892475500146522536 Fast.tw14364793385576792824) p w s t with
    | some (s',t')=>zFE p w n₀ ann n s' t'
    | none=>none
theorem zFh {p:Program}{w:World}{n₀:Nat}{ann:Option Value}:∀{n:Nat}{s s':SharedT}{t:Thread},zFE p w n₀ ann n s t=some s'->topRun treeTable p w n₀ ann n s.abs t=some s'.abs
 | 0,_,_,_,h=>by cases h
 | n+1,s,s',t,h=>by
  unfold zFE at h
  rw[<-Fast.te6613529449190102663,<-Fast.te10156331382660048174,<-Fast.te11892475500146522536,<-Fast.te14364793385576792824] at h
  unfold topRun
  cases he:through t with
  | true=>rw[he] at h;cases h;rfl
  | false=>
   rw[he] at h
   cases hk:stepOk n₀ ann t with
   | false=>rw[hk] at h;cases h
   | true=>
    rw[hk] at h
    cases hs:stepT (denote treeTable) p w s t with
    | none=>rw[hs] at h;cases h
    | some r=>obtain⟨s₂,t₂⟩:=r;rw[hs] at h;rw[stepT_spec hs];exact zFh h
noncomputable def bt:List Obj->Nat->BT->BT
 | [],_,t=>t
 | o::l,i,t=>bt l (i+1) (t.ins i o)
noncomputable def bT (P:Params):BT:=bt (boot_heap P).objs.toList 0 .nil
noncomputable def bS (w:World)(os:OsState):SharedT:=⟨bT w.params,(boot_heap w.params).objs.size,(boot_heap w.params).life,Array.mk [],boot_drawn,boot_toks,os⟩
theorem bA (w:World)(os:OsState):(bS w os).abs=⟨boot_heap w.params,Array.mk [],boot_drawn,boot_toks,os⟩:=by kernel_rfl
noncomputable abbrev runT (p:Program)(N:Nat)(w:World)(os:OsState):Option SharedT:=zFE p w (boot_heap w.params).objs.size ((boot_heap w.params).nsMap mainGlobals "__annotations__") N (bS w os) (topStub p)
noncomputable abbrev chkT (p:Program)(h h':Heap)(s:Shared):Bool:=staticsOk (importedModules p.main.body) h h' && namesBound p h' && gensDone s && laidKept h h'
theorem left_of {p q:Program}{loose:List Str}{Xt:Shared->Bool}{α:Type}{Yf:Shared->α}{Ya:World->α}{N:Nat}(e:opening p=plainProg p.main.scope.names)(hN:Nat.ble 600 N=true)(f:∀s,fenceModules? p s=some s)
 (h:∀(w:World)(os:OsState),(runT p N w os).map (fun s=>(chkT p (boot_heap w.params) s.abs.heap s.abs,Fast.tw4187177175401517315 q loose (importedModules p.main.body) Xt true s.abs,Yf s.abs))=some (true,openGood q loose,Ya w)):LeftO p q loose Xt Yf Ya N:=by
 intro w
 obtain⟨⟨h0,gs,d,k,os⟩,e1,e2⟩:=zAm.mp (boot_open e hN f w)
 obtain⟨rfl,rfl,rfl,rfl⟩:h0=boot_heap w.params/\gs=Array.mk []/\d=boot_drawn/\k=boot_toks:=by simpa using e2
 obtain⟨s,r,a⟩:=zAm.mp (h w os)
 obtain⟨b,a⟩:=Prod.mk.inj a
 rw[<-Fast.te4187177175401517315] at a
 have y:=zFh r
 rw[bA] at y
 unfold openEnds
 rw[e1]
 show (topFrom treeTable p w N _).map _=_
 unfold topFrom
 have z:((boot_heap w.params).isNs mainGlobals && (Array.mk []:Array GenState).size==0)=true:=by kernel_rfl
 dsimp only
 rw[z]
 dsimp only
 rw[y]
 show Option.map _ (match chkT p (boot_heap w.params) s.abs.heap s.abs with | true=>some s.abs | false=>none)=_
 rw[b]
 exact congrArg some a
end
end L2
namespace K40
open PySem L2 WM
noncomputable def top (i:Nat):Stmt:=PySem.Challenge.pw_labelways_k40_whole_hubs_stand_in_chains.main.body.getD i (.Pass ⟨0,0,0,0⟩)
noncomputable def mth (k i:Nat):Stmt:=match top k with
 | .ClassDef _ _ _ body ..=>body.getD i (.Pass ⟨0,0,0,0⟩)
 | _=>.Pass ⟨0,0,0,0⟩
noncomputable abbrev zKF:Stmt:=top 39
noncomputable abbrev zFH:Stmt:=top 40
noncomputable abbrev sN:Stmt:=top 41
noncomputable abbrev sWeb:Stmt:=top 42
noncomputable abbrev zGk:Stmt:=top 25
noncomputable abbrev zIk:Stmt:=top 29
noncomputable abbrev zIn:Stmt:=top 28
noncomputable abbrev zIm:Stmt:=top 27
noncomputable abbrev sBwr:Stmt:=top 30
noncomputable abbrev sNbr:Stmt:=top 31
noncomputable abbrev zKG:Stmt:=top 5
noncomputable abbrev sWi:Stmt:=top 6
noncomputable abbrev sPl:Stmt:=top 9
noncomputable abbrev sTof:Stmt:=top 7
noncomputable abbrev sRis:Stmt:=top 8
noncomputable abbrev sOrd:Stmt:=top 33
noncomputable abbrev sByo:Stmt:=top 34
noncomputable abbrev sLbr:Stmt:=top 35
noncomputable abbrev sIsh:Stmt:=top 36
noncomputable abbrev sEbr:Stmt:=top 37
noncomputable abbrev sIp:Stmt:=top 12
noncomputable abbrev sPw:Stmt:=top 13
noncomputable abbrev sPp:Stmt:=top 14
noncomputable abbrev sCh:Stmt:=top 15
noncomputable abbrev sCo:Stmt:=top 16
noncomputable abbrev sPo:Stmt:=top 17
noncomputable abbrev sDe:Stmt:=top 18
noncomputable abbrev zIl:Stmt:=top 19
noncomputable abbrev zIj:Stmt:=top 20
noncomputable abbrev sPf:Stmt:=top 21
noncomputable abbrev sLk:Stmt:=top 22
noncomputable abbrev sTf:Stmt:=top 23
noncomputable abbrev sLf:Stmt:=top 43
noncomputable abbrev sLc:Stmt:=top 44
noncomputable abbrev sBes:Stmt:=top 45
noncomputable abbrev sPar:Stmt:=top 46
noncomputable abbrev sRpl:Stmt:=top 47
noncomputable abbrev sCal:Stmt:=top 48
noncomputable abbrev sPtu:Stmt:=top 49
noncomputable abbrev sLet:Stmt:=top 50
noncomputable abbrev sHub:Stmt:=top 51
noncomputable abbrev sI1:Stmt:=mth 2 0
noncomputable abbrev sLaw:Stmt:=top 52
noncomputable def zCE (H:Hp)(t p:Addr)(N:Nat):Prop:=∃(ns:List Int)(spot rest:Int),H t=some (.lst [.ref p,.int spot,.int rest])/\H p=some (.lst (ns.map V.int))/\p≠t/\0<=spot/\spot<=N/\0<=rest/\ns.length<=63
noncomputable def zAN (H:Hp)(t:Addr)(N:Nat):Prop:=∃p:Addr,zCE H t p N
theorem zAN.mono {H:Hp}{t:Addr}{N M:Nat}(h:zAN H t N)(l:N<=M):zAN H t M:=by
 obtain⟨p,ns,spot,rest,a,b,c,d,e,f⟩:=h
 exact⟨p,ns,spot,rest,a,b,c,d,by omega,f⟩
noncomputable def Sm (t:Addr)(H H':Hp):Prop:=∀b o,b≠t->H b=some o->H' b=some o
theorem Sm.trans {t:Addr}{H H1 H2:Hp}(a:Sm t H H1)(b:Sm t H1 H2):Sm t H H2:=fun c o n e=>b c o n (a c o n e)
theorem Sm.of {t:Addr}{H H':Hp}(h:zA0 H H'):Sm t H H':=fun b o _ e=>h b o e
theorem Sm.laid {t l:Addr}{H:Hp}{o:HO}(h:H l=none):Sm t H (upd H l o):=fun b u _ e=>by rw[zb (zl e h)];exact e
theorem Sm.chg {t l:Addr}{H H':Hp}{o:HO}(s:Sm t H H')(h:H l=none):Sm t H (upd H' l o):=fun b u n e=>by rw[zb (zl e h)];exact s b u n e
theorem zI {l:Addr}{H:Hp}{o:HO}(h:H l=none):zA0 H (upd H l o):=fun b u e=>by rw[zb (zl e h)];exact e
theorem zAz {l:Addr}{H H':Hp}{o:HO}(s:zA0 H H')(h:H l=none):zA0 H (upd H' l o):=fun b u e=>by rw[zb (zl e h)];exact s b u e
theorem zAN.keep {H H':Hp}{t:Addr}{N:Nat}(h:zAN H t N)(k:zA0 H H'):zAN H' t N:=by
 obtain⟨p,ns,spot,rest,a,b,c⟩:=h
 exact⟨p,ns,spot,rest,k _ _ a,k _ _ b,c⟩
theorem zAN.laid {H:Hp}{t l:Addr}{N:Nat}{o:HO}(h:zAN H t N)(hl:H l=none):zAN (upd H l o) t N:=h.keep (zI hl)
theorem zAN.ne {H:Hp}{t b:Addr}{N:Nat}(h:zAN H t N)(hb:H b=none):b≠t:=by
 obtain⟨p,ns,spot,rest,a,_⟩:=h
 exact (zl a hb).symm
theorem zAN.chg {H:Hp}{t l:Addr}{N:Nat}{o u:HO}(h:zAN H t N)(hl:H l=some u)(hu:∀xs,u ≠ .lst xs):zAN (upd H l o) t N:=by
 obtain⟨p,ns,spot,rest,a,b,c⟩:=h
 exact⟨p,ns,spot,rest,by rw[zb (zB1 a hl fun z=>hu _ z.symm)];exact a,by rw[zb (zB1 b hl fun z=>hu _ z.symm)];exact b,c⟩
theorem zCE.keepF {H H':Hp}{t p:Addr}{N M:Nat}(h:zCE H t p N)(k1:∀o,H t=some o->H' t=some o)(k2:∀o,H p=some o->H' p=some o)(l:N<=M):zCE H' t p M:=by
 obtain⟨ns,spot,rest,a,b,c,d,e,f⟩:=h
 exact⟨ns,spot,rest,k1 _ a,k2 _ b,c,d,by omega,f⟩
noncomputable def zGd:Sp:=fun vs H Q _=>∃(t p:Addr)(N:Nat)(many:Int),vs=[.ref t,.int many]/\zCE H t p N/\N<1000000/\0<many/\many<1000000 /\
 ∀(r:Int)(H':Hp),0<=r->r<many->zCE H' t p (N+1)->(∀b,b≠t->H' b=H b)->Q (.int r) H'
noncomputable def zIa:Sp:=fun vs H Q _=>∃(t:Addr)(N:Nat)(many:Int),vs=[.ref t,.int many]/\zAN H t N/\N<1000000/\0<many/\many<1000000 /\
 ∀(r:Int)(H':Hp),0<=r->r<many->zAN H' t (N+1)->(∀b,b≠t->H' b=H b)->Q (.int r) H'
noncomputable def zKx (K:PySem.W.Frag):Sp:=fun vs H Q _=>∃(a:Addr)(ns:List Int),vs=[.ref a]/\SqL K H a (ns.map V.int)/\ns.length<=63/\∀(t:Addr)(H':Hp),H t=none->zAN H' t 0->zA0 H H'->Q (.ref t) H'
section
variable {P:Program}{w:World}{K:PySem.W.Frag}{mg:Str->Option Value}{base:Heap}
theorem scTape:zAH ["_law_script"] ["_law_script"] (defScope zKF):=⟨rfl,rfl,rfl,by decide +kernel,rfl,by decide +kernel,by decide +kernel⟩
theorem zLs {f:Addr}{fd:FuncData}(F:Fun K "_law_tape" "_law_tape" zKF f fd):zAi P w K mg base CX0 1 f fd ["_law_script"] (zKx K):=by
 refine F.ok scTape (fun vs H Q E h=>?_) (fun cdv A outer s H vs Q E hr h=>?_)
 . obtain⟨a,ns,rfl,_⟩:=h
   rfl
 . obtain⟨a,ns,rfl,hS,hl,k⟩:=h
   refine⟨_,zm (zAK (zCN (zG (zCP zGf (pv 0) zCq (zCp ze)) (zCd (zCd zO))))),?_⟩
   refine⟨_,rfl,_,rfl,a,_,rfl,hS,fun p hp=>⟨by show 3<=sizeLine;decide,fun t ht=>?_⟩⟩
   have npt:p≠t:=fun e=>by rw[e,zJ] at ht;cases ht
   have e1:zEl (ns.map V.int) none (some 63)=(ns.take 63).map V.int:=by
    unfold zEl
    rw[HT.sIx_none,List.drop_zero,Nat.sub_zero,zD,show (63:Int)=((63:Nat):Int) from rfl,HT.sIx_nat,List.map_take]
    rw[show min 63 ns.length=ns.length by omega,za (by rw[zD];exact zH _),za (by rw[zD];exact hl)]
   have ht0:H t=none:=by rw[zb npt.symm] at ht;exact ht
   refine k t _ ht0 ⟨p,ns.take 63,0,0,zJ,?_,npt,Int.le_refl _,Int.le_refl _,Int.le_refl _,by rw[zt];omega⟩ ?_
   . rw[zb npt,zJ,e1]
   . exact zAz (zI hp) ht0
theorem zFq:zAH ["_law_tape_here", "_law_many", "_law_found", "_law_spot", "_law_cell", "_law_mixed"] ["_law_tape_here", "_law_many"] (defScope zFH):=⟨rfl,rfl,rfl,by decide +kernel,rfl,by decide +kernel,by decide +kernel⟩
theorem zEN {a m:Int}(h:0<m):0<=a%m/\a%m<m:=⟨Int.emod_nonneg _ (by omega),Int.emod_lt_of_pos _ h⟩
theorem zFQ {f:Addr}{fd:FuncData}(F:Fun K "_law_draw" "_law_draw" zFH f fd) (mLen:mg "len" = none):zAi P w K mg base CX0 1 f fd ["_law_tape_here", "_law_many"] zGd:=by
 refine F.ok zFq (fun vs H Q E h=>?_) (fun cdv A outer s H vs Q E hr h=>?_)
 . obtain⟨t,p,N,many,rfl,_⟩:=h
   rfl
 . obtain⟨t,p,N,many,rfl,T,hN,hm0,hm1,k⟩:=h
   obtain⟨ns,spot,rest,ht,hp,hne,hs0,hs1,hr0,hl⟩:=T
   refine⟨_,zV (zBr (zAG zFN (zAC zAx (pv 0) ze (fun _ _=>rfl)) ze (zAZ _))
    (zV (zAW (i:=2) zFq.nd rfl (Or.inl rfl) (zBD zEM (zAC zAx (pv 0) ze (fun _ _=>rfl)) (pv 1)))
    (zV (zHL (zBD zFO (zAC zAx (pv 0) ze (fun _ _=>rfl)) (pv 1)) (zHN (pv 0) ze zD4))
    (zm (zAK (pv 2))))) zAh)
    (zV (zAW (i:=3) zFq.nd rfl (Or.inl rfl) (zAC zAx (pv 0) ze (fun _ _=>rfl)))
    (zV (zHL (zBD zCe (pv 3) ze) (zHN (pv 0) ze zD4))
    (zV (zAW (i:=4) zFq.nd rfl (Or.inl rfl) (zKP (zAG zFN (zAD zAQ (by rfl) mLen PySem.boot_len (zG (zAC zAx (pv 0) ze (fun _ _=>rfl)) zO)) ze (zAZ _))
     (zAC zAx (zAC zAx (pv 0) ze (fun _ _=>rfl)) (zBD zEM (pv 3) (zAD zAQ (by rfl) mLen PySem.boot_len (zG (zAC zAx (pv 0) ze (fun _ _=>rfl)) zO))) (fun _ _=>rfl)) ze))
    (zV (zBr (zDG (zAG op_ge (pv 4) (zBD op_pow ze ze) (zAZ _)) (zCg (zAG zIz (pv 3) (zAD zAQ (by rfl) mLen PySem.boot_len (zG (zAC zAx (pv 0) ze (fun _ _=>rfl)) zO)) (zAZ _)))).pt
     (zV (zHL (zBD zFO (pv 4) (pv 1)) (zHN (pv 0) ze zD4)) (zm (zAK (zBD zEM (pv 4) (pv 1))))) zAh)
    (zV (zAW (i:=5) zFq.nd rfl (Or.inl rfl) (zBD zEM (zBD zF1 (zBD zCe (zBD zEM (pv 4) ze) ze) (zBD zCe ze (zBD zF1 ze (pv 3)))) ze))
    (zm (zAK (zBD zEM (zBD zFO (zBD zEM (zBD zF1 (zBD zCe (pv 5) (zBD zF1 (zBD zF1 ze (pv 3)) (pv 3))) ze) ze) ze) (pv 1))))))))),?_⟩
   have cd:CDiv 0 many:=⟨hm0,by omega⟩
   refine⟨_,rfl,t,_,_,_,rfl,rfl,SqL.of ht,rfl,_,_,rfl,rfl,_,rfl,?_⟩
   refine zD9 (fun hc=>?_) (fun hc=>?_)
   . have hpos:0<rest:=of_decide_eq_true hc
     refine⟨_,rfl,t,_,_,_,rfl,rfl,SqL.of ht,rfl,_,rfl,_,_,rfl,rfl,hm0,?_⟩
     refine⟨_,rfl,t,_,_,_,rfl,rfl,SqL.of ht,rfl,_,rfl,_,_,rfl,rfl,cd,?_⟩
     refine⟨_,rfl,t,_,_,2,rfl,rfl,ht,rfl,?_⟩
     refine⟨_,rfl,?_⟩
     refine k _ _ (zEN hm0).1 (zEN hm0).2 ⟨ns,spot,rest/many,zJ,by rw[zb hne];exact hp,hne,hs0,by omega,Int.ediv_nonneg hr0 (by omega),hl⟩ fun b hb=>zb hb
   . -- spot=tape[1];tape[1]=spot+1
     refine⟨_,rfl,t,_,_,_,rfl,rfl,SqL.of ht,rfl,?_⟩
     refine⟨_,rfl,_,_,rfl,rfl,_,rfl,t,_,_,1,rfl,rfl,ht,rfl,?_⟩
     have ht1:(upd H t (.lst [.ref p,.int (spot+1),.int rest])) t=some (.lst [.ref p,.int (spot+1),.int rest]):=zJ
     have hp1:(upd H t (.lst [.ref p,.int (spot+1),.int rest])) p=some (.lst (ns.map V.int)):=by rw[zb hne];exact hp
     have ex:0<((ns.map V.int).length:Int)->∃c,atI (ns.map V.int) (spot%((ns.map V.int).length:Int))=some (.int c):=fun h=>by
      have hb:=zEN (a:=spot) h
      obtain⟨j,hj⟩:=zBM hb.1
      have hlt:j<ns.length:=by
       have h2:=hb.2
       rw[hj,zD] at h2
       omega
      refine⟨ns[j],?_⟩
      rw[hj]
      exact zCD (by simp[hlt])
     refine⟨_,rfl,t,_,_,_,rfl,rfl,SqL.of ht1,rfl,p,_,rfl,.inl (SqL.of hp1),_,_,rfl,rfl,_,rfl,?_⟩
     refine zD9 (fun h2=>?a) (fun h2=>?b)
     case' a=>
      obtain⟨c,hc⟩:=ex (of_decide_eq_true h2)
      refine⟨_,rfl,t,_,_,_,rfl,rfl,SqL.of ht1,rfl,_,rfl,_,rfl,t,_,_,_,rfl,rfl,SqL.of ht1,rfl,p,_,rfl,.inl (SqL.of hp1),_,_,rfl,rfl,of_decide_eq_true h2,p,_,_,_,rfl,rfl,SqL.of hp1,hc,?_⟩
     all_goals
      refine⟨_,rfl,_,_,rfl,rfl,⟨by decide,by decide,by decide⟩,_,_,rfl,rfl,_,rfl,?_⟩
      refine zD9 (fun h3=>?_) (fun h3=>?_)
     all_goals first
      | (refine⟨_,rfl,_,rfl,t,_,_,_,rfl,rfl,SqL.of ht1,rfl,p,_,rfl,.inl (SqL.of hp1),_,_,rfl,rfl,_,rfl,?_⟩;refine zD9 (fun h4=>?_) (fun h4=>?_))
      | refine zCm ?_
     all_goals first
      | (refine⟨_,rfl,_,rfl,_,_,rfl,rfl,⟨hm0,by omega⟩,_,rfl,t,_,_,2,rfl,rfl,ht1,rfl,?_⟩
         refine⟨_,rfl,_,rfl,_,_,rfl,rfl,hm0,?_⟩
         refine k _ _ (zEN hm0).1 (zEN hm0).2 ⟨ns,spot+1,_,zJ,by rw[zb hne];exact hp1,hne,by omega,by omega,Int.ediv_nonneg (Int.le_trans (show (0:Int)<=10 ^ (18:Int).toNat by decide) (of_decide_eq_true h3)) (by omega),hl⟩ fun b hb=>by rw[zb hb,zb hb])
      | (refine⟨_,rfl,_,_,rfl,rfl,(by dsimp only;decide),_,_,rfl,rfl,_,rfl,_,_,rfl,rfl,.inl ⟨by decide,by decide⟩,_,_,rfl,rfl,_,_,rfl,rfl,.inl ⟨by omega,by omega⟩,_,_,rfl,rfl,(by dsimp only;decide),?_⟩
         refine⟨_,rfl,_,rfl,_,_,rfl,rfl,.inl ⟨by decide,by decide⟩,_,rfl,_,_,rfl,rfl,.inr ⟨by omega,by omega⟩,_,_,rfl,rfl,_,_,rfl,rfl,.inr ⟨by decide,by decide⟩,_,_,rfl,rfl,(by dsimp only;decide),_,_,rfl,rfl,⟨by decide,by decide⟩,_,rfl,_,_,rfl,rfl,hm0,?_⟩
         refine k _ _ (zEN hm0).1 (zEN hm0).2 ⟨ns,spot+1,rest,ht1,hp1,hne,by omega,by omega,hr0,hl⟩ fun b hb=>zb hb)
theorem zI5 {f:Addr}{fd:FuncData}(F:Fun K "_law_draw" "_law_draw" zFH f fd) (mLen:mg "len" = none):zAi P w K mg base CX0 1 f fd ["_law_tape_here", "_law_many"] zIa:=
 (zFQ F mLen).imp fun vs H Q E ⟨t,N,many,e,⟨p,T⟩,a,b,c,k⟩=>⟨t,p,N,many,e,T,a,b,c,fun r H' h0 h1 T' he=>k r H' h0 h1 ⟨p,T'⟩ he⟩
end
end K40
namespace K40
open PySem L2 WM
theorem zGw {L:List Int}{r:Int}(h0:0<=r)(h1:r<L.length):∃n,n∈L/\atI (L.map V.int) r=some (.int n):=by
 obtain⟨j,rfl⟩:=zBM h0
 have hj:j<L.length:=by omega
 exact⟨L[j],zBH hj,zCD (by simp[hj])⟩
noncomputable def spN:Sp:=fun vs H Q _=>∃(t:Addr)(N:Nat),vs=[.ref t]/\zAN H t N/\N<900000/\∀(n:Int)(H':Hp),1<=n->n<=12->zAN H' t (N+1)->Sm t H H'->Q (.int n) H'
noncomputable def zB3 (H:Hp)(wa:Addr)(n:Int)(ts:List T3):Prop:=∃(ta:Addr)(tys:List V),H wa=some (.tup [.int n,.ref ta])/\H ta=some (.tup tys)/\zAk H tys (ts.map tl)/\GW n ts
theorem zB3.keepT {H H':Hp}{wa:Addr}{n:Int}{ts:List T3}(h:zB3 H wa n ts)(k:∀b ys,H b=some (.tup ys)->H' b=some (.tup ys)):zB3 H' wa n ts:=by
 obtain⟨ta,tys,a,b,c,d⟩:=h
 exact⟨ta,tys,k _ _ a,k _ _ b,c.keep k,d⟩
theorem zB3.keep {H H':Hp}{wa:Addr}{n:Int}{ts:List T3}(h:zB3 H wa n ts)(k:zA0 H H'):zB3 H' wa n ts:=h.keepT fun b _ e=>k b _ e
theorem zB3.sm {H H':Hp}{wa t:Addr}{N:Nat}{n:Int}{ts:List T3}(h:zB3 H wa n ts)(T:zAN H t N)(k:Sm t H H'):zB3 H' wa n ts:=h.keepT fun b _ e=>by
 obtain⟨p,ns,spot,rest,a,_⟩:=T
 exact k b _ (zB1 e a (by intro z;cases z)) e
noncomputable def spWeb:Sp:=fun vs H Q _=>∃(t:Addr)(N:Nat)(n:Int),vs=[.ref t,.int n]/\zAN H t N/\N<900000/\1<=n/\n<=24 /\
 ∀(wa:Addr)(ts:List T3)(H':Hp),H wa=none->zB3 H' wa n ts->zAN H' t (N+200)->Sm t H H'->Q (.ref wa) H'
noncomputable def JD (n:Int)(kvs:List (List Key×V)):Prop:=(∀kv∈kvs,∃a b l:Int,kv=([Sum.inl a,Sum.inl b],V.int l)/\0<=a/\a<b/\b<n/\1<=l/\l<=99)/\(kvs.map (·.1)).Nodup
theorem JD.nil (n:Int):JD n []:=⟨fun _ h=>by simp at h,List.nodup_nil⟩
theorem JD.put {n:Int}{kvs:List (List Key×V)}(h:JD n kvs){a b l:Int}(h0:0<=a)(h1:a<b)(h2:b<n)(h3:1<=l)(h4:l<=99):JD n (zDH kvs [Sum.inl a,Sum.inl b] (.int l)):=by
 cases e:zCQ kvs [Sum.inl a,Sum.inl b] with
 | none=>
  refine⟨fun kv hkv=>?_,zI8 _ h.2 e⟩
  rw[zFK _ e] at hkv
  rcases zK.mp hkv with q | q
  . exact h.1 kv q
  . rw[zn.mp q];exact⟨a,b,l,rfl,h0,h1,h2,h3,h4⟩
 | some v=>
  have ha:(kvs.any fun kv=>decide (kv.1=[Sum.inl a,Sum.inl b]))=true:=by rw[zCF,e];rfl
  unfold zDH
  rw[if_pos ha]
  refine⟨fun kv hkv=>?_,?_⟩
  . obtain⟨q,hq,e2⟩:=zAM.mp hkv
    by_cases hk:q.1=[Sum.inl a,Sum.inl b]
    . rw[if_pos hk,hk] at e2;rw[<-e2];exact⟨a,b,l,rfl,h0,h1,h2,h3,h4⟩
    . rw[if_neg hk] at e2;rw[<-e2];exact h.1 q hq
  . have e3:(kvs.map fun kv=>if kv.1=[Sum.inl a,Sum.inl b] then (kv.1,V.int l) else kv).map (·.1)=kvs.map (·.1):=by
     rw[List.map_map]
     refine List.map_congr_left fun kv _=>?_
     show (if kv.1=[Sum.inl a,Sum.inl b] then (kv.1,V.int l) else kv).1=kv.1
     split <;> rfl
    rw[e3];exact h.2
noncomputable def unk:Key->Int
 | .inl i=>i
 | .inr _=>0
noncomputable def zEt (kvs:List (List Key×V)):List (List Int):=kvs.map fun kv=>kv.1.map unk
theorem JD.keys {n:Int}{kvs:List (List Key×V)}(h:JD n kvs):kvs.map (·.1)=(zEt kvs).map (List.map Sum.inl):=by
 unfold zEt
 rw[List.map_map]
 refine List.map_congr_left fun kv hkv=>?_
 obtain⟨a,b,l,e,_⟩:=h.1 kv hkv
 rw[e];rfl
theorem JD.ne {n:Int}{kvs:List (List Key×V)}(h:JD n kvs):∀k∈zEt kvs,k≠[]:=fun k hk=>by
 obtain⟨kv,hkv,e⟩:=zAM.mp hk
 obtain⟨a,b,l,e2,_⟩:=h.1 kv hkv
 rw[<-e,e2];simp[List.map]
theorem JD.nd {n:Int}{kvs:List (List Key×V)}(h:JD n kvs):(zEt kvs).Nodup:=by
 have e:=h.2
 rw[h.keys] at e
 rw[List.Nodup,zBC] at e
 exact e.imp fun h e'=>h (by rw[e'])
theorem JD.val {n:Int}{kvs:List (List Key×V)}(h:JD n kvs){k:List Int}(hk:k∈zEt kvs):∃a b l,k=[a,b]/\zCQ kvs [Sum.inl a,Sum.inl b]=some (.int l)/\0<=a/\a<b/\b<n/\1<=l/\l<=99:=by
 obtain⟨kv,hkv,e⟩:=zAM.mp hk
 obtain⟨a,b,l,e2,h0,h1,h2,h3,h4⟩:=h.1 kv hkv
 have ek:k=[a,b]:=by rw[<-e,e2];rfl
 have hm:(kvs.any fun kv=>decide (kv.1=[Sum.inl a,Sum.inl b]))=true:=zB5.mpr ⟨kv,hkv,zP (by rw[e2])⟩
 rw[zCF] at hm
 cases hv:zCQ kvs [Sum.inl a,Sum.inl b] with
 | none=>rw[hv] at hm;cases hm
 | some v=>
  have hv0:=hv
  unfold zCQ at hv
  cases hf:kvs.find? fun kv=>decide (kv.1=[Sum.inl a,Sum.inl b]) with
  | none=>rw[hf] at hv;cases hv
  | some q=>
   rw[hf] at hv
   obtain⟨a',b',l',e3,_,_,_,g3,g4⟩:=h.1 q (List.mem_of_find?_eq_some hf)
   have ev:v = .int l':=by rw[e3] at hv;exact (zf hv).symm
   exact⟨a,b,l',ek,by rw[hv0,ev],h0,h1,h2,g3,g4⟩
section
variable {P:Program}{w:World}{K:PySem.W.Frag}{mg:Str->Option Value}{base:Heap}
theorem scN:zAH ["_law_tape_here"] ["_law_tape_here"] (defScope sN):=⟨rfl,rfl,rfl,by decide +kernel,rfl,by decide +kernel,by decide +kernel⟩
theorem ok_n {f fD:Addr}{fd fdD:FuncData}(F:Fun K "_law_n" "_law_n" sN f fd) (FD:Fun K "_law_draw" "_law_draw" zFH fD fdD) (bD:zAA K fdD ["_law_tape_here", "_law_many"] []) (mD:mg "_law_draw" = some (.ref fD)) (mLen:mg "len" = none) :
 zAi P w K mg base CX0 2 f fd ["_law_tape_here"] spN:=by
 have GD:zAi P w K mg base CX0 1 fD fdD ["_law_tape_here", "_law_many"] zIa:=zI5 FD mLen
 refine F.ok scN (fun vs H Q E h=>?_) (fun cdv A outer s H vs Q E hr h=>?_)
 . obtain⟨t,N,rfl,_⟩:=h
   rfl
 . obtain⟨t,N,rfl,T,hN,k⟩:=h
   obtain⟨es,q1,q2,j3,q3,q4,p1,p2,p3,hb,hes⟩:∃es q1 q2 j3 q3 q4 p1 p2 p3,defBody sN=[.Return (some (.Subscript (.List es p1) (.Call (.Name "_law_draw" q1) [.Name "_law_tape_here" q2,.Constant (.int 12) j3 q3] [] q4) p2)) p3] /\
    zDv es [1,2,3,4,5,6,7,8,6,5,4,12]:=⟨_,_,_,_,_,_,_,_,_,rfl,by repeat constructor⟩
   rw[hb]
   refine⟨_,zm (zAK (zAC zAx (zCN (zIx hes))
    (zp GD hr rfl mD FD.kp bD .nil zAX (zG (pv 0) (zG ze zO))) (fun _ _=>rfl))),?_⟩
   refine⟨by show 12<=sizeLine;decide,fun l hl=>?_⟩
   refine⟨_,rfl,t,N,12,rfl,T.laid hl,by omega,by decide,by decide,fun r H' h0 h1 T' he=>?_⟩
   have nlt:l≠t:=T.ne hl
   obtain⟨n,hn,ha⟩:=zGw (L:=[1,2,3,4,5,6,7,8,6,5,4,12]) h0 h1
   have hb:1<=n/\n<=12:=by
    have:∀m∈([1,2,3,4,5,6,7,8,6,5,4,12]:List Int),1<=m/\m<=12:=by decide
    exact this n hn
   refine⟨l,_,_,_,rfl,rfl,SqL.of (by rw[he l nlt];exact zJ),ha,?_⟩
   refine k n H' hb.1 hb.2 T' fun b o hb e=>?_
   rw[he b hb,zb (zl e hl)]
   exact e
end
section
variable {P:Program}{w:World}{K:PySem.W.Frag}{mg:Str->Option Value}{base:Heap}
structure WI (H:Hp)(t d la:Addr)(n:Int)(N m:Nat)(H2:Hp):Prop where
 sm:Sm t H H2
 tp:zAN H2 t N
 dc:∃kvs,H2 d=some (.dT kvs)/\JD n kvs/\kvs.length<=m
 lg:∃l0 l1 l2:Int,H2 la=some (.lst [.int l0,.int l1,.int l2])/\(∀l∈[l0,l1,l2],1<=l/\l<=99)
theorem WI.draw {H H2 H3:Hp}{t d la:Addr}{n:Int}{N m:Nat}(h:WI H t d la n N m H2)(hd:d≠t)(hl:la≠t)(T:zAN H3 t (N+1))(he:∀b,b≠t->H3 b=H2 b):WI H t d la n (N+1) m H3:=by
 refine⟨fun b o nb e=>by rw[he b nb];exact h.sm b o nb e,T,?_,?_⟩
 . rw[he d hd];exact h.dc
 . rw[he la hl];exact h.lg
theorem WI.laid {H H2:Hp}{t d la l:Addr}{n:Int}{N m:Nat}{o:HO}(h:WI H t d la n N m H2)(hl:H2 l=none):WI H t d la n N m (upd H2 l o):=by
 obtain⟨kvs,a,b⟩:=h.dc
 obtain⟨l0,l1,l2,c,e⟩:=h.lg
 exact⟨h.sm.trans (Sm.laid hl),h.tp.laid hl,⟨kvs,by rw[zb (zl a hl)];exact a,b⟩,⟨l0,l1,l2,by rw[zb (zl c hl)];exact c,e⟩⟩
theorem WI.put {H H2:Hp}{t d la:Addr}{n:Int}{N m:Nat}{kvs:List (List Key×V)}(h:WI H t d la n N m H2)(hd0:H d=none)(hd:H2 d=some (.dT kvs)){a b l:Int}(h0:0<=a)(h1:a<b)(h2:b<n)(h3:1<=l)(h4:l<=99) :
 WI H t d la n N (m+1) (upd H2 d (.dT (zDH kvs [Sum.inl a,Sum.inl b] (.int l)))):=by
 obtain⟨kvs',e,j,hm⟩:=h.dc
 rw[hd] at e
 cases e
 obtain⟨l0,l1,l2,c,e⟩:=h.lg
 refine⟨h.sm.chg hd0,h.tp.chg hd (by intro xs z;cases z),⟨_,zJ,j.put h0 h1 h2 h3 h4,?_⟩,⟨l0,l1,l2,by rw[zb (zB1 c hd (by intro z;cases z))];exact c,e⟩⟩
 have:=zCt kvs [Sum.inl a,Sum.inl b] (V.int l)
 omega
theorem WI.up {H H2:Hp}{t d la:Addr}{n:Int}{N m N' m':Nat}(h:WI H t d la n N m H2)(hN:N<=N')(hm:m<=m'):WI H t d la n N' m' H2:=by
 obtain⟨kvs,a,b,c⟩:=h.dc
 exact⟨h.sm,h.tp.mono hN,⟨kvs,a,b,by omega⟩,h.lg⟩
theorem at3 {l0 l1 l2 r:Int}(h:∀l∈[l0,l1,l2],1<=l/\l<=99)(h0:0<=r)(h1:r<3):∃l,atI [V.int l0,V.int l1,V.int l2] r=some (.int l)/\1<=l/\l<=99:=by
 obtain⟨l,hl,ha⟩:=zGw (L:=[l0,l1,l2]) h0 h1
 exact⟨l,ha,h l hl⟩
theorem zo {n:Nat}(h:n<=100000):n<sizeLine:=zAo h (by decide)
theorem zLP {n:Int}{kvs:List (List Key×V)}{ms:List (List Int)}(h:JD n kvs)(hp:ms.Perm (zEt kvs))(hl:kvs.length<64)(hn:1<=n)(hn2:n<=24){ts:List T3}(e:ts.map (fun t=>[t.1,t.2.1])=ms)(hr:∀t∈ts,0<=t.1/\t.1<t.2.1/\t.2.1<n/\1<=t.2.2/\t.2.2<=99):GW n ts:=by
 have hlen:ts.length=kvs.length:=by
  have:=hp.length_eq
  rw[<-e] at this
  simpa [zEt] using this
 refine⟨hn,hn2,by omega,hr,?_⟩
 have nd:(ts.map fun t:T3=>[t.1,t.2.1]).Nodup:=by rw[e];exact hp.nodup_iff.mpr h.nd
 rw[List.Nodup,zBC] at nd
 exact nd.imp fun hne hc=>hne (by rw[hc.1,hc.2])
theorem zGh:zAH ["_law_tape_here", "_law_n_here", "_law_longs", "_law_joined", "_law_b", "_law_k", "_law_a"] ["_law_tape_here", "_law_n_here"] (defScope sWeb):=⟨rfl,rfl,rfl,by decide +kernel,rfl,by decide +kernel,by decide +kernel⟩
theorem ok_web {f fD:Addr}{fd fdD:FuncData}(F:Fun K "_law_web" "_law_web" sWeb f fd) (FD:Fun K "_law_draw" "_law_draw" zFH fD fdD) (bD:zAA K fdD ["_law_tape_here", "_law_many"] []) (mD:mg "_law_draw" = some (.ref fD)) (mLen:mg "len" = none)
 (mRange:mg "range" = none) (mTuple:mg "tuple" = none) (mSorted:mg "sorted" = none):zAi P w K mg base CX0 2 f fd ["_law_tape_here", "_law_n_here"] spWeb:=by
 have GD:zAi P w K mg base CX0 1 fD fdD ["_law_tape_here", "_law_many"] zIa:=zI5 FD mLen
 refine F.ok zGh (fun vs H Q E h=>?_) (fun cdv A outer s H vs Q E hr h=>?_)
 . obtain⟨t,N,n,rfl,_⟩:=h
   rfl
 . obtain⟨t,N,n,rfl,T,hN,hn1,hn2,k⟩:=h
   have hu:=zGz hr
   obtain⟨es,q0,q1,q2,j3,q3,q4,p1,p2,p3,hbd,hes⟩:∃es q0 q1 q2 j3 q3 q4 p1 p2 p3,defBody sWeb = .Assign [.Name "_law_longs" q0] (.Subscript (.List es p1) (.Call (.Name "_law_draw" q1) [.Name "_law_tape_here" q2,.Constant (.int 4) j3 q3] [] q4) p2) p3::(defBody sWeb).drop 1 /\
    zDn es [[1,1,1],[1,2,1],[1,2,3],[5,99,7]]:=⟨_,_,_,_,_,_,_,_,_,_,rfl,.cons (.cons (.cons (.cons .nil))) (by show 3<=sizeLine;decide) (.cons (.cons (.cons (.cons .nil))) (by show 3<=sizeLine;decide) (.cons (.cons (.cons (.cons .nil))) (by show 3<=sizeLine;decide) (.cons (.cons (.cons (.cons .nil))) (by show 3<=sizeLine;decide) (.nil))))⟩
   rw[hbd]
   refine⟨_,zV (zAW (i:=2) zGh.nd rfl (Or.inl rfl) (zAC zAx (zCN (zKT hes))
    (zp GD hr rfl mD FD.kp bD .nil zAX (zG (pv 0) (zCd zO))) (fun _ _=>rfl)))
    (zV (zAW (i:=3) zGh.nd rfl (Or.inr rfl) zKR)
    (zV (zBr (zAG zFN (zp GD hr rfl mD FD.kp bD .nil zAX (zG (pv 0) (zCd zO))) ze (zAZ _))
     (zm (zCc PassesOwn.never rfl (zFx rfl mRange (zCd (zG (pv 1) zO))) (zAI (i:=4) zGh.nd rfl (Or.inl rfl))
      (zm (zFL hu (pv 3) (zBk (zG (zp GD hr rfl mD FD.kp bD .nil zAX (zG (pv 0) (zG (pv 4) zO))) (zG (pv 4) zO)))
       (zAC zAx (pv 2) (zp GD hr rfl mD FD.kp bD .nil zAX (zG (pv 0) (zCd zO))) (fun _ _=>rfl)) rfl)))) zAh)
    (zV (zCc PassesOwn.never rfl (zBJ rfl mRange (zG (zp GD hr rfl mD FD.kp bD .nil zAX (zG (pv 0) (zG (zBD zCe (zBD zCe ze (pv 1)) (zBD zFO (pv 1) ze)) zO))) zO)) (zAI (i:=5) zGh.nd rfl (Or.inl rfl))
     (zV (zAW (i:=6) zGh.nd rfl (Or.inl rfl) (zp GD hr rfl mD FD.kp bD .nil zAX (zG (pv 0) (zG (pv 1) zO))))
     (zV (zAW (i:=4) zGh.nd rfl (Or.inl rfl) (zp GD hr rfl mD FD.kp bD .nil zAX (zG (pv 0) (zG (pv 1) zO))))
     (zm (zBr (zAG zIz (pv 6) (pv 4) (zAZ _)) (zm (zFL hu (pv 3) (zBk (zG (pv 6) (zG (pv 4) zO)))
      (zAC zAx (pv 2) (zp GD hr rfl mD FD.kp bD .nil zAX (zG (pv 0) (zCd zO))) (fun _ _=>rfl)) rfl)) zAh)))))
    (zm (zAK (zBk (zG (pv 1) (zG (zAu zAe (by rfl) mTuple (by decide +kernel) (zG
     (zBK (own:=["_law_pair"]) (cn:=["_law_joined"]) (ci:=[3]) rfl (csc rfl rfl) ⟨rfl,rfl,rfl,trivial⟩ rfl
      (zC1 (zAD (zGQ rfl) (by rfl) mSorted (by decide +kernel) (zG (pv 3) zO))) (fun _ _ _ _=>zAI (i:=0) (zCK rfl) rfl (Or.inl rfl)) (fun _ _ _ _=>zBv)
      (fun _ _ _ _=>zBk (zG (zAC zCB (pv 0) ze (fun _ _=>rfl)) (zG (zAC zCB (pv 0) ze (fun _ _=>rfl)) (zG (zLo hu (pv 1) (pv 0) (fun _ _=>rfl)) zO))))) zO)) zO)))))))),?_⟩
   intro a1 e1 a2 e2 a3 e3 a4 e4
   refine⟨by show 4<=sizeLine;decide,fun al el=>?_⟩
   have T5:=((((T.laid (o:=.lst [.int 1,.int 1,.int 1]) e1).laid (o:=.lst [.int 1,.int 2,.int 1]) e2).laid (o:=.lst [.int 1,.int 2,.int 3]) e3).laid (o:=.lst [.int 5,.int 99,.int 7]) e4).laid (o:=.lst [.ref a1,.ref a2,.ref a3,.ref a4]) el
   refine⟨_,rfl,t,N,4,rfl,T5,by omega,by decide,by decide,fun r H1 h0 h1 T1 he1=>?_⟩
   have nel:al≠t:=((((T.laid (o:=.lst [.int 1,.int 1,.int 1]) e1).laid (o:=.lst [.int 1,.int 2,.int 1]) e2).laid (o:=.lst [.int 1,.int 2,.int 3]) e3).laid (o:=.lst [.int 5,.int 99,.int 7]) e4).ne el
   obtain⟨la,l0,l1,l2,hat,hla,hb,nla⟩:∃(la:Addr)(l0 l1 l2:Int),atI [V.ref a1,V.ref a2,V.ref a3,V.ref a4] r=some (.ref la)/\H1 la=some (.lst [.int l0,.int l1,.int l2])/\(∀l∈[l0,l1,l2],1<=l/\l<=99)/\la≠t:=by
    have n1:a1≠t:=T.ne e1
    have n2:a2≠t:=(T.laid (o:=.lst [.int 1,.int 1,.int 1]) e1).ne e2
    have n3:a3≠t:=((T.laid (o:=.lst [.int 1,.int 1,.int 1]) e1).laid (o:=.lst [.int 1,.int 2,.int 1]) e2).ne e3
    have n4:a4≠t:=(((T.laid (o:=.lst [.int 1,.int 1,.int 1]) e1).laid (o:=.lst [.int 1,.int 2,.int 1]) e2).laid (o:=.lst [.int 1,.int 2,.int 3]) e3).ne e4
    have g1:H1 a1=some (.lst [.int 1,.int 1,.int 1]):=by rw[he1 a1 n1];exact zI el _ _ (zI e4 _ _ (zI e3 _ _ (zI e2 _ _ zJ)))
    have g2:H1 a2=some (.lst [.int 1,.int 2,.int 1]):=by rw[he1 a2 n2];exact zI el _ _ (zI e4 _ _ (zI e3 _ _ zJ))
    have g3:H1 a3=some (.lst [.int 1,.int 2,.int 3]):=by rw[he1 a3 n3];exact zI el _ _ (zI e4 _ _ zJ)
    have g4:H1 a4=some (.lst [.int 5,.int 99,.int 7]):=by rw[he1 a4 n4];exact zI el _ _ zJ
    have hr4:r=0\/r=1\/r=2\/r=3:=by omega
    rcases hr4 with rfl | rfl | rfl | rfl
    . exact⟨a1,1,1,1,rfl,g1,by decide,n1⟩
    . exact⟨a2,1,2,1,rfl,g2,by decide,n2⟩
    . exact⟨a3,1,2,3,rfl,g3,by decide,n3⟩
    . exact⟨a4,5,99,7,rfl,g4,by decide,n4⟩
   refine⟨al,_,_,_,rfl,rfl,SqL.of (by rw[he1 al nel];exact zJ),hat,?_⟩
   have sm1:Sm t H H1:=fun b o nb e=>by
    rw[he1 b nb]
    exact zI el _ _ (zI e4 _ _ (zI e3 _ _ (zI e2 _ _ (zI e1 _ _ e))))
   intro d hd
   have nd:d≠t:=T1.ne hd
   have hd0:H d=none:=by
    cases q:H d with
    | none=>rfl
    | some o=>have:=sm1 d o nd q;rw[hd] at this;cases this
   have W0:WI H t d la n (N+1) 0 (upd H1 d (.dT [])):=⟨sm1.chg hd0,T1.laid hd,⟨[],zJ,JD.nil n,zH _⟩,⟨l0,l1,l2,by rw[zb (zl hla hd)];exact hla,hb⟩⟩
   refine⟨_,rfl,t,N+1,3,rfl,W0.tp,by omega,by decide,by decide,fun r1 H2 _ _ T2 he2=>?_⟩
   have W2:=W0.draw nd nla T2 he2
   refine⟨_,_,rfl,rfl,_,rfl,?_⟩
   refine zD9 (fun _=>?a) (fun _=>?b)
   case' a=>
    refine⟨_,rfl,1,n,rfl,⟨by decide,by decide,by omega,by omega⟩,zCl (lo:=1) (n:=(n-1).toNat) (fun i σ H3=>∃vb:Option V,σ=[some (.ref t),some (.int n),some (.ref la),some (.ref d),vb,none,none]/\WI H t d la n (N+2+2*i) i H3) ⟨none,rfl,W2⟩ ?turn ?after⟩
    case turn=>
     rintro i σ H3 hi ⟨vb,rfl,W⟩
     obtain⟨m0,m1,m2,hm,hmb⟩:=W.lg
     refine⟨_,rfl,_,rfl,t,N+2+2*i,3,rfl,W.tp,by omega,by decide,by decide,fun r3 H4 g0 g1 T4 he4=>?_⟩
     have W4:=W.draw nd nla T4 he4
     obtain⟨lg,hlg,hg1,hg2⟩:=at3 hmb g0 g1
     refine⟨la,_,_,_,rfl,rfl,SqL.of (by rw[he4 la nla];exact hm),hlg,?_⟩
     refine⟨_,rfl,_,rfl,_,rfl,t,N+2+2*i+1,1+i,rfl,W4.tp,by omega,by omega,by omega,fun r5 H5 q0 q1 T5 he5=>?_⟩
     have W5:=W4.draw nd nla T5 he5
     refine⟨_,rfl,by show 2<=sizeLine;decide,fun p hp=>?_⟩
     have W6:=W5.laid (o:=.tup [.int r5,.int (1+i)]) hp
     obtain⟨kvs,hk,J,hkl⟩:=W6.dc
     refine⟨d,_,rfl,zKs.t (k:=[Sum.inl r5,Sum.inl (1+(i:Int))]) hk zJ (zo (by omega)),?_⟩
     exact⟨_,rfl,(W6.put hd0 hk q0 q1 (by omega) hg1 hg2).up (by omega) (by omega)⟩
    case' after=>
     rintro σ H3 ⟨vb,rfl,W⟩
     have W3:WI H t d la n (N+50) 23 H3:=W.up (by omega) (by omega)
   case' b=>
    have W3:WI H t d la n (N+50) 23 H2:=W2.up (by omega) (by omega)
   all_goals
    refine⟨_,rfl,_,rfl,_,_,rfl,rfl,_,rfl,_,_,rfl,rfl,⟨by decide,by decide⟩,_,_,rfl,rfl,t,N+50,_,rfl,W3.tp,by omega,by omega,by omega,fun r4 H4 p0 p1 T4 he4=>?_⟩
    have W4:=W3.draw nd nla T4 he4
    refine⟨r4,rfl,by omega,by omega,zCl (lo:=0) (n:=r4.toNat) (fun i σ H5=>∃vb vk va:Option V,σ=[some (.ref t),some (.int n),some (.ref la),some (.ref d),vb,vk,va]/\WI H t d la n (N+51+3*i) (23+i) H5) ⟨_,_,_,rfl,W4⟩ ?turn2 ?after2⟩
    case turn2=>
     rintro i σ H5 hi ⟨vb,vk,va,rfl,W⟩
     refine⟨_,rfl,_,rfl,t,N+51+3*i,n,rfl,W.tp,by omega,by omega,by omega,fun a H6 a0 a1 T6 he6=>?_⟩
     have W6:=W.draw nd nla T6 he6
     refine⟨_,rfl,_,rfl,t,N+51+3*i+1,n,rfl,W6.tp,by omega,by omega,by omega,fun b H7 b0 b1 T7 he7=>?_⟩
     have W7:=W6.draw nd nla T7 he7
     refine⟨_,rfl,_,rfl,_,_,rfl,rfl,_,rfl,?_⟩
     refine zD9 (fun hc=>?_) (fun hc=>?_)
     . have hab:a<b:=of_decide_eq_true hc
       obtain⟨m0,m1,m2,hm,hmb⟩:=W7.lg
       refine⟨_,rfl,_,rfl,t,N+51+3*i+1+1,3,rfl,W7.tp,by omega,by decide,by decide,fun r3 H8 g0 g1 T8 he8=>?_⟩
       have W8:=W7.draw nd nla T8 he8
       obtain⟨lg,hlg,hg1,hg2⟩:=at3 hmb g0 g1
       refine⟨la,_,_,_,rfl,rfl,SqL.of (by rw[he8 la nla];exact hm),hlg,?_⟩
       refine⟨_,rfl,_,rfl,_,rfl,by show 2<=sizeLine;decide,fun p hp=>?_⟩
       have W9:=W8.laid (o:=.tup [.int a,.int b]) hp
       obtain⟨kvs,hk,J,hkl⟩:=W9.dc
       refine⟨d,_,rfl,zKs.t (k:=[Sum.inl a,Sum.inl b]) hk zJ (zo (by omega)),?_⟩
       exact⟨_,_,_,rfl,(W9.put hd0 hk a0 hab b1 hg1 hg2).up (by omega) (by omega)⟩
     . exact⟨_,_,_,rfl,W7.up (by omega) (by omega)⟩
    case after2=>
     rintro σ H5 ⟨vb,vk,va,rfl,W⟩
     obtain⟨kvs,hk,J,hkl⟩:=W.dc
     have hk64:kvs.length<64:=by omega
     refine⟨_,rfl,_,rfl,d,kvs,zEt kvs,rfl,hk,J.keys,J.ne,by rw[zEt,zD];exact hk64,fun l zs ms hl TA hp _=>?_⟩
     refine⟨l,rfl,⟨_,SqL.of zJ⟩,[.ref d],rfl,fun D hD=>?_⟩
     have hlz:=TA.length
     have hlm:ms.length=kvs.length:=by rw[hp.length_eq,zEt,zD]
     have nlD:l≠D:=fun e=>by rw[<-e,zJ] at hD;cases hD
     have hk1:(upd H5 l (.lst zs)) d=some (.dT kvs):=zI hl _ _ hk
     have hD5:H5 D=none:=by rw[zb nlD.symm] at hD;exact hD
     refine zCX (a:=l) (xs:=zs) (fun i ys H6=>∃ts:List T3,ts.length=i/\ts.map (fun t:T3=>[t.1,t.2.1])=ms.take i/\(∀t∈ts,0<=t.1/\t.1<t.2.1/\t.2.1<n/\1<=t.2.2/\t.2.2<=99)/\H6 D=some (.lst ys)/\zAk H6 ys (ts.map tl)/\zA0 (upd H5 l (.lst zs)) H6)
      ⟨[],rfl,rfl,fun _ h=>by simp at h,zJ,trivial,zI hD⟩ (fun i ys H6 h=>?_) (fun i ys H6 h=>?_) (fun i x ys H6 hx h=>?_) (fun ys H6 h=>?_)
     . obtain⟨_,_,_,_,_,_,s6⟩:=h
       exact SqL.of (s6 _ _ zJ)
     . obtain⟨ts,e1,e2,_,_,T6,_⟩:=h
       have e3:=T6.length
       rw[zD] at e3
       have e4:=congrArg List.length e2
       rw[zD,zt] at e4
       exact zo (by omega)
     . obtain⟨ts,e1,e2,hts,hD6,T6,s6⟩:=h
       obtain⟨pa,kx,ex,hkx,hpa,_⟩:=TA.get hx
       subst ex
       have hpa6:H6 pa=some (.tup (kx.map V.int)):=s6 _ _ (zI hl _ _ hpa)
       obtain⟨a,b,lg,ek,hv,a0,ab,bn,lg1,lg2⟩:=J.val (hp.mem_iff.mp (zW hkx))
       subst ek
       refine⟨⟨rfl,rfl⟩,?_⟩
       refine zGc ?_
       refine⟨_,rfl,pa,_,_,_,rfl,rfl,SqT.of hpa6,rfl,_,rfl,pa,_,_,_,rfl,rfl,SqT.of hpa6,rfl,_,rfl,_,rfl,d,_,rfl,hv ▸ zG9.t (k:=[Sum.inl a,Sum.inl b]) (s6 _ _ hk1) hpa6,by show 3<=sizeLine;decide,fun p hp6=>?_⟩
       have nDp:D≠p:=zl hD6 hp6
       refine⟨by rw[zb nDp];exact hD6,ts++[(a,b,lg)],by rw[zC,e1];rfl,?_,?_,zJ,?_,?_⟩
       . rw[zX,e2,zAF,hkx];rfl
       . intro t ht
         rcases zK.mp ht with q | q
         . exact hts t q
         . rw[zn.mp q];exact⟨a0,ab,bn,lg1,lg2⟩
       . rw[zX]
         refine (T6.keep fun c xs e=>?_).snoc ⟨p,rfl,by rw[zb nDp.symm,zJ];rfl,by simp[tl]⟩
         rw[zb (zB1 e hD6 (by intro z;cases z)),zb (zl e hp6)]
         exact e
       . exact zAz (s6.trans (zI hp6)) hD
     . obtain⟨ts,e1,e2,hts,hD6,T6,s6⟩:=h
       refine⟨D,ys,rfl,.inl ⟨SqL.of hD6,fun ta hta=>?_⟩⟩
       refine⟨by show 2<=sizeLine;decide,fun wa hwa=>?_⟩
       rw[hlz,za (zH _)] at e2
       have G:GW n ts:=zLP J hp hk64 hn1 hn2 e2 hts
       have nwt:wa≠ta:=fun e=>by rw[e,zJ] at hwa;cases hwa
       have h6wa:H6 wa=none:=by rw[zb nwt] at hwa;exact hwa
       have s7:zA0 H6 (upd (upd H6 ta (.tup ys)) wa (.tup [.int n,.ref ta])):=zAz (zI hta) h6wa
       have T7:zAN (upd (upd H6 ta (.tup ys)) wa (.tup [.int n,.ref ta])) t (N+200):=((W.tp.mono (by omega)).keep ((zI hl).trans (s6.trans s7)))
       have nwa:wa≠t:=((W.tp.keep ((zI hl).trans s6)).ne h6wa)
       have sm7:Sm t H (upd (upd H6 ta (.tup ys)) wa (.tup [.int n,.ref ta])):=W.sm.trans (Sm.of ((zI hl).trans (s6.trans s7)))
       refine k wa ts _ ?_ ⟨ta,ys,zJ,by rw[zb nwt.symm,zJ],T6.keep fun c xs e=>s7 _ _ e,G⟩ T7 sm7
       cases q:H wa with
       | none=>rfl
       | some o=>
        have:=(W.sm.trans (Sm.of ((zI hl).trans s6))) wa o nwa q
        rw[h6wa] at this;cases this
end
end K40
namespace K40
open PySem L2 WM
theorem ifT {c:Bool}{p q:Prop}(h:c=true)(hp:p):(if c=true then p else q):=by rw[if_pos h];exact hp
theorem ifF {c:Bool}{p q:Prop}(h:c=false)(hq:q):(if c=true then p else q):=by rw[if_neg (by simp[h])];exact hq
noncomputable def zIV:Sp:=fun vs H Q _=>∃(wa:Addr)(n:Int)(ts:List T3)(p:Int),vs=[.ref wa,.int p]/\zB3 H wa n ts /\
 ∀(l:Addr)(zs:List V)(ms:List (List Int))(H':Hp),zA0 H H'->H l=none->H' l=some (.lst zs)->zAk H' zs ms->ms.Perm (fd p ts)->zJv ms->Q (.ref l) H'
section
variable {P:Program}{w:World}{K:PySem.W.Frag}{mg:Str->Option Value}{base:Heap}
theorem zFo:zAH ["web", "place", "found", "a", "b", "long"] ["web", "place"] (defScope zGk):=⟨rfl,rfl,rfl,by decide +kernel,rfl,by decide +kernel,by decide +kernel⟩
theorem zI3 {f:Addr}{fd':FuncData}(F:Fun K "ties_at" "ties_at" zGk f fd') (mSorted:mg "sorted" = none):zAi P w K mg base CX0 1 f fd' ["web", "place"] zIV:=by
 refine F.ok zFo (fun vs H Q E h=>?_) (fun cdv A outer s H vs Q E hr h=>?_)
 . obtain⟨wa,n,ts,p,rfl,_⟩:=h
   rfl
 . obtain⟨wa,n,ts,p,rfl,⟨ta,tys,hwa,hta,TA,G⟩,k⟩:=h
   refine⟨_,zV (zAW (i:=2) zFo.nd rfl (Or.inl rfl) (zCN zO))
    (zV (zCc PassesOwn.never rfl (zCM (zAC zAE (pv 0) ze (fun _ _=>rfl))) (zFy rfl (zBs (zAI (i:=3) zFo.nd rfl (Or.inl rfl)) (zBs (zAI (i:=4) zFo.nd rfl (Or.inl rfl)) (zBs (zAI (i:=5) zFo.nd rfl (Or.inl rfl)) zEH))))
     (zV (zBr (zAG zDC (pv 3) (pv 1) (zAZ _)) (zm (zCS (zF0 PySem.F.plainAttrs_list PySem.F.slot_list_append PySem.F.type_list_append zCU (pv 2) (zG (zBk (zG (pv 4) (zG (pv 5) zO))) zO)))) zAh)
     (zm (zBr (zAG zDC (pv 4) (pv 1) (zAZ _)) (zm (zCS (zF0 PySem.F.plainAttrs_list PySem.F.slot_list_append PySem.F.type_list_append zCU (pv 2) (zG (zBk (zG (pv 3) (zG (pv 5) zO))) zO)))) zAh))))
    (zm (zAK (zAD zG4 (by rfl) mSorted (by decide +kernel) (zG (pv 2) zO))))),?_⟩
   refine⟨zi _,fun l hl=>?_⟩
   have hwl:wa≠l:=zl hwa hl
   have htl:ta≠l:=zl hta hl
   have hlt:tys.length=ts.length:=by rw[TA.length,zD]
   refine⟨_,rfl,wa,_,_,_,rfl,rfl,SqT.of (by rw[zb hwl];exact hwa),rfl,ta,rfl,⟨_,SqT.of (by rw[zb htl];exact hta)⟩,zDL (K:=K) (a:=ta) (xs:=tys)
    (fun i σ H2=>∃(va vb vl:Option V)(xs:List V),σ=[some (.ref wa),some (.int p),some (.ref l),va,vb,vl]/\zA0 H H2/\H2 l=some (.lst xs)/\zAk H2 xs (fd p (ts.take i)))
    ⟨none,none,none,[],rfl,zI hl,zJ,trivial⟩ (fun i σ H2 _ ⟨_,_,_,_,_,s2,_⟩=>SqT.of (s2 _ _ hta)) ?turn ?after⟩
   case turn=>
    rintro i y σ H2 hi ⟨va,vb,vl,xs,rfl,s2,hl2,T2⟩
    obtain⟨ya,ky,rfl,hky,hya,_⟩:=TA.get hi
    rw[zQ] at hky
    obtain⟨⟨a,b,c⟩,hti,rfl⟩:∃t:T3,ts[i]? = some t/\tl t=ky:=by
     cases e:ts[i]? with
     | none=>rw[e] at hky;cases hky
     | some t=>rw[e] at hky;exact⟨t,rfl,zf hky⟩
    have hil:i<ts.length:=(zL.mp hti).1
    have hlen:∀{xs':List V}{H3:Hp},zAk H3 xs' (fd p (ts.take i))->xs'.length<sizeLine:=fun T=>by
     have e1:=T.length
     have e2:=zGH (n:=n) p (ts:=ts.take i) fun t ht=>(G.rng t (List.mem_of_mem_take ht)).2.1
     rw[zt] at e2
     exact zo (by have:=G.len;omega)
    have hfd:fd p (ts.take (i+1))=fd p (ts.take i)++((if a=p then [[b,c]] else [])++(if b=p then [[a,c]] else [])):=by
     rw[zAF,hti,zEd]
     show _++((if a=p then [[b,c]] else [])++(if b=p then [[a,c]] else [])++[])=_
     rw[zq]
    have hab:a<b:=(G.rng _ (zW hti)).2.1
    refine⟨ya,_,rfl,SqT.of (s2 _ _ hya),rfl,_,_,rfl,_,_,rfl,_,_,rfl,rfl,?_⟩
    have app:∀{x:Int},∀q,H2 q=none->∃xs',(upd (upd H2 q (.tup [.int x,.int c])) l (.lst (xs++[.ref q]))) l=some (.lst xs')/\zA0 H (upd (upd H2 q (.tup [.int x,.int c])) l (.lst (xs++[.ref q])))/\zAk (upd (upd H2 q (.tup [.int x,.int c])) l (.lst (xs++[.ref q]))) xs' (fd p (ts.take i)++[[x,c]]):=by
     intro x q hq
     have nlq:l≠q:=zl hl2 hq
     refine⟨_,zJ,zAz (s2.trans (zI hq)) hl,(T2.keep fun e ys he=>?_).snoc ⟨q,rfl,by rw[zb nlq.symm,zJ];rfl,by simp⟩⟩
     rw[zb (zB1 he hl2 (by intro z;cases z)),zb (zl he hq)]
     exact he
    refine⟨_,rfl,_,rfl,rfl,_,rfl,?_⟩
    refine zD9 (fun h1=>?_) (fun h1=>?_)
    . have e1:a=p:=by have:=of_decide_eq_true h1;injection this
      have n2:¬ b=p:=by omega
      refine⟨_,rfl,.inl ⟨rfl,_,SqL.of hl2⟩,_,rfl,_,rfl,by show 2<=sizeLine;decide,fun q hq=>?_⟩
      have nlq:l≠q:=zl hl2 hq
      refine⟨l,_,_,rfl,rfl,by rw[zb nlq];exact hl2,hlen T2,?_⟩
      refine⟨_,rfl,_,rfl,rfl,_,rfl,?_⟩
      rw[show decide (V.int b=V.int p)=false from zZ fun e=>n2 (by injection e)]
      refine zCm ?_
      obtain⟨xs',g1,g2,g3⟩:=app (x:=b) q hq
      refine⟨_,_,_,xs',rfl,g2,g1,?_⟩
      rw[hfd,if_pos e1,if_neg n2]
      exact g3
    . have n1:¬ a=p:=fun e=>by
       have:=h1
       rw[e] at this
       exact this (zP rfl)
      refine⟨_,rfl,_,rfl,rfl,_,rfl,?_⟩
      refine zD9 (fun h2=>?_) (fun h2=>?_)
      . have e2:b=p:=by have:=of_decide_eq_true h2;injection this
        refine⟨_,rfl,.inl ⟨rfl,_,SqL.of hl2⟩,_,rfl,_,rfl,by show 2<=sizeLine;decide,fun q hq=>?_⟩
        have nlq:l≠q:=zl hl2 hq
        refine⟨l,_,_,rfl,rfl,by rw[zb nlq];exact hl2,hlen T2,?_⟩
        obtain⟨xs',g1,g2,g3⟩:=app (x:=a) q hq
        refine⟨_,_,_,xs',rfl,g2,g1,?_⟩
        rw[hfd,if_neg n1,if_pos e2]
        exact g3
      . have n2:¬ b=p:=fun e=>by
         have:=h2
         rw[e] at this
         exact this (zP rfl)
        refine⟨_,_,_,xs,rfl,s2,hl2,?_⟩
        rw[hfd,if_neg n1,if_neg n2,zq,zq]
        exact T2
   case after=>
    rintro σ H2 ⟨va,vb,vl,xs,rfl,s2,hl2,T2⟩
    rw[hlt,za (zH _)] at T2
    have e2:=zGH (n:=n) p (ts:=ts) fun t ht=>(G.rng t ht).2.1
    refine⟨_,rfl,l,xs,fd p ts,rfl,SqL.of hl2,T2,by have:=G.len;omega,fun l' zs ms hl' T3 hp hrs=>?_⟩
    have nll:l'≠l:=fun e=>by rw[e,hl2] at hl';cases hl'
    have hl0:H l'=none:=by
     cases q:H l' with
     | none=>rfl
     | some o=>have:=s2 l' o q;rw[hl'] at this;cases this
    exact k l' zs ms _ (s2.trans (zI hl')) hl0 zJ (T3.keep fun e ys he=>zI hl' _ _ he) hp hrs
end
theorem zH9 {ms:List (List Int)}(h:zJv ms)(hk:∀k∈ms,∃y l,k=[y,l])(hn:(ms.map hd).Nodup):(ms.map hd).Pairwise (· < ·):=by
 rw[zBC]
 rw[List.Nodup,zBC] at hn
 have both:ms.Pairwise fun a b=>HT.lexLt b a=false/\hd a≠hd b:=by
  rw[zu]
  intro i j hi hj hij
  exact⟨zu.mp h i j hi hj hij,zu.mp hn i j hi hj hij⟩
 refine both.imp_of_mem fun {a b} ha hb hab=>?_
 obtain⟨y,l,rfl⟩:=hk a ha
 obtain⟨z,m,rfl⟩:=hk b hb
 obtain⟨h1,h2⟩:=hab
 have h2':y≠z:=h2
 rw[HT.lexLt_cons,if_neg (Ne.symm h2')] at h1
 have:=of_decide_eq_false h1
 show y<z
 omega
theorem zMG (a b:Int):eqV (.int a) (.int b)=(a==b):=rfl
theorem zB0 {z:Int}:∀{l:List Int},inV (.int z) (l.map V.int)=decide (z∈l)
 | []=>rfl
 | x::r=>by
  show (eqV (.int x) (.int z) || inV (.int z) (r.map V.int))=_
  rw[zB0 (l:=r),zMG]
  by_cases h:x=z
  . subst h;simp
  . have h':(x==z)=false:=by simpa using h
    rw[h',Bool.false_or]
    simp[Ne.symm h]
theorem zBZ:∀(l:List Int),(l.map V.int).all zFW=true
 | []=>rfl
 | _::r=>by rw[zAV,List.all_cons,zBZ r];rfl
theorem zHd {i j:Int}:decide (V.int i=V.int j)=decide (i=j):=by
 by_cases h:i=j
 . subst h;simp
 . rw[zZ h,zZ fun e=>h (by injection e)]
end K40
namespace K40
open PySem L2 WM
noncomputable def lamP:Pos:=⟨101,36,101,64⟩
noncomputable abbrev lamQ:Str:=(("nearest" : Str) ++ ".<locals>.") ++ "<lambda>"
noncomputable abbrev Tb (H:Hp)(PT:Addr):Prop:=zDE H PT lamP lamQ
noncomputable def zKy (PT:Addr):Sp:=fun vs H Q _=>∃(d:Addr)(n:Int)(kvs:List (Key×V))(wt:Int->Option Int),vs=[.ref d]/\H d=some (.dK kvs)/\WD n kvs wt/\0<=n/\n<=24/\kvs≠[]/\Tb H PT /\
 ∀(M e:Int)(H':Hp),wt M=some e->(∀q f,wt q=some f->e<=f)->SmT H H'->Tb H' PT->Q (.int M) H'
noncomputable def zIZ (PT:Addr):Sp:=fun vs H Q _=>∃(wa:Addr)(n:Int)(ts:List T3)(s:Int),vs=[.ref wa,.int s]/\zB3 H wa n ts/\0<=s/\s<n/\Tb H PT /\
 ∀(l:Addr)(kn:List (Option Int))(H':Hp),SmT H H'->Tb H' PT->H' l=some (.tup (kn.map oV))->zKo ts n s kn->Q (.ref l) H'
theorem zB3.smT {H H':Hp}{wa:Addr}{n:Int}{ts:List T3}(h:zB3 H wa n ts)(k:SmT H H'):zB3 H' wa n ts:=h.keepT fun b ys e=>by
 rcases k b _ e with ⟨ps,z⟩ | z
 . cases z
 . exact z
section
variable {P:Program}{w:World}{K:PySem.W.Frag}{mg:Str->Option Value}{base:Heap}{PT:Addr}
theorem scNear:zAH ["waiting"] ["waiting"] (defScope zIk):=⟨rfl,rfl,rfl,by decide +kernel,rfl,by decide +kernel,by decide +kernel⟩
theorem zLu {f c:Addr}{fd':FuncData}(F:zKq K "nearest" "nearest" zIk f fd' c) (C:PySem.W.CodeHd base c PT)(hbm:zJy mg base)(mMin:mg "min" = none) (mSorted:mg "sorted" = none):zAi P w K mg base CX0 2 f fd' ["waiting"] (zKy PT):=by
 refine F.ok scNear (fun vs H Q E h=>?_) (fun A outer s H vs Q E hr h=>?_)
 . obtain⟨d,n,kvs,wt,rfl,_⟩:=h
   rfl
 . obtain⟨d,n,kvs,wt,rfl,hd,W,hn0,hn,hne,T,k⟩:=h
   refine⟨_,zm (zAK (zIv (k:=0) (j:=0) (P:=PT) (c:=c) (dn := "waiting") (pn := "place") rfl hr rfl mMin (zG (zAD (zGP rfl) (by rfl) mSorted (by decide +kernel) (zG (pv 0) zO)) zO) rfl C hbm rfl rfl rfl rfl rfl (by decide +kernel) (zMC rfl) rfl rfl rfl (fun _ _ _ _ _ _ _=>rfl))),?_⟩
   have hl:=W.len hn0
   refine⟨_,rfl,d,kvs,zEs kvs,rfl,hd,W.keys,by unfold zEs;rw[zD];omega,fun l ms hl' hp _=>?_⟩
   have mem:∀x,x∈ms->∃e,wt x=some e:=fun x hx=>W.mem.mp (hp.mem_iff.mp hx)
   refine⟨l,d,ms,kvs,fun x=>(wt x).getD 0,rfl,zJ,fun e=>?_,rfl,by rw[zb (zl hd hl')];exact hd,fun x hx=>?_,T.same (zI hl'),fun M H2 hM hb sm T2=>?_⟩
   . subst e
     have:=hp.length_eq
     unfold zEs at this
     rw[zD] at this
     exact hne (List.eq_nil_of_length_eq_zero this.symm)
   . obtain⟨e,he⟩:=mem x hx
     show zCQ kvs (Sum.inl x)=some (.int ((wt x).getD 0))
     rw[W.at_ x,he];rfl
   . obtain⟨e,he⟩:=mem M hM
     refine k M e H2 he (fun q f hq=>?_) ((SmT.of (zI hl')).trans sm) T2
     have hq':q∈ms:=hp.mem_iff.mpr (W.mem.mpr ⟨f,hq⟩)
     have:=hb q hq'
     simp only[he,hq,Option.getD_some] at this
     exact this
theorem zED:zAH ["web", "start", "known", "waiting", "place", "other", "long", "far"] ["web", "start"] (defScope zIn):=⟨rfl,rfl,rfl,by decide +kernel,rfl,by decide +kernel,by decide +kernel⟩
theorem zH0 {kn:List (Option Int)}{j:Nat}{o:Option Int}:(kn.map oV).set j (oV o)=(kn.set j o).map oV:=by rw[List.map_set]
theorem zF4 {o:Option Int}:decide (oV o=V.non)=o.isNone:=by
 cases o with
 | none=>rfl
 | some d=>exact zZ (by intro e;cases e)
theorem zLx {f fN fT c:Addr}{fd' fdN fdT:FuncData}(F:Fun K "lengths_from" "lengths_from" zIn f fd') (FN:zKq K "nearest" "nearest" zIk fN fdN c) (bN:zAA K fdN ["waiting"] []) (mN:mg "nearest" = some (.ref fN)) (FT:Fun K "ties_at" "ties_at" zGk fT fdT) (bT:zAA K fdT ["web", "place"] []) (mT:mg "ties_at" = some (.ref fT))
 (C:PySem.W.CodeHd base c PT)(hbm:zJy mg base)(mMin:mg "min" = none) (mSorted:mg "sorted" = none) (mTuple:mg "tuple" = none):zAi P w K mg base CX0 3 f fd' ["web", "start"] (zIZ PT):=by
 have GN:zAi P w K mg base CX0 2 fN fdN ["waiting"] (zKy PT):=zLu FN C hbm mMin mSorted
 have GT:zAi P w K mg base CX0 2 fT fdT ["web", "place"] zIV:=(zI3 FT mSorted).mono (by decide)
 refine F.ok zED (fun vs H Q E h=>?_) (fun cdv A outer s H vs Q E hr h=>?_)
 . obtain⟨wa,n,ts,st,rfl,_⟩:=h
   rfl
 . obtain⟨wa,n,ts,st,rfl,W,hs0,hs1,T,k⟩:=h
   obtain⟨ta,tys,hwa,_,_,G⟩:=id W
   have hu:=zGz hr
   have hn1:=G.n1
   have hn24:=G.n24
   refine⟨_,zV (zAW (i:=2) zED.nd rfl (Or.inl rfl) (zBD op_rep (zCN (zG zCT zO)) (zAC zAE (pv 0) ze (fun _ _=>rfl))))
    (zV (zAW (i:=3) zED.nd rfl (Or.inl rfl) (zGs (zD7 (pv 1) ze zGp) rfl rfl (by decide) (by decide)))
    (zV (zD6 PassesOwn.never (zKN (pv 3) (fun _=>rfl))
     (zV (zAW (i:=4) zED.nd rfl (Or.inl rfl) (zp GN hr rfl mN FN.kp bN .nil zAX (zG (pv 3) zO)))
     (zV (zHL (zKQ (pv 3) (pv 4) ⟨rfl,rfl,rfl,rfl⟩) (zHN (pv 2) (pv 4) zD4))
     (zm (zCc PassesOwn.never rfl (zC1 (zp GT hr rfl mT FT.kp bT .nil zAX (zG (pv 0) (zG (pv 4) zO)))) (zFy rfl (zBs (zAI (i:=5) zED.nd rfl (Or.inl rfl)) (zBs (zAI (i:=6) zED.nd rfl (Or.inl rfl)) zEH)))
      (zm (zBr (zAG zHR (zAC zAx (pv 2) (pv 5) (fun _ _=>rfl)) zCT (zAZ _))
       (zV (zAW (i:=7) zED.nd rfl (Or.inl rfl) (zBD zCe (zAC zAx (pv 2) (pv 4) (fun _ _=>rfl)) (pv 6)))
       (zm (zFL hu (pv 3) (pv 5) (zAD (zGT rfl) (by rfl) mMin (by decide +kernel) (zG (pv 7) (zG (zHP hu (pv 3) (pv 5) (pv 7) ⟨rfl,rfl,rfl,rfl⟩) zO))) rfl))) zAh)))))))
    (zm (zAK (zAu zAe (by rfl) mTuple (by decide +kernel) (zG (pv 2) zO)))))),?_⟩
   refine⟨by show 1<=sizeLine;decide,fun l0 hl0=>?_⟩
   refine⟨_,rfl,wa,_,_,_,rfl,rfl,SqT.of (zI hl0 _ _ hwa),rfl,l0,n,_,rfl,rfl,zJ,by omega,by omega,?_,fun kl hkl=>?_⟩
   . have:sizeLine=16777216:=rfl
     show 1*n.toNat<=sizeLine
     omega
   have s1:zA0 H (upd (upd H l0 (.lst [.non])) kl (.lst (List.replicate n.toNat [V.non]).flatten)):=(zI hl0).trans (zI hkl)
   have erep:(List.replicate n.toNat [V.non]).flatten=(List.replicate n.toNat (none:Option Int)).map oV:=by
    generalize n.toNat=m
    induction m with
    | zero=>rfl
    | succ m ih=>rw[zBV,zAc,ih,zBV];rfl
   rw[erep] at s1 ⊢
   have hk1:(upd (upd H l0 (.lst [.non])) kl (.lst ((List.replicate n.toNat (none:Option Int)).map oV))) kl=some (.lst ((List.replicate n.toNat (none:Option Int)).map oV)):=zJ
   generalize hH1:upd (upd H l0 (.lst [.non])) kl (.lst ((List.replicate n.toNat (none:Option Int)).map oV))=H1 at s1 hk1 ⊢
   intro wd hwd
   refine⟨_,rfl,zJ,[(Sum.inl st,.int 0)],rfl,by show 1<=15;decide,?_⟩
   have s2:zA0 H (upd (upd H1 wd (.dK [])) wd (.dK [(Sum.inl st,.int 0)])):=by rw[zB8];exact s1.trans (zI hwd)
   have nkw:kl≠wd:=zl hk1 hwd
   rw[show zCj [] [((Sum.inl st:Key),V.int 0)]=[((Sum.inl st:Key),V.int 0)] from rfl,zB8]
   rw[zB8] at s2
   refine⟨fun m σ H2=>∃(kn:List (Option Int))(kvs:List (Key×V))(wt:Int->Option Int)(v4 v5 v6 v7:Option V),σ=[some (.ref wa),some (.int st),some (.ref kl),some (.ref wd),v4,v5,v6,v7]/\m=n.toNat-cnt kn/\SmT H H2/\Tb H2 PT/\H2 kl=some (.lst (kn.map oV))/\H2 wd=some (.dK kvs)/\WD n kvs wt/\Dl ts n st kn wt,
    ⟨_,_,_,_,_,_,_,_,rfl,rfl,SmT.of s2,T.same s2,by rw[zb nkw];exact hk1,zJ,WD.one hs0 hs1,Dl.start G hs0 hs1⟩,?_⟩
   rintro m σ H2 ⟨kn,kvs,wt,v4,v5,v6,v7,rfl,rfl,sm,T2,hk2,hw2,WW,D⟩
   cases hkb:kvs.isEmpty with
   | true=>
    refine⟨_,rfl,false,.inr (.inr ⟨kvs,hw2,by rw[hkb];rfl⟩),?_⟩
    refine zCm ?_
    have hkv:kvs=[]:=List.isEmpty_iff.mp hkb
    have hnone:∀q,wt q=none:=fun q=>by
     cases e:wt q with
     | none=>rfl
     | some d=>
      have:=WW.mem.mpr ⟨d,e⟩
      rw[hkv] at this
      simp[zEs] at this
    refine⟨_,rfl,kl,_,rfl,.inl ⟨SqL.of hk2,fun q hq=>?_⟩⟩
    exact k q kn _ (sm.trans (SmT.of (zI hq))) (T2.same (zI hq)) zJ (D.done G hnone)
   | false=>
    refine⟨_,rfl,true,.inr (.inr ⟨kvs,hw2,by rw[hkb];rfl⟩),?_⟩
    refine zDb ?_
    have hne:kvs≠[]:=by intro e;rw[e] at hkb;cases hkb
    refine⟨fun σ' H'=>∃(kn':List (Option Int))(kvs':List (Key×V))(wt':Int->Option Int)(v4 v5 v6 v7:Option V),σ'=[some (.ref wa),some (.int st),some (.ref kl),some (.ref wd),v4,v5,v6,v7]/\cnt kn'=cnt kn+1/\SmT H H'/\Tb H' PT/\H' kl=some (.lst (kn'.map oV))/\H' wd=some (.dK kvs')/\WD n kvs' wt'/\Dl ts n st kn' wt',?_,?_⟩
    . rintro σ' H' ⟨kn',kvs',wt',v4',v5',v6',v7',rfl,hc,sm',T',hk',hw',WW',D'⟩
      have h1:=zLL kn'
      have h2:=D'.ln
      exact⟨n.toNat-cnt kn',by omega,kn',kvs',wt',v4',v5',v6',v7',rfl,rfl,sm',T',hk',hw',WW',D'⟩
    refine⟨_,rfl,wd,n,kvs,wt,rfl,hw2,WW,by omega,hn24,hne,T2,fun M e H3 hM hmin sm3 T3=>?_⟩
    have hk3:H3 kl=some (.lst (kn.map oV)):=sm3.get hk2 (by intro ps z;cases z)
    have hw3:H3 wd=some (.dK kvs):=sm3.get hw2 (by intro ps z;cases z)
    obtain⟨hknM,hM0,hM1,hcnt,N0⟩:=D.enter G hM hmin
    have hval:zCQ kvs (Sum.inl M)=some (.int e):=by rw[WW.at_ M,hM];rfl
    refine⟨_,rfl,wd,rfl,.inl ⟨kvs,.inl hw3⟩,_,rfl,kvs,Sum.inl M,_,hw3,rfl,hval,?_⟩
    have hlk:(kn.map oV).length=n.toNat:=by rw[zD];exact D.ln
    have hk3':(upd H3 wd (.dK (zCW kvs (Sum.inl M)))) kl=some (.lst (kn.map oV)):=by rw[zb nkw];exact hk3
    refine⟨_,rfl,_,rfl,kl,_,M,M.toNat,rfl,rfl,hk3',ixN_in hM0 (by rw[hlk];omega),?_⟩
    rw[show V.int e=oV (some e) from rfl,zH0]
    have sm4:SmT H (upd (upd H3 wd (.dK (zCW kvs (Sum.inl M)))) kl (.lst ((kn.set M.toNat (some e)).map oV))):=by
     intro b o hb
     rcases (sm.trans sm3) b o hb with z | z
     . exact .inl z
     . right
       have n1:b≠wd:=fun q=>by
        have hbn:H b=none:=by
         rw[q]
         cases e':H wd with
         | none=>rfl
         | some o'=>have:=s1 wd o' e';rw[hwd] at this;cases this
        rw[hbn] at hb;cases hb
       have n2:b≠kl:=fun q=>by
        have hbn:H b=none:=by
         rw[q]
         cases e':H kl with
         | none=>rfl
         | some o'=>have:=zI (o:=.lst [.non]) hl0 kl o' e';rw[hkl] at this;cases this
        rw[hbn] at hb;cases hb
       rw[zb n2,zb n1];exact z
    have T4:Tb (upd (upd H3 wd (.dK (zCW kvs (Sum.inl M)))) kl (.lst ((kn.set M.toNat (some e)).map oV))) PT:=by
     refine T3.keep (fun o ho=>?_) fun c φ hc=>?_
     . obtain⟨ps,hps,_⟩:=T3
       have e1:=ho
       rw[hps] at e1;cases e1
       rw[zb (zB1 ho hk3 (by intro z;cases z)),zb (zB1 ho hw3 (by intro z;cases z))];exact ho
     . rw[zb (zB1 hc hk3 (by intro z;cases z)),zb (zB1 hc hw3 (by intro z;cases z))];exact hc
    have hk4:(upd (upd H3 wd (.dK (zCW kvs (Sum.inl M)))) kl (.lst ((kn.set M.toNat (some e)).map oV))) kl=some (.lst ((kn.set M.toNat (some e)).map oV)):=zJ
    have hw4:(upd (upd H3 wd (.dK (zCW kvs (Sum.inl M)))) kl (.lst ((kn.set M.toNat (some e)).map oV))) wd=some (.dK (zCW kvs (Sum.inl M))):=by rw[zb nkw.symm,zJ]
    generalize upd (upd H3 wd (.dK (zCW kvs (Sum.inl M)))) kl (.lst ((kn.set M.toNat (some e)).map oV))=H4 at sm4 T4 hk4 hw4 ⊢
    refine⟨_,rfl,_,rfl,wa,n,ts,M,rfl,W.smT sm4,fun l zs ms H5 s5 hl5 hl5' T5 hp _=>?_⟩
    have hlz:=T5.length
    refine⟨l,rfl,⟨_,SqL.of hl5'⟩,zKf (K:=K) (a:=l) (xs:=zs) (fun i σ H6=>∃(kvs':List (Key×V))(wt':Int->Option Int)(v5 v6 v7:Option V),σ=[some (.ref wa),some (.int st),some (.ref kl),some (.ref wd),some (.int M),v5,v6,v7]/\(∀b o,b≠wd->H5 b=some o->H6 b=some o)/\H6 wd=some (.dK kvs')/\WD n kvs' wt'/\Dn ts n st M e (kn.set M.toNat (some e)) wt' (fun r=>∃j k,j<i/\ms[j]? = some k/\hd k=r))
     ⟨_,_,_,_,_,rfl,fun _ _ _ z=>z,s5 _ _ hw4,WW.drop,⟨⟨N0.dm.kd,N0.dm.wk,N0.dm.ord,fun q e' r l' hq ha=>(N0.dm.nb q e' r l' hq ha).imp (fun z=>⟨z.1,fun ⟨j,_,hj,_⟩=>absurd hj (zBw _)⟩) id,N0.dm.st,N0.dm.pd,N0.dm.mx⟩,N0.ln,N0.bk,N0.bd,N0.bw⟩⟩
     (fun i σ H6 _ ⟨_,_,_,_,_,_,s6,_⟩=>SqL.of (s6 l _ (zB1 hl5' (s5 _ _ hw4) (by intro z;cases z)) hl5')) ?turn ?after⟩
    case after=>
     rintro σ H6 ⟨kvs',wt',v5,v6,v7,rfl,s6,hw6,WW6,N6⟩
     have hk5:H5 kl=some (.lst ((kn.set M.toNat (some e)).map oV)):=s5 _ _ hk4
     refine⟨_,kvs',wt',_,_,_,_,rfl,hcnt,?_,?_,s6 kl _ nkw hk5,hw6,WW6,N6.leave fun r c ha=>?_⟩
     . intro b o hb
       rcases (sm4.trans (SmT.of s5)) b o hb with z | z
       . exact .inl z
       . right
         refine s6 b o (fun q=>?_) z
         have hbn:H b=none:=by
          rw[q]
          cases e':H wd with
          | none=>rfl
          | some o'=>have:=s1 wd o' e';rw[hwd] at this;cases this
         rw[hbn] at hb;cases hb
     . refine (T4.same s5).keep (fun o ho=>?_) fun c φ hc=>?_
       . obtain⟨ps,hps,_⟩:=T4.same s5
         refine s6 PT o (fun q=>?_) ho
         rw[q,s5 _ _ hw4] at hps;cases hps
       . refine s6 c _ (fun q=>?_) hc
         rw[q,s5 _ _ hw4] at hc;cases hc
     . have hm:[r,c]∈ms:=hp.mem_iff.mpr (zDx.mpr ⟨r,c,rfl,ha⟩)
       obtain⟨j,hj,ej⟩:=zx hm
       exact⟨j,[r,c],by omega,by rw[zE hj,ej],rfl⟩
    case turn=>
     rintro i y σ H6 hi ⟨kvs',wt',v5,v6,v7,rfl,s6,hw6,WW6,N6⟩
     obtain⟨ya,ky,rfl,hky,hya,_⟩:=T5.get hi
     obtain⟨r,c,rfl,ha⟩:=zDx.mp (hp.mem_iff.mp (zW hky))
     have hadj:=G.adj ha
     have hk6:H6 kl=some (.lst ((kn.set M.toNat (some e)).map oV)):=s6 kl _ nkw (s5 _ _ hk4)
     have hln:(kn.set M.toNat (some e)).length=n.toNat:=N6.ln
     have seen_of:∀{x:Int},(x=r\/∃j k,j<i/\ms[j]? = some k/\hd k=x)->∃j k,j<i+1/\ms[j]? = some k/\hd k=x:=fun {x} z=>by
      rcases z with rfl | ⟨j,k',hj,hk',e'⟩
      . exact⟨i,[x,c],Nat.lt_succ_self _,hky,rfl⟩
      . exact⟨j,k',zAt hj,hk',e'⟩
     have sub:∀{x:Int},(∃j k,j<i+1/\ms[j]? = some k/\hd k=x)->(∃j k,j<i/\ms[j]? = some k/\hd k=x)\/x=r:=fun {x} ⟨j,k',hj,hk',e'⟩=>by
      by_cases hji:j<i
      . exact .inl ⟨j,k',hji,hk',e'⟩
      . have:j=i:=by omega
        subst this
        rw[hky] at hk';cases hk'
        exact .inr e'.symm
     have conv:∀{wt2:Int->Option Int},Dn ts n st M e (kn.set M.toNat (some e)) wt2 (fun x=>(∃j k,j<i/\ms[j]? = some k/\hd k=x)\/x=r)->Dn ts n st M e (kn.set M.toNat (some e)) wt2 (fun x=>∃j k,j<i+1/\ms[j]? = some k/\hd k=x):=fun {wt2} N=>
      ⟨⟨N.dm.kd,N.dm.wk,N.dm.ord,fun q e' r' l' hq ha'=>(N.dm.nb q e' r' l' hq ha').imp (fun z=>⟨z.1,fun y=>z.2 (sub y)⟩) id,N.dm.st,N.dm.pd,N.dm.mx⟩,N.ln,N.bk,N.bd,N.bw⟩
     refine⟨ya,_,rfl,SqT.of (s6 _ _ (zB1 hya (s5 _ _ hw4) (by intro z;cases z)) hya),rfl,_,_,rfl,_,_,rfl,rfl,?_⟩
     obtain⟨o,ho⟩:∃o,(kn.set M.toNat (some e))[r.toNat]? = some o:=⟨_,zE (by omega)⟩
     have hfnl:fnl (kn.set M.toNat (some e)) r=o:=by
      unfold fnl
      rw[if_pos hadj.2.2.1,zM,ho];rfl
     refine⟨_,rfl,_,rfl,kl,_,_,oV o,rfl,rfl,SqL.of hk6,zBm hadj.2.2.1 (by rw[zQ,ho];rfl),rfl,_,rfl,?_⟩
     rw[zF4]
     cases o with
     | some f0=>
      refine zCm ?_
      exact⟨kvs',wt',_,_,_,rfl,s6,hw6,WW6,conv (N6.skip hfnl)⟩
     | none=>
      refine zDb ?_
      have hkM:(kn.set M.toNat (some e))[M.toNat]? = some (some e):=by
       rw[List.getElem?_set_self (by have:=D.ln;omega)]
      refine⟨_,rfl,_,rfl,kl,_,_,oV (some e),rfl,rfl,SqL.of hk6,zBm hM0 (by rw[zQ,hkM];rfl),_,rfl,_,_,rfl,rfl,?_⟩
      refine⟨_,rfl,_,rfl,wd,rfl,.inl ⟨kvs',.inl hw6⟩,_,rfl,_,rfl,_,zG9.k (k:=Sum.inl r) hw6,?_⟩
      have hg:((zCQ kvs' (Sum.inl r)).getD (V.int (e+c)))=V.int ((wt' r).getD (e+c)):=by
       rw[WW6.at_ r]
       cases wt' r <;> rfl
      rw[hg]
      refine⟨_,_,rfl,?_⟩
      have hwl:=WW6.len (by omega)
      refine⟨_,rfl,_,rfl,wd,_,rfl,zKs.k (k:=Sum.inl r) hw6 (zo (by omega)),?_⟩
      exact⟨_,_,_,_,_,rfl,fun b o' hb z=>by rw[zb hb];exact s6 b o' hb z,zJ,WW6.put hadj.2.2.1 hadj.2.2.2.1,conv (N6.wait G ha hfnl)⟩
end
noncomputable def spBwr:Sp:=fun vs H Q _=>∃(lh lt:Addr)(n:Int)(ts:List T3)(x y:Int)(kn1 kn2:List (Option Int)),vs=[.ref lh,.ref lt,.int y]/\GW n ts/\0<=x/\x<n/\0<=y/\y<n/\H lh=some (.tup (kn1.map oV))/\H lt=some (.tup (kn2.map oV))/\zKo ts n x kn1/\zKo ts n y kn2 /\
 ∀(l:Addr)(xs:List Int)(H':Hp),zA0 H H'->H' l=some (.tup (xs.map V.int))->xs.Pairwise (· < ·)->(∀p,p∈xs↔Btw ts x y p)->Q (.ref l) H'
noncomputable def spNbr:Sp:=fun vs H Q _=>∃(wa lt:Addr)(n:Int)(ts:List T3)(x y:Int)(kn:List (Option Int)),vs=[.ref wa,.int x,.ref lt]/\zB3 H wa n ts/\0<=x/\x<n/\0<=y/\y<n/\H lt=some (.tup (kn.map oV))/\zKo ts n y kn /\
 ∀(l:Addr)(xs:List Int)(H':Hp),zA0 H H'->H' l=some (.tup (xs.map V.int))->xs.Pairwise (· < ·)->(∀p,p∈xs↔Nxt ts x y p)->Q (.ref l) H'
theorem zCJ {ts:List T3}{n s:Int}{kn:List (Option Int)}(h:zKo ts n s kn){y:Int}(h0:0<=y)(h1:y<n):(kn.map oV)[y.toNat]? = some (oV (fnl kn y)):=by
 have hl:=h.ln
 have hlt:y.toNat<kn.length:=by omega
 rw[zQ,zE hlt]
 unfold fnl
 rw[if_pos h0,zM,zE hlt]
 rfl
theorem zEW (q:Nat):lowTo (q+1)=lowTo q++[(q:Int)]:=by unfold lowTo;rw[List.range_succ,zX];rfl
theorem zBc (q:Nat):(lowTo q).length=q:=by unfold lowTo;rw[zD,zAb]
section
variable {P:Program}{w:World}{K:PySem.W.Frag}{mg:Str->Option Value}{base:Heap}{PT:Addr}
theorem scBwr:zAH ["here", "there", "other", "reached"] ["here", "there", "other"] (defScope sBwr):=⟨rfl,rfl,rfl,by decide +kernel,rfl,by decide +kernel,by decide +kernel⟩
theorem ok_bwr {f:Addr}{fd':FuncData}(F:Fun K "between_rows" "between_rows" sBwr f fd') (mRange:mg "range" = none) (mTuple:mg "tuple" = none) (mLen:mg "len" = none):zAi P w K mg base CX0 1 f fd' ["here", "there", "other"] spBwr:=by
 refine F.ok scBwr (fun vs H Q E h=>?_) (fun cdv A outer s H2 vs Q E hr h=>?_)
 . obtain⟨lh,lt,n,ts,x,y,kn1,kn2,rfl,_⟩:=h
   rfl
 . obtain⟨lh,lt,n,ts,x,y,kn1,kn2,rfl,G,hx0,hx1,hy0,hy1,hh2,hl2,L1,L2,k⟩:=h
   have hn24:=G.n24
   have hln:=L1.ln
   refine⟨_,zV (zBr (zAG zHR (zAC zAE (pv 0) (pv 2) (fun _ _=>rfl)) zCT (zAZ _)) (zm (zAK (zBk zO))) zAh)
    (zV (zEF (i:=3) (own:=["place"]) (cn:=["here"]) (ci:=[0]) scBwr.nd rfl (Or.inl rfl) rfl (csc rfl rfl) ⟨rfl,rfl,rfl,trivial⟩ rfl
     (zBJ rfl mRange (zG (zAD zAQ (by rfl) mLen PySem.boot_len (zG (pv 0) zO)) zO)) (fun _ _ _ _=>zAI (i:=0) (zCK rfl) rfl (Or.inl rfl))
     (fun _ _ _ _=>zCo (zAG zGt (zAC zCB (pv 1) (pv 0) (fun _ _=>rfl)) zCT (zAZ _))) (fun _ _ _ _=>pv 0))
    (zm (zAK (zAu zAe (by rfl) mTuple (by decide +kernel) (zG
     (zBK (own:=["place"]) (cn:=["here", "there", "other"]) (ci:=[0,1,2]) rfl (csc rfl rfl) ⟨rfl,rfl,rfl,rfl,rfl,rfl,rfl,rfl,rfl,trivial⟩ rfl
      (zC1 (pv 3)) (fun _ _ _ _=>zAI (i:=0) (zCK rfl) rfl (Or.inl rfl))
      (fun _ _ _ _=>zCo (zAG zDC (zBD zCe (zAC zCB (pv 1) (pv 0) (fun _ _=>rfl)) (zAC zCB (pv 2) (pv 0) (fun _ _=>rfl))) (zAC zCB (pv 1) (pv 3) (fun _ _=>rfl)) (zAZ _)))
      (fun _ _ _ _=>pv 0)) zO))))),?_⟩
   have hy:=L1.len y hy0 hy1
   refine⟨_,rfl,_,rfl,lh,_,_,oV (fnl kn1 y),rfl,rfl,SqT.of hh2,zBm hy0 (zCJ L1 hy0 hy1),rfl,_,rfl,?_⟩
   rw[zF4]
   cases hd:fnl kn1 y with
   | none=>
    refine zDb ?_
    rw[hd] at hy
    refine⟨zi _,fun l hl=>k l [] _ (zI hl) zJ List.Pairwise.nil fun p=>⟨fun z=>by simp at z,fun ⟨a,b,_,_,z⟩=>absurd z.1 (hy _)⟩⟩
   | some d=>
    refine zCm ?_
    rw[hd] at hy
    have hyD:WM.IsD ts x y d:=hy
    refine⟨_,rfl,lh,_,rfl,.inr (SqT.of hh2),n,by rw[zD,hln];exact congrArg (fun z=>[V.int z]) (Int.toNat_of_nonneg (by omega)),by omega,by omega,[.ref lh],rfl,fun D hD=>?_⟩
    refine zBt (lo:=0) (n:=n.toNat) (fun q ys H3=>q<=n.toNat/\ys=((lowTo q).filter fun o=>(fnl kn1 o).isSome).map V.int/\zA0 H2 H3/\H3 D=some (.lst ys)) ⟨zi _,rfl,zI hD,zJ⟩ (fun q ys H3 h=>?_) (fun q ys H3 hq h=>?_) (fun ys H3 h=>?_)
    . obtain⟨hq,rfl,_⟩:=h
      rw[zD]
      refine zAo (zAg _ _) (zo ?_)
      rw[zBc];omega
    . obtain⟨_,rfl,s3,hD3⟩:=h
      rw[zBQ]
      refine⟨⟨rfl,rfl⟩,?_⟩
      refine⟨_,rfl,_,rfl,lh,_,_,oV (fnl kn1 q),rfl,rfl,SqT.of (s3 _ _ hh2),zBm (by omega) (zCJ L1 (by omega) (by omega)),rfl,_,rfl,?_⟩
      rw[zF4]
      cases e:fnl kn1 q with
      | none=>
       refine zCm ?_
       refine⟨hq,?_,s3,hD3⟩
       rw[zEW,zBh,zA4 (by rw[e];decide),zBX,zq]
      | some a=>
       refine zDb ?_
       refine⟨_,rfl,hD3,hq,?_,zAz s3 hD,zJ⟩
       rw[zEW,zBh,zBL (by rw[e];rfl),zBX,zX]
       rfl
    . obtain⟨_,rfl,s3,hD3⟩:=h
      generalize hR:((lowTo n.toNat).filter fun o=>(fnl kn1 o).isSome)=R at hD3 ⊢
      have hRm:∀p,p∈R↔(0<=p/\p<n)/\∃a,fnl kn1 p=some a:=fun p=>by
       rw[<-hR,zA2,zCs,Option.isSome_iff_exists]
       constructor
       . rintro ⟨z1,z2⟩;exact⟨by omega,z2⟩
       . rintro ⟨z1,z2⟩;exact⟨by omega,z2⟩
      have hRr:R.Pairwise (· < ·):=by rw[<-hR];exact (zDc _).sublist List.filter_sublist
      have hRl:R.length<=24:=by
       rw[<-hR]
       exact zAf (zAg _ _) (by rw[zBc];omega)
      have both:∀p,p∈R->∃a b,fnl kn1 p=some a/\fnl kn2 p=some b/\WM.IsD ts x p a/\WM.IsD ts p y b:=fun p hp=>by
       obtain⟨⟨h0,h1⟩,a,ha⟩:=(hRm p).mp hp
       have l1:=L1.len p h0 h1
       rw[ha] at l1
       obtain⟨b,hb,_⟩:=Len.via (show WM.IsD ts x p a from l1) hyD (Len.symm (L2.len p h0 h1))
       have l2:=L2.len p h0 h1
       rw[hb] at l2
       exact⟨a,b,ha,hb,l1,WM.IsD.symm l2⟩
      refine⟨_,rfl,D,rfl,⟨_,SqL.of hD3⟩,[.ref lh,.ref lt,.int y],rfl,fun D2 hD2=>?_⟩
      have nDD:D≠D2:=zl hD3 hD2
      refine zCX (a:=D) (xs:=R.map V.int) (fun i ys H4=>ys=((R.take i).filter fun p=>decide ((fnl kn1 p).getD 0+(fnl kn2 p).getD 0=d)).map V.int/\zA0 H3 H4/\H4 D2=some (.lst ys)) ⟨rfl,zI hD2,zJ⟩ (fun i ys H4 h=>?_) (fun i ys H4 h=>?_) (fun i v ys H4 hv h=>?_) (fun ys H4 h=>?_)
      . obtain⟨_,s4,_⟩:=h
        exact SqL.of (s4 _ _ hD3)
      . obtain⟨rfl,_⟩:=h
        rw[zD]
        refine zAo (zAg _ _) (zo ?_)
        rw[zt];omega
      . obtain⟨rfl,s4,hD4⟩:=h
        obtain⟨p,hp,rfl⟩:∃p,R[i]? = some p/\V.int p=v:=by
         rw[zQ] at hv
         cases e:R[i]? with
         | none=>rw[e] at hv;cases hv
         | some p=>rw[e] at hv;exact⟨p,rfl,zf hv⟩
        have hpR:=zW hp
        obtain⟨⟨h0,h1⟩,_⟩:=(hRm p).mp hpR
        obtain⟨a,b,ha,hb,_,_⟩:=both p hpR
        have hlh4:H4 lh=some (.tup (kn1.map oV)):=s4 _ _ (s3 _ _ hh2)
        have hlt4:H4 lt=some (.tup (kn2.map oV)):=s4 _ _ (s3 _ _ hl2)
        refine⟨⟨rfl,rfl⟩,?_⟩
        refine⟨_,rfl,_,rfl,lh,_,_,.int a,rfl,rfl,SqT.of hlh4,zBm h0 (by rw[zCJ L1 h0 h1,ha];rfl),?_⟩
        refine⟨_,rfl,_,rfl,lt,_,_,.int b,rfl,rfl,SqT.of hlt4,zBm h0 (by rw[zCJ L2 h0 h1,hb];rfl),_,_,rfl,rfl,?_⟩
        refine⟨_,rfl,_,rfl,lh,_,_,.int d,rfl,rfl,SqT.of hlh4,zBm hy0 (by rw[zCJ L1 hy0 hy1,hd];rfl),rfl,_,rfl,?_⟩
        rw[zHd]
        have etk:(R.take (i+1)).filter (fun p=>decide ((fnl kn1 p).getD 0+(fnl kn2 p).getD 0=d))=(R.take i).filter (fun p=>decide ((fnl kn1 p).getD 0+(fnl kn2 p).getD 0=d))++(if a+b=d then [p] else []):=by
         rw[zAF,hp,zBh]
         show _++List.filter _ [p]=_
         rw[List.filter_cons,ha,hb]
         by_cases c:a+b=d
         . rw[if_pos (by simpa using c),if_pos c];rfl
         . rw[if_neg (by simpa using c),if_neg c];rfl
        refine zD9 (fun c=>?_) (fun c=>?_)
        . have c':=of_decide_eq_true c
          refine⟨_,rfl,hD4,?_,zAz s4 hD2,zJ⟩
          rw[etk,if_pos c',zX];rfl
        . have c':¬ a+b=d:=fun z=>c (zP z)
          refine⟨?_,s4,hD4⟩
          rw[etk,if_neg c',zq]
      . obtain⟨rfl,s4,hD4⟩:=h
        rw[zD,za (zH _)] at hD4
        refine⟨D2,_,rfl,.inl ⟨SqL.of hD4,fun q hq=>?_⟩⟩
        refine k q _ _ ((s3.trans s4).trans (zI hq)) zJ (hRr.sublist List.filter_sublist) fun p=>?_
        rw[zA2]
        constructor
        . rintro ⟨hp,c⟩
          obtain⟨a,b,ha,hb,ia,ib⟩:=both p hp
          have c':=of_decide_eq_true c
          rw[ha,hb] at c'
          exact⟨a,b,ia,ib,by rw[show a+b=d from c'];exact hyD⟩
        . rintro ⟨a,b,ia,ib,iab⟩
          have hp:=ia.1.in_ G hx0 hx1
          have l1:=Len.uniq (L1.len p hp.1 hp.2) (show Len ts x p (some a) from ia)
          have l2:=Len.uniq (L2.len p hp.1 hp.2) (show Len ts y p (some b) from WM.IsD.symm ib)
          refine⟨(hRm p).mpr ⟨hp,a,l1⟩,zP ?_⟩
          rw[l1,l2]
          exact WM.IsD.uniq iab hyD
theorem scNbr:zAH ["web", "one", "there"] ["web", "one", "there"] (defScope sNbr):=⟨rfl,rfl,rfl,by decide +kernel,rfl,by decide +kernel,by decide +kernel⟩
noncomputable def sl1 (k:List Int):Int:=k.getD 1 0
theorem ok_nbr {f fT:Addr}{fd' fdT:FuncData}(F:Fun K "next_by_row" "next_by_row" sNbr f fd')
 (FT:Fun K "ties_at" "ties_at" zGk fT fdT) (bT:zAA K fdT ["web", "place"] []) (mT:mg "ties_at" = some (.ref fT)) (mSorted:mg "sorted" = none) (mTuple:mg "tuple" = none):zAi P w K mg base CX0 3 f fd' ["web", "one", "there"] spNbr:=by
 have GT:zAi P w K mg base CX0 2 fT fdT ["web", "place"] zIV:=(zI3 FT mSorted).mono (by decide)
 refine F.ok scNbr (fun vs H Q E h=>?_) (fun cdv A outer s H1 vs Q E hr h=>?_)
 . obtain⟨wa,lt,n,ts,x,y,kn,rfl,_⟩:=h
   rfl
 . obtain⟨wa,lt,n,ts,x,y,kn,rfl,W,hx0,hx1,hy0,hy1,hl1,L,k⟩:=h
   obtain⟨ta,tys,hwa,_,_,G⟩:=id W
   refine⟨_,zV (zBr (zAG zHR (zAC zAE (pv 2) (pv 1) (fun _ _=>rfl)) zCT (zAZ _)) (zm (zAK (zBk zO))) zAh)
    (zm (zAK (zAu zAe (by rfl) mTuple (by decide +kernel) (zG
     (zBK (own:=["place", "long"]) (cn:=["there", "one"]) (ci:=[2,1]) rfl (csc rfl rfl) ⟨rfl,rfl,rfl,rfl,rfl,rfl,trivial⟩ rfl
      (zC1 (zp GT hr rfl mT FT.kp bT .nil zAX (zG (pv 0) (zG (pv 1) zO))))
      (fun _ _ _ _=>zLl (n:=2) rfl (zBs (zAI (i:=0) (zCK rfl) rfl (Or.inl rfl)) (zBs (zAI (i:=1) (zCK rfl) rfl (Or.inl rfl)) zEH)))
      (fun _ _ _ _=>zCo (zAG zDC (zBD zCe (pv 1) (zAC zCB (pv 2) (pv 0) (fun _ _=>rfl))) (zAC zCB (pv 2) (pv 3) (fun _ _=>rfl)) (zAZ _)))
      (fun _ _ _ _=>pv 0)) zO)))),?_⟩
   have hx:=L.len x hx0 hx1
   refine⟨_,rfl,_,rfl,lt,_,_,oV (fnl kn x),rfl,rfl,SqT.of hl1,zBm hx0 (zCJ L hx0 hx1),rfl,_,rfl,?_⟩
   rw[zF4]
   cases hd:fnl kn x with
   | none=>
    refine zDb ?_
    rw[hd] at hx
    refine⟨zi _,fun l hl=>k l [] _ (zI hl) zJ List.Pairwise.nil fun p=>⟨fun z=>by simp at z,fun ⟨a,b,_,_,z⟩=>absurd z.1.symm (hx _)⟩⟩
   | some d=>
    refine zCm ?_
    rw[hd] at hx
    have hxD:WM.IsD ts x y d:=WM.IsD.symm hx
    refine⟨_,rfl,_,rfl,wa,n,ts,x,rfl,W,fun l zs ms H2 s2 hl0 hl2 TT hp hrs=>?_⟩
    have hlz:=TT.length
    have hlt2:H2 lt=some (.tup (kn.map oV)):=s2 _ _ hl1
    have hlm:ms.length<64:=by
     have e2:=zGH (n:=n) x (ts:=ts) fun t ht=>(G.rng t ht).2.1
     have:=G.len
     rw[hp.length_eq];omega
    have near:∀k,k∈ms->∃z c b,k=[z,c]/\Adj ts x z c/\fnl kn z=some b/\WM.IsD ts z y b:=fun k hk=>by
     obtain⟨z,c,e,ha⟩:=zDx.mp (hp.mem_iff.mp hk)
     have hadj:=G.adj ha
     have lz:=L.len z hadj.2.2.1 hadj.2.2.2.1
     cases hz:fnl kn z with
     | none=>rw[hz] at lz;exact absurd (hx.1.snoc ha) (lz _)
     | some b=>rw[hz] at lz;exact⟨z,c,b,e,ha,hz,WM.IsD.symm lz⟩
    refine⟨l,rfl,⟨_,SqL.of hl2⟩,[.ref lt,.int x],rfl,fun D hD=>?_⟩
    have nlD:l≠D:=zl hl2 hD
    refine zCX (a:=l) (xs:=zs) (fun i ys H3=>ys=(((ms.take i).filter fun k=>decide (sl1 k+(fnl kn (WM.hd k)).getD 0=d)).map WM.hd).map V.int/\H3=upd H2 D (.lst ys)) ⟨rfl,rfl⟩ (fun i ys H3 h=>?_) (fun i ys H3 h=>?_) (fun i v ys H3 hv h=>?_) (fun ys H3 h=>?_)
    . obtain⟨_,rfl⟩:=h
      exact SqL.of (by rw[zb nlD];exact hl2)
    . obtain⟨rfl,_⟩:=h
      rw[zD,zD]
      refine zAo (zAg _ _) (zo ?_)
      rw[zt];omega
    . obtain⟨rfl,rfl⟩:=h
      obtain⟨ya,ky,rfl,hky,hya,_⟩:=TT.get hv
      obtain⟨z,c,b,rfl,ha,hb,ib⟩:=near ky (zW hky)
      have hadj:=G.adj ha
      refine⟨ya,_,rfl,SqT.of (by rw[zb (zl hya hD)];exact hya),rfl,_,_,rfl,_,_,rfl,rfl,⟨rfl,rfl⟩,?_⟩
      have hltD:(upd H2 D (.lst ((((ms.take i).filter fun k=>decide (sl1 k+(fnl kn (WM.hd k)).getD 0=d)).map WM.hd).map V.int))) lt=some (.tup (kn.map oV)):=by rw[zb (zl hlt2 hD)];exact hlt2
      refine⟨_,rfl,_,rfl,_,rfl,lt,_,_,.int b,rfl,rfl,SqT.of hltD,zBm hadj.2.2.1 (by rw[zCJ L hadj.2.2.1 hadj.2.2.2.1,hb];rfl),_,_,rfl,rfl,?_⟩
      refine⟨_,rfl,_,rfl,lt,_,_,.int d,rfl,rfl,SqT.of hltD,zBm hx0 (by rw[zCJ L hx0 hx1,hd];rfl),rfl,_,rfl,?_⟩
      rw[zHd]
      have etk:(ms.take (i+1)).filter (fun k=>decide (sl1 k+(fnl kn (WM.hd k)).getD 0=d))=(ms.take i).filter (fun k=>decide (sl1 k+(fnl kn (WM.hd k)).getD 0=d))++(if c+b=d then [[z,c]] else []):=by
       rw[zAF,hky,zBh]
       show _++List.filter _ [[z,c]]=_
       rw[List.filter_cons]
       have e1:decide (sl1 [z,c]+(fnl kn (WM.hd [z,c])).getD 0=d)=decide (c+b=d):=by
        show decide (c+(fnl kn z).getD 0=d)=_
        rw[hb];rfl
       rw[e1]
       by_cases cc:c+b=d
       . rw[if_pos (by simpa using cc),if_pos cc];rfl
       . rw[if_neg (by simpa using cc),if_neg cc];rfl
      refine zD9 (fun cc=>?_) (fun cc=>?_)
      . have c':=of_decide_eq_true cc
        refine⟨_,rfl,zJ,?_,zB8⟩
        rw[etk,if_pos c',zX,zX];rfl
      . have c':¬ c+b=d:=fun q=>cc (zP q)
        refine⟨?_,rfl⟩
        rw[etk,if_neg c',zq]
    . obtain⟨rfl,rfl⟩:=h
      refine⟨D,_,rfl,.inl ⟨SqL.of zJ,fun q hq=>?_⟩⟩
      rw[hlz,za (zH _)] at hq ⊢
      have s4:=(zI (o:=.lst ((((ms.filter fun k=>decide (sl1 k+(fnl kn (WM.hd k)).getD 0=d)).map WM.hd).map V.int))) hD).trans (zI (o:=.tup ((((ms.filter fun k=>decide (sl1 k+(fnl kn (WM.hd k)).getD 0=d)).map WM.hd).map V.int))) hq)
      have hk:∀k∈ms,∃y l,k=[y,l]:=fun k hk=>by
       obtain⟨z,c,b,e,_⟩:=near k hk
       exact⟨z,c,e⟩
      have hrise:=zH9 hrs hk ((hp.map WM.hd).nodup_iff.mpr (zHZ G x))
      refine k q _ _ (s2.trans s4) zJ (hrise.sublist (List.filter_sublist.map _)) fun p=>?_
      rw[zAM]
      constructor
      . rintro ⟨k0,hk0,rfl⟩
        obtain⟨hm,c⟩:=zA2.mp hk0
        obtain⟨z,c0,b,rfl,ha,hb,ib⟩:=near k0 hm
        have c':=of_decide_eq_true c
        have c2:c0+b=d:=by
         have:c0+(fnl kn z).getD 0=d:=c'
         rw[hb] at this;exact this
        exact⟨c0,b,ha,ib,by rw[c2];exact hxD⟩
      . rintro ⟨c0,b,ha,ib,iab⟩
        have hm:[p,c0]∈ms:=hp.mem_iff.mpr (zDx.mpr ⟨p,c0,rfl,ha⟩)
        refine⟨[p,c0],zA2.mpr ⟨hm,zP ?_⟩,rfl⟩
        have hadj:=G.adj ha
        have lp:=Len.uniq (L.len p hadj.2.2.1 hadj.2.2.2.1) (show Len ts y p (some b) from WM.IsD.symm ib)
        show c0+(fnl kn p).getD 0=d
        rw[lp]
        exact WM.IsD.uniq iab hxD
end
noncomputable def zC7 (H:Hp)(rs:List Addr)(M:List (List (Option Int))):Prop:=rs.length=M.length/\∀(i:Nat)(r:Addr)(row:List (Option Int)),rs[i]? = some r->M[i]? = some row->H r=some (.tup (row.map oV))
theorem zC7.smT {H H':Hp}{rs:List Addr}{M:List (List (Option Int))}(h:zC7 H rs M)(k:SmT H H'):zC7 H' rs M:=⟨h.1,fun i r row a b=>k.get (h.2 i r row a b) (by intro ps z;cases z)⟩
noncomputable def zIY (PT:Addr):Sp:=fun vs H Q _=>∃(wa:Addr)(n:Int)(ts:List T3),vs=[.ref wa]/\zB3 H wa n ts/\Tb H PT /\
 ∀(l:Addr)(rs:List Addr)(M:List (List (Option Int)))(H':Hp),SmT H H'->Tb H' PT->H' l=some (.tup (rs.map V.ref))->zC7 H' rs M->Rows ts n M->Q (.ref l) H'
section
variable {P:Program}{w:World}{K:PySem.W.Frag}{mg:Str->Option Value}{base:Heap}{PT:Addr}
theorem scLens:zAH ["web"] ["web"] (defScope zIm):=⟨rfl,rfl,rfl,by decide +kernel,rfl,by decide +kernel,by decide +kernel⟩
theorem zLw {f fF:Addr}{fd' fdF:FuncData}(F:Fun K "lengths" "lengths" zIm f fd') (FF:Fun K "lengths_from" "lengths_from" zIn fF fdF) (bF:zAA K fdF ["web", "start"] []) (mF:mg "lengths_from" = some (.ref fF)) (GF:zAi P w K mg base CX0 3 fF fdF ["web", "start"] (zIZ PT))
 (mRange:mg "range" = none) (mTuple:mg "tuple" = none):zAi P w K mg base CX0 4 f fd' ["web"] (zIY PT):=by
 refine F.ok scLens (fun vs H Q E h=>?_) (fun cdv A outer s H vs Q E hr h=>?_)
 . obtain⟨wa,n,ts,rfl,_⟩:=h
   rfl
 . obtain⟨wa,n,ts,rfl,W,T,k⟩:=h
   obtain⟨ta,tys,hwa,_,_,G⟩:=id W
   have hn24:=G.n24
   have hn1:=G.n1
   refine⟨_,zm (zAK (zAu zAe (by rfl) mTuple (by decide +kernel) (zG
    (zBK (own:=["place"]) (cn:=["web"]) (ci:=[0]) rfl (csc rfl rfl) ⟨rfl,rfl,rfl,trivial⟩ rfl
     (zBJ rfl mRange (zG (zAC zAE (pv 0) ze (fun _ _=>rfl)) zO)) (fun _ _ _ _=>zAI (i:=0) (zCK rfl) rfl (Or.inl rfl)) (fun _ _ _ _=>zBv)
     (fun _ _ _ _=>zp GF hr rfl mF FF.kp bF .nil zAX (zG (pv 1) (zG (pv 0) zO)))) zO))),?_⟩
   refine⟨_,rfl,wa,_,_,_,rfl,rfl,SqT.of hwa,rfl,n,rfl,by omega,by omega,[.ref wa],rfl,fun D hD=>?_⟩
   refine zBt (lo:=0) (n:=n.toNat) (fun q ys H1=>q<=n.toNat/\∃(rs:List Addr)(M:List (List (Option Int))),ys=rs.map V.ref/\rs.length=q/\zC7 H1 rs M/\(∀x:Nat,x<q->zKo ts n x (M.getD x []))/\SmT H H1/\Tb H1 PT/\H1 D=some (.lst ys))
    ⟨zi _,[],[],rfl,rfl,⟨rfl,fun i r row h=>by simp at h⟩,fun x hx=>absurd hx (zBw _),SmT.of (zI hD),T.same (zI hD),zJ⟩ (fun q ys H1 h=>?_) (fun q ys H1 hq h=>?_) (fun ys H1 h=>?_)
   . obtain⟨hq,rs,M,rfl,hl,_⟩:=h
     rw[zD,hl]
     exact zo (by omega)
   . obtain⟨_,rs,M,rfl,hl,R,L,sm,T1,hD1⟩:=h
     rw[zBQ]
     refine⟨⟨rfl,rfl⟩,?_⟩
     refine zGc ?_
     refine⟨_,rfl,_,rfl,wa,n,ts,q,rfl,W.smT sm,by omega,by omega,T1,fun l kn H2 sm2 T2 hl2 L2=>?_⟩
     have hD2:H2 D=some (.lst (rs.map V.ref)):=sm2.get hD1 (by intro ps z;cases z)
     refine⟨hD2,hq,rs++[l],M++[kn],by rw[zX];rfl,by rw[zC,hl];rfl,⟨by rw[zC,zC,R.1];rfl,fun i r row h1 h2=>?_⟩,fun x hx=>?_,(sm.trans sm2).chg hD,T2.chg hD2,zJ⟩
     . have key:H2 r=some (.tup (row.map oV)):=by
        by_cases hi:i<rs.length
        . rw[zj hi] at h1
          rw[zj (by rw[<-R.1];exact hi)] at h2
          exact sm2.get (R.2 i r row h1 h2) (by intro ps z;cases z)
        . rw[zk (by omega)] at h1
          rw[zk (by rw[<-R.1];omega),<-R.1] at h2
          cases hz:i-rs.length with
          | zero=>
           rw[hz] at h1 h2
           have e1:l=r:=by simpa using h1
           have e2:kn=row:=by simpa using h2
           subst e1 e2
           exact hl2
          | succ k=>rw[hz] at h1;simp at h1
       rw[zb (zB1 key hD2 (by intro z;cases z))]
       exact key
     . by_cases hx':x<q
       . rw[zM,zj (by rw[<-R.1,hl];exact hx'),<-zM]
         exact L x hx'
       . have e:x=q:=by omega
         subst e
         rw[zM,zk (by rw[<-R.1,hl];exact zH _),<-R.1,hl]
         simpa using L2
   . obtain⟨_,rs,M,rfl,hl,R,L,sm,T1,hD1⟩:=h
     refine⟨D,_,rfl,.inl ⟨SqL.of hD1,fun q hq=>?_⟩⟩
     refine k q rs M _ (sm.trans (SmT.of (zI hq))) (T1.same (zI hq)) zJ (R.smT (SmT.of (zI hq))) ⟨by rw[<-R.1,hl],fun x hx hx'=>?_⟩
     have:=L x.toNat (by omega)
     rw[show ((x.toNat:Nat):Int)=x by omega] at this
     exact this
end
end K40
namespace K40
open PySem L2 WM
noncomputable def zJ9:Sp:=fun vs H Q _=>∃i:Int,vs=[.int i]/\Q (.bl true) H
noncomputable def spWi:Sp:=fun vs H Q _=>∃i a b:Int,vs=[.int i,.int a,.int b]/\a<=i/\i<=b/\Q (.bl true) H
noncomputable def spPl:Sp:=fun vs H Q _=>∃n i:Int,vs=[.int n,.int i]/\0<=i/\i<=n-1/\Q (.bl true) H
noncomputable def zJ7:Sp:=fun vs H Q _=>∃(p:Addr)(ys:List V),vs=[.ref p,.int ys.length]/\H p=some (.tup ys)/\Q (.bl true) H
structure Ordr (n:Int)(os:List Int):Prop where
 ln:os.length=n.toNat
 nd:os.Nodup
 rng:∀p∈os,0<=p/\p<n
noncomputable def zJ8:Sp:=fun vs H Q _=>∃(wa p:Addr)(n:Int)(ts:List T3)(os:List Int),vs=[.ref wa,.ref p]/\zB3 H wa n ts/\H p=some (.tup (os.map V.int))/\Ordr n os/\∀H',zA0 H H'->Q (.bl true) H'
section
variable {P:Program}{w:World}{K:PySem.W.Frag}{mg:Str->Option Value}{base:Heap}
theorem scNum:zAH ["thing"] ["thing"] (defScope zKG):=⟨rfl,rfl,rfl,by decide +kernel,rfl,by decide +kernel,by decide +kernel⟩
theorem zI4 {f:Addr}{fd':FuncData}(F:Fun K "is_number" "is_number" zKG f fd') (mIsi:mg "isinstance" = none) (mInt:mg "int" = none) (mBool:mg "bool" = none):zAi P w K mg base CX0 1 f fd' ["thing"] zJ9:=by
 refine F.ok scNum (fun vs H Q E h=>?_) (fun cdv A outer s H vs Q E hr h=>?_)
 . obtain⟨i,rfl,_⟩:=h
   rfl
 . obtain⟨i,rfl,k⟩:=h
   refine⟨_,zm (zAK (zDW (zAD zCC (by rfl) mIsi (by decide +kernel) (zG (pv 0) (zG (zE1 (T := "int") (by rfl) mInt (by decide +kernel)) zO)))
    (zEI (pe_not (zAD zCC (by rfl) mIsi (by decide +kernel) (zG (pv 0) (zG (zE1 (T := "bool") (by rfl) mBool (by decide +kernel)) zO))))))),?_⟩
   refine⟨_,rfl,_,_,_,true,rfl,.int i,rfl,true,rfl,zDb ?_⟩
   exact⟨_,rfl,_,_,_,false,rfl,.int i,rfl,false,rfl,k⟩
theorem scWi:zAH ["thing", "least", "most"] ["thing", "least", "most"] (defScope sWi):=⟨rfl,rfl,rfl,by decide +kernel,rfl,by decide +kernel,by decide +kernel⟩
theorem ok_wi {f fN:Addr}{fd' fdN:FuncData}(F:Fun K "is_within" "is_within" sWi f fd') (FN:Fun K "is_number" "is_number" zKG fN fdN) (bN:zAA K fdN ["thing"] []) (mN:mg "is_number" = some (.ref fN)) (mIsi:mg "isinstance" = none) (mInt:mg "int" = none) (mBool:mg "bool" = none) :
 zAi P w K mg base CX0 2 f fd' ["thing", "least", "most"] spWi:=by
 have GN:zAi P w K mg base CX0 1 fN fdN ["thing"] zJ9:=zI4 FN mIsi mInt mBool
 refine F.ok scWi (fun vs H Q E h=>?_) (fun cdv A outer s H vs Q E hr h=>?_)
 . obtain⟨i,a,b,rfl,_⟩:=h
   rfl
 . obtain⟨i,a,b,rfl,h1,h2,k⟩:=h
   refine⟨_,zm (zAK (zDW (zp GN hr rfl mN FN.kp bN .nil zAX (zG (pv 0) zO)) (zDW (zCr zI0 (pv 1) (pv 0) (zAZ _)) (zEI (zCr zI0 (pv 0) (pv 2) (zAZ _)))))),?_⟩
   refine⟨_,rfl,i,rfl,true,rfl,zDb ?_⟩
   refine⟨_,rfl,_,rfl,_,_,rfl,rfl,_,rfl,?_⟩
   refine ifT (zP h1) ?_
   refine⟨_,rfl,_,rfl,_,_,rfl,rfl,?_⟩
   show Q (.bl (decide (i<=b))) H
   rw[zP h2]
   exact k
theorem scPl:zAH ["n", "thing"] ["n", "thing"] (defScope sPl):=⟨rfl,rfl,rfl,by decide +kernel,rfl,by decide +kernel,by decide +kernel⟩
theorem ok_pl {f fW fN:Addr}{fd' fdW fdN:FuncData}(F:Fun K "is_place" "is_place" sPl f fd') (FW:Fun K "is_within" "is_within" sWi fW fdW) (bW:zAA K fdW ["thing", "least", "most"] []) (mW:mg "is_within" = some (.ref fW)) (FN:Fun K "is_number" "is_number" zKG fN fdN) (bN:zAA K fdN ["thing"] []) (mN:mg "is_number" = some (.ref fN)) (mIsi:mg "isinstance" = none) (mInt:mg "int" = none) (mBool:mg "bool" = none) :
 zAi P w K mg base CX0 3 f fd' ["n", "thing"] spPl:=by
 have GW':zAi P w K mg base CX0 2 fW fdW ["thing", "least", "most"] spWi:=ok_wi FW FN bN mN mIsi mInt mBool
 refine F.ok scPl (fun vs H Q E h=>?_) (fun cdv A outer s H vs Q E hr h=>?_)
 . obtain⟨n,i,rfl,_⟩:=h
   rfl
 . obtain⟨n,i,rfl,h1,h2,k⟩:=h
   refine⟨_,zm (zAK (zp GW' hr rfl mW FW.kp bW .nil zAX (zG (pv 1) (zG ze (zG (zBD zHQ (pv 0) ze) zO))))),?_⟩
   exact⟨_,rfl,_,rfl,_,_,rfl,rfl,i,0,n-1,rfl,h1,h2,k⟩
theorem scTof:zAH ["thing", "count"] ["thing", "count"] (defScope sTof):=⟨rfl,rfl,rfl,by decide +kernel,rfl,by decide +kernel,by decide +kernel⟩
theorem zK4 {f:Addr}{fd':FuncData}(F:Fun K "is_tuple_of" "is_tuple_of" sTof f fd') (mIsi:mg "isinstance" = none) (mTuple:mg "tuple" = none) (mLen:mg "len" = none):zAi P w K mg base CX0 1 f fd' ["thing", "count"] zJ7:=by
 refine F.ok scTof (fun vs H Q E h=>?_) (fun cdv A outer s H vs Q E hr h=>?_)
 . obtain⟨p,ys,rfl,_⟩:=h
   rfl
 . obtain⟨p,ys,rfl,hp,k⟩:=h
   refine⟨_,zm (zAK (zDW (zAD zCC (by rfl) mIsi (by decide +kernel) (zG (pv 0) (zG (zE1 (T := "tuple") (by rfl) mTuple (by decide +kernel)) zO)))
    (zEI (zCr zDC (zAD zAQ (by rfl) mLen PySem.boot_len (zG (pv 0) zO)) (pv 1) (zAZ _))))),?_⟩
   refine⟨_,rfl,_,_,_,true,rfl,.tup hp,rfl,true,rfl,zDb ?_⟩
   refine⟨_,rfl,p,_,rfl,.inr (SqT.of hp),_,rfl,rfl,?_⟩
   rw[zP rfl]
   exact k
theorem scOrd:zAH ["web", "thing", "n"] ["web", "thing"] (defScope sOrd):=⟨rfl,rfl,rfl,by decide +kernel,rfl,by decide +kernel,by decide +kernel⟩
theorem ok_ord {f fT fW fP fN:Addr}{fd' fdT fdW fdP fdN:FuncData}(F:Fun K "is_order" "is_order" sOrd f fd') (FT:Fun K "is_tuple_of" "is_tuple_of" sTof fT fdT) (bT:zAA K fdT ["thing", "count"] []) (mT:mg "is_tuple_of" = some (.ref fT))
 (FW:Fun K "is_within" "is_within" sWi fW fdW) (bW:zAA K fdW ["thing", "least", "most"] []) (mW:mg "is_within" = some (.ref fW)) (FP:Fun K "is_place" "is_place" sPl fP fdP) (bP:zAA K fdP ["n", "thing"] []) (mP:mg "is_place" = some (.ref fP)) (FN:Fun K "is_number" "is_number" zKG fN fdN) (bN:zAA K fdN ["thing"] []) (mN:mg "is_number" = some (.ref fN))
 (mIsi:mg "isinstance" = none) (mInt:mg "int" = none) (mBool:mg "bool" = none) (mTuple:mg "tuple" = none) (mLen:mg "len" = none) (mAll:mg "all" = none) (mSet:mg "set" = none):zAi P w K mg base CX0 4 f fd' ["web", "thing"] zJ8:=by
 have GT:zAi P w K mg base CX0 3 fT fdT ["thing", "count"] zJ7:=(zK4 FT mIsi mTuple mLen).mono (by decide)
 have GP:zAi P w K mg base CX0 3 fP fdP ["n", "thing"] spPl:=ok_pl FP FW bW mW FN bN mN mIsi mInt mBool
 refine F.ok scOrd (fun vs H Q E h=>?_) (fun cdv A outer s H vs Q E hr h=>?_)
 . obtain⟨wa,p,n,ts,os,rfl,_⟩:=h
   rfl
 . obtain⟨wa,p,n,ts,os,rfl,W,hp,O,k⟩:=h
   obtain⟨ta,tys,hwa,_,_,G⟩:=id W
   have hn1:=G.n1
   have hn24:=G.n24
   have hol:os.length<=24:=by rw[O.ln];omega
   refine⟨_,zV (zAW (i:=2) scOrd.nd rfl (Or.inr rfl) (zAC zAE (pv 0) ze (fun _ _=>rfl)))
    (zV (zBr (PW.pt (zFt (zCw (zCb (zp GT hr rfl mT FT.kp bT .nil zAX (zG (pv 1) (zG (pv 2) zO)))))
     (zEz (zCw (zCb (zAD (zDm rfl) (by rfl) mAll (by decide +kernel) (zG (zBK (own:=["place"]) (cn:=["n"]) (ci:=[2]) rfl (csc rfl rfl) ⟨rfl,rfl,rfl,trivial⟩ rfl (zCM (pv 1)) (fun _ _ _ _=>zAI (i:=0) (zCK rfl) rfl (Or.inl rfl))
      (fun _ _ _ _=>zBv) (fun _ _ _ _=>zp GP hr rfl mP FP.kp bP .nil zAX (zG (pv 1) (zG (pv 0) zO)))) zO))))))) (zm (zAK zEJ)) zAh)
    (zm (zAK (zCr zDC (zAD zJp (by rfl) mLen PySem.boot_len (zG (zAu (zJn rfl) (by rfl) mSet (by decide +kernel) (zG (pv 1) zO)) zO)) (pv 2) (zAZ _))))),?_⟩
   refine⟨_,rfl,wa,_,_,_,rfl,rfl,SqT.of hwa,rfl,?_⟩
   have hpl:(os.map V.int).length=n:=by rw[zD,O.ln];omega
   refine⟨_,rfl,_,rfl,p,os.map V.int,by rw[hpl];rfl,hp,_,rfl,zCm ?_⟩
   refine⟨_,rfl,p,rfl,⟨_,SqT.of hp⟩,[.int n],rfl,fun D hD=>?_⟩
   refine zCI (a:=p) (xs:=os.map V.int) (fun i ys H4=>i<=os.length/\ys=(List.replicate i true).map V.bl/\H4=upd H D (.lst ys)) ⟨zi _,rfl,rfl⟩ (fun i ys H4 h=>?_) (fun i ys H4 h=>?_) (fun i v ys H4 hv h=>?_) (fun ys H4 h=>?_)
   . obtain⟨_,_,rfl⟩:=h
     exact SqT.of (by rw[zb (zl hp hD)];exact hp)
   . obtain⟨hi,rfl,_⟩:=h
     rw[zD,zAw]
     exact zo (by omega)
   . obtain⟨_,rfl,rfl⟩:=h
     obtain⟨x,hx,rfl⟩:∃x,os[i]? = some x/\V.int x=v:=by
      rw[zQ] at hv
      cases e:os[i]? with
      | none=>rw[e] at hv;cases hv
      | some x=>rw[e] at hv;exact⟨x,rfl,zf hv⟩
     have hr':=O.rng x (zW hx)
     refine⟨⟨rfl,rfl⟩,?_⟩
     refine zGc ?_
     refine⟨_,rfl,_,rfl,n,x,rfl,hr'.1,by omega,?_⟩
     refine⟨zJ,(zL.mp hx).1,?_,zB8⟩
     rw[List.replicate_succ',zX];rfl
   . obtain⟨_,rfl,rfl⟩:=h
     refine⟨D,List.replicate (os.map V.int).length true,rfl,SqL.of zJ,_,rfl,?_⟩
     have hall:(List.replicate (os.map V.int).length true).all id=true:=zBI.mpr fun b hb=>(List.mem_replicate.mp hb).2
     rw[hall]
     refine zCm ?_
     have hp5:=zI (o:=.lst ((List.replicate (os.map V.int).length true).map V.bl)) hD _ _ hp
     refine⟨_,rfl,p,os,rfl,SqT.of hp5,by omega,fun d S hd=>?_⟩
     refine⟨d,S,_,rfl,zJ,_,rfl,rfl,?_⟩
     rw[zEc O.nd os.length (zH _),za (zH _),zP (by rw[<-hpl,zD])]
     exact k _ ((zI hD).trans (zI hd))
end
end K40
namespace K40
open PySem L2 WM
noncomputable def eV (e:En):List V:=[.int e.h,.int e.l,oV e.u,oV e.d]
noncomputable def zEv (H:Hp)(as:List Addr)(es:List En):Prop:=as.length=es.length/\∀(i:Nat)(a:Addr),as[i]? = some a->∃e,es[i]? = some e/\H a=some (.tup (eV e))
noncomputable def zFd (H:Hp)(p:Addr)(es:List En):Prop:=∃as:List Addr,H p=some (.tup (as.map V.ref))/\zEv H as es/\es.length<=1000
theorem zEv.keep {H H':Hp}{as:List Addr}{es:List En}(h:zEv H as es)(k:∀b ys,H b=some (.tup ys)->H' b=some (.tup ys)):zEv H' as es:=
 ⟨h.1,fun i a ha=>let ⟨e,h1,h2⟩:=h.2 i a ha;⟨e,h1,k _ _ h2⟩⟩
theorem zEv.snoc {H:Hp}{as:List Addr}{es:List En}{a:Addr}{e:En}(h:zEv H as es)(ha:H a=some (.tup (eV e))):zEv H (as++[a]) (es++[e]):=by
 refine⟨by rw[zC,zC,h.1];rfl,fun i b hb=>?_⟩
 by_cases c:i<as.length
 . rw[zj c] at hb
   obtain⟨e',h1,h2⟩:=h.2 i b hb
   exact⟨e',by rw[zj (by rw[<-h.1];exact c)];exact h1,h2⟩
 . rw[zk (by omega)] at hb
   have hi:i-as.length=0:=by
    cases z:i-as.length with
    | zero=>rfl
    | succ m=>rw[z] at hb;simp at hb
   rw[hi] at hb
   have:a=b:=by simpa using hb
   subst this
   exact⟨e,by rw[zk (by rw[<-h.1];omega),<-h.1,hi];rfl,ha⟩
theorem zFd.keep {H H':Hp}{p:Addr}{es:List En}(h:zFd H p es)(k:∀b ys,H b=some (.tup ys)->H' b=some (.tup ys)):zFd H' p es:=
 let ⟨as,h1,h2,h3⟩:=h;⟨as,k _ _ h1,h2.keep k,h3⟩
theorem zFd.same {H H':Hp}{p:Addr}{es:List En}(h:zFd H p es)(k:zA0 H H'):zFd H' p es:=h.keep fun b ys e=>k _ _ e
theorem zEv.at {H:Hp}{as:List Addr}{es:List En}(h:zEv H as es){i:Nat}{v:V}(hv:(as.map V.ref)[i]? = some v):∃a e,v = .ref a/\es[i]? = some e/\H a=some (.tup (eV e)):=by
 rw[zQ] at hv
 cases z:as[i]? with
 | none=>rw[z] at hv;cases hv
 | some a=>
  rw[z] at hv
  obtain⟨e,h1,h2⟩:=h.2 i a z
  exact⟨a,e,(zf hv).symm,h1,h2⟩
noncomputable def rkf (rks:List Int)(p:Int):Int:=rks.getD p.toNat 0
noncomputable def zIK (ts:List T3)(rk:Int->Int)(h v:Int):Prop:=(∃d,WM.IsD ts h v d)/\∀p,Btw ts h v p->rk h<=rk p
noncomputable def MinO (P:Int->Prop):Option Int->Prop
 | none=>∀p,¬ P p
 | some m=>P m/\∀p,P p->m<=p
theorem MinO.congr {P P':Int->Prop}(e:∀p,P p↔P' p):∀{o:Option Int},MinO P o->MinO P' o
 | none,h=>fun p z=>h p ((e p).mpr z)
 | some _,h=>⟨(e _).mp h.1,fun p z=>h.2 p ((e p).mpr z)⟩
structure zMP (ts:List T3)(n:Int)(rk:Int->Int)(v:Int)(e:En):Prop where
 rng:0<=e.h/\e.h<n
 hub:zIK ts rk e.h v
 len:WM.IsD ts v e.h e.l
 up:MinO (Nxt ts v e.h) e.u
 dn:MinO (Nxt ts e.h v) e.d
structure zMN (ts:List T3)(n:Int)(rk:Int->Int)(v:Int)(es:List En):Prop where
 hub:Hub es
 ent:∀e∈es,zMP ts n rk v e
 all:∀h,0<=h->h<n->zIK ts rk h v->∃e∈es,e.h=h
 len:es.length<=24
noncomputable def LabsAt (H:Hp)(l:Addr)(ess:List (List En)):Prop:=∃as:List Addr,H l=some (.tup (as.map V.ref))/\as.length=ess.length/\∀(i:Nat)(a:Addr),as[i]? = some a->∃es,ess[i]? = some es/\zFd H a es
theorem zC7.at {H:Hp}{rs:List Addr}{M:List (List (Option Int))}{ts:List T3}{n x:Int}(RA:zC7 H rs M)(RR:Rows ts n M)(h0:0<=x)(h1:x<n) :
 ∃r,(rs.map V.ref)[x.toNat]? = some (.ref r)/\H r=some (.tup ((M.getD x.toNat []).map oV))/\zKo ts n x (M.getD x.toNat []):=by
 have hM:x.toNat<M.length:=by rw[RR.1];omega
 have hr:x.toNat<rs.length:=by rw[RA.1];exact hM
 have e:M[x.toNat]? = some (M.getD x.toNat []):=by rw[zM,zE hM];rfl
 exact⟨rs[x.toNat],by rw[zQ,zE hr];rfl,RA.2 _ _ _ (zE hr) e,RR.2 x h0 h1⟩
theorem zC7.same {H H':Hp}{rs:List Addr}{M:List (List (Option Int))}(h:zC7 H rs M)(k:zA0 H H'):zC7 H' rs M:=⟨h.1,fun i r row a b=>k _ _ (h.2 i r row a b)⟩
theorem zJA {K:PySem.W.Frag}{H:Hp}{p:Addr}{xs:List Int}{Q:VK}(hp:SqT K H p (xs.map V.int))(h:∀u,MinO (· ∈ xs) u->Q (oV u) H):rMinD K (.ref p) .non H Q:=by
 refine⟨p,_,rfl,.inr hp,fun e=>?_,.inr ⟨xs,rfl,fun n hn hm=>h (some n) ⟨hn,hm⟩⟩⟩
 have:xs=[]:=by simpa using e
 exact h none fun q hq=>by rw[this] at hq;simp at hq
structure zJw (H:Hp)(rl ra:Addr)(rs:List Addr)(M:List (List (Option Int)))(rks:List Int)(n:Int)(ts:List T3):Prop where
 tab:H rl=some (.tup (rs.map V.ref))
 rows:zC7 H rs M
 right:Rows ts n M
 rk:H ra=some (.lst (rks.map V.int))
 rln:rks.length=n.toNat
 web:GW n ts
theorem zJw.same {H H':Hp}{rl ra:Addr}{rs:List Addr}{M:List (List (Option Int))}{rks:List Int}{n:Int}{ts:List T3}(L:zJw H rl ra rs M rks n ts)(k:zA0 H H'):zJw H' rl ra rs M rks n ts:=⟨k _ _ L.tab,L.rows.same k,L.right,k _ _ L.rk,L.rln,L.web⟩
theorem zJw.rank {H:Hp}{rl ra:Addr}{rs:List Addr}{M:List (List (Option Int))}{rks:List Int}{n:Int}{ts:List T3}(L:zJw H rl ra rs M rks n ts){x:Int}(h0:0<=x)(h1:x<n):(rks.map V.int)[x.toNat]? = some (.int (rkf rks x)):=by
 have:x.toNat<rks.length:=by rw[L.rln];omega
 rw[zQ,zE this]
 unfold rkf
 rw[zM,zE this]
 rfl
noncomputable def spIsh:Sp:=fun vs H Q _=>∃(rl ra:Addr)(rs:List Addr)(M:List (List (Option Int)))(rks:List Int)(n:Int)(ts:List T3)(h v:Int),vs=[.ref rl,.ref ra,.int h,.int v]/\zJw H rl ra rs M rks n ts/\0<=h/\h<n/\0<=v/\v<n /\
 ∀(b:Bool)(H':Hp),zA0 H H'->(b=true↔zIK ts (rkf rks) h v)->Q (.bl b) H'
noncomputable def spEbr:Sp:=fun vs H Q _=>∃(wa rl ra:Addr)(rs:List Addr)(M:List (List (Option Int)))(rks:List Int)(n:Int)(ts:List T3)(v h:Int),vs=[.ref wa,.ref rl,.int v,.int h]/\zB3 H wa n ts/\zJw H rl ra rs M rks n ts/\0<=h/\h<n/\0<=v/\v<n/\zIK ts (rkf rks) h v /\
 ∀(a:Addr)(e:En)(H':Hp),zA0 H H'->H' a=some (.tup (eV e))->e.h=h->zMP ts n (rkf rks) v e->Q (.ref a) H'
noncomputable def zLZ:Sp:=fun vs H Q _=>∃(wa rl ra:Addr)(rs:List Addr)(M:List (List (Option Int)))(rks:List Int)(n:Int)(ts:List T3)(v:Int),vs=[.ref wa,.ref rl,.ref ra,.int v]/\zB3 H wa n ts/\zJw H rl ra rs M rks n ts/\0<=v/\v<n /\
 ∀(a:Addr)(es:List En)(H':Hp),zA0 H H'->zFd H' a es->zMN ts n (rkf rks) v es->Q (.ref a) H'
section
variable {P:Program}{w:World}{K:PySem.W.Frag}{mg:Str->Option Value}{base:Heap}
theorem scIsh:zAH ["rows", "ranks", "hub", "place"] ["rows", "ranks", "hub", "place"] (defScope sIsh):=⟨rfl,rfl,rfl,by decide +kernel,rfl,by decide +kernel,by decide +kernel⟩
theorem ok_ish {f fB:Addr}{fd' fdB:FuncData}(F:Fun K "is_hub" "is_hub" sIsh f fd') (FB:Fun K "between_rows" "between_rows" sBwr fB fdB) (bB:zAA K fdB ["here", "there", "other"] []) (mB:mg "between_rows" = some (.ref fB)) (mRange:mg "range" = none) (mTuple:mg "tuple" = none) (mLen:mg "len" = none) (mAll:mg "all" = none) :
 zAi P w K mg base CX0 2 f fd' ["rows", "ranks", "hub", "place"] spIsh:=by
 have GB:zAi P w K mg base CX0 1 fB fdB ["here", "there", "other"] spBwr:=ok_bwr FB mRange mTuple mLen
 refine F.ok scIsh (fun vs H Q E h=>?_) (fun cdv A outer s H vs Q E hr h=>?_)
 . obtain⟨rl,ra,rs,M,rks,n,ts,h,v,rfl,_⟩:=h
   rfl
 . obtain⟨rl,ra,rs,M,rks,n,ts,h,v,rfl,L,h0,h1,v0,v1,k⟩:=h
   have G:=L.web
   have hn24:=G.n24
   refine⟨_,zV (zBr (zAG zHR (zAC zAE (zAC zAE (pv 0) (pv 2) (fun _ _=>rfl)) (pv 3) (fun _ _=>rfl)) zCT (zAZ _)) (zm (zAK zEJ)) zAh)
    (zm (zAK (zAD (zDm rfl) (by rfl) mAll (by decide +kernel) (zG (zBK (own:=["other"]) (cn:=["ranks", "hub"]) (ci:=[1,2]) rfl (csc rfl rfl) ⟨rfl,rfl,rfl,rfl,rfl,rfl,trivial⟩ rfl
     (zCM (zp GB hr rfl mB FB.kp bB .nil zAX (zG (zAC zAE (pv 0) (pv 2) (fun _ _=>rfl)) (zG (zAC zAE (pv 0) (pv 3) (fun _ _=>rfl)) (zG (pv 3) zO))))) (fun _ _ _ _=>zAI (i:=0) (zCK rfl) rfl (Or.inl rfl))
     (fun _ _ _ _=>zBv) (fun _ _ _ _=>zCr zI0 (zAC zHV (pv 1) (pv 2) (fun _ _=>rfl)) (zAC zHV (pv 1) (pv 0) (fun _ _=>rfl)) (zAZ _))) zO)))),?_⟩
   obtain⟨rh,gh,hh,Lh⟩:=L.rows.at L.right h0 h1
   obtain⟨rv,gv,hv,Lv⟩:=L.rows.at L.right v0 v1
   have lhv:=Lh.len v v0 v1
   refine⟨_,rfl,_,rfl,rl,_,_,.ref rh,rfl,rfl,SqT.of L.tab,zBm h0 gh,_,rfl,rh,_,_,oV (fnl (M.getD h.toNat []) v),rfl,rfl,SqT.of hh,zBm v0 (zCJ Lh v0 v1),rfl,_,rfl,?_⟩
   rw[zF4]
   cases ed:fnl (M.getD h.toNat []) v with
   | none=>
    rw[ed] at lhv
    refine zDb ?_
    exact k false H (zA0.refl _) ⟨(fun z=>by cases z),(fun z=>by obtain⟨d,hd⟩:=z.1;exact absurd hd.1 (lhv d))⟩
   | some d=>
    rw[ed] at lhv
    refine zCm ?_
    refine⟨_,rfl,_,rfl,rl,_,_,.ref rh,rfl,rfl,SqT.of L.tab,zBm h0 gh,_,rfl,_,rfl,rl,_,_,.ref rv,rfl,rfl,SqT.of L.tab,zBm v0 gv,_,rfl,rh,rv,n,ts,h,v,_,_,rfl,G,h0,h1,v0,v1,hh,hv,Lh,Lv,fun l xs H1 s1 hl hrise hmem=>?_⟩
    have hxr:∀p∈xs,0<=p/\p<n:=fun p hp=>by
     obtain⟨a,b,ia,_⟩:=(hmem p).mp hp
     exact ia.1.in_ G h0 h1
    have hxl:xs.length<=24:=by
     have:=nd_len (n:=n.toNat) (l:=xs) (hrise.imp fun z=>by omega) fun x hx=>by have:=hxr x hx;omega
     omega
    refine⟨l,rfl,⟨_,SqT.of hl⟩,[.ref ra,.int h],rfl,fun D hD=>?_⟩
    have hra:=s1 _ _ L.rk
    refine zCI (a:=l) (xs:=xs.map V.int) (fun i ys H4=>ys=((xs.take i).map fun p=>decide (rkf rks h<=rkf rks p)).map V.bl/\H4=upd H1 D (.lst ys)) ⟨rfl,rfl⟩ (fun i ys H4 z=>?_) (fun i ys H4 z=>?_) (fun i x ys H4 hx z=>?_) (fun ys H4 z=>?_)
    . obtain⟨_,rfl⟩:=z
      exact SqT.of (by rw[zb (zl hl hD)];exact hl)
    . obtain⟨rfl,_⟩:=z
      rw[zD,zD,zt]
      exact zo (by omega)
    . obtain⟨rfl,rfl⟩:=z
      obtain⟨p,hp,rfl⟩:∃p,xs[i]? = some p/\V.int p=x:=by
       rw[zQ] at hx
       cases e:xs[i]? with
       | none=>rw[e] at hx;cases hx
       | some p=>rw[e] at hx;exact⟨p,rfl,zf hx⟩
      have hpr:=hxr p (zW hp)
      have hra4:=zI (o:=.lst (((xs.take i).map fun p=>decide (rkf rks h<=rkf rks p)).map V.bl)) hD _ _ hra
      refine⟨⟨rfl,rfl⟩,?_⟩
      refine zGc ?_
      refine⟨_,rfl,_,rfl,ra,_,_,.int (rkf rks h),rfl,rfl,SqL.of hra4,zBm h0 (L.rank h0 h1),_,rfl,_,rfl,ra,_,_,.int (rkf rks p),rfl,rfl,SqL.of hra4,zBm hpr.1 (L.rank hpr.1 hpr.2),_,_,rfl,rfl,zJ,?_,zB8⟩
      rw[zAF,hp,zX,zX];rfl
    . obtain⟨rfl,rfl⟩:=z
      rw[zD,za (zH _)]
      refine⟨D,_,rfl,SqL.of zJ,?_⟩
      refine k _ _ (s1.trans (zI hD)) ⟨fun z=>⟨⟨d,lhv⟩,fun p hp=>?_⟩,fun z=>zBI.mpr fun b hb=>?_⟩
      . have:=zBI.mp z _ (zAM.mpr ⟨p,(hmem p).mpr hp,rfl⟩)
        exact of_decide_eq_true this
      . obtain⟨p,hp,rfl⟩:=zAM.mp hb
        exact zP (z.2 p ((hmem p).mp hp))
theorem zLf:zAH ["web", "rows", "place", "hub", "up", "down"] ["web", "rows", "place", "hub"] (defScope sEbr):=⟨rfl,rfl,rfl,by decide +kernel,rfl,by decide +kernel,by decide +kernel⟩
theorem ok_ebr {f fN fT:Addr}{fd' fdN fdT:FuncData}(F:Fun K "entry_by_rows" "entry_by_rows" sEbr f fd') (FN:Fun K "next_by_row" "next_by_row" sNbr fN fdN) (bN:zAA K fdN ["web", "one", "there"] []) (mN:mg "next_by_row" = some (.ref fN))
 (FT:Fun K "ties_at" "ties_at" zGk fT fdT) (bT:zAA K fdT ["web", "place"] []) (mT:mg "ties_at" = some (.ref fT)) (mSorted:mg "sorted" = none) (mTuple:mg "tuple" = none) (mMin:mg "min" = none):zAi P w K mg base CX0 4 f fd' ["web", "rows", "place", "hub"] spEbr:=by
 have GN:zAi P w K mg base CX0 3 fN fdN ["web", "one", "there"] spNbr:=ok_nbr FN FT bT mT mSorted mTuple
 refine F.ok zLf (fun vs H Q E h=>?_) (fun cdv A outer s H vs Q E hr h=>?_)
 . obtain⟨wa,rl,ra,rs,M,rks,n,ts,v,h,rfl,_⟩:=h
   rfl
 . obtain⟨wa,rl,ra,rs,M,rks,n,ts,v,h,rfl,W,L,h0,h1,v0,v1,hh,k⟩:=h
   have hu:=zGz hr
   refine⟨_,zV (zAW (i:=4) zLf.nd rfl (Or.inl rfl) (zGr rfl hu (by rfl) mMin (zG (zp GN hr rfl mN FN.kp bN .nil zAX (zG (pv 0) (zG (pv 2) (zG (zAC zAE (pv 1) (pv 3) (fun _ _=>rfl)) zO)))) zO) zCT))
    (zV (zAW (i:=5) zLf.nd rfl (Or.inl rfl) (zGr rfl hu (by rfl) mMin (zG (zp GN hr rfl mN FN.kp bN .nil zAX (zG (pv 0) (zG (pv 3) (zG (zAC zAE (pv 1) (pv 2) (fun _ _=>rfl)) zO)))) zO) zCT))
    (zm (zAK (zBk (zG (pv 3) (zG (zAC zAE (zAC zAE (pv 1) (pv 2) (fun _ _=>rfl)) (pv 3) (fun _ _=>rfl)) (zG (pv 4) (zG (pv 5) zO)))))))),?_⟩
   obtain⟨rh,gh,ha,Lh⟩:=L.rows.at L.right h0 h1
   obtain⟨rv,gv,hv,Lv⟩:=L.rows.at L.right v0 v1
   refine⟨_,rfl,_,rfl,_,rfl,_,rfl,rl,_,_,.ref rh,rfl,rfl,SqT.of L.tab,zBm h0 gh,wa,rh,n,ts,v,h,_,rfl,W,v0,v1,h0,h1,ha,Lh,fun l1 xs H1 s1 hl1 _ hm1=>?_⟩
   refine⟨_,rfl,?_⟩
   unfold tC
   refine zJA (SqT.of hl1) fun u hu1=>?_
   have L1:=L.same s1
   refine⟨_,rfl,_,rfl,_,rfl,_,rfl,rl,_,_,.ref rv,rfl,rfl,SqT.of L1.tab,zBm v0 gv,wa,rv,n,ts,h,v,_,rfl,W.keep s1,h0,h1,v0,v1,s1 _ _ hv,Lv,fun l2 ys H2 s2 hl2 _ hm2=>?_⟩
   refine⟨_,rfl,?_⟩
   dsimp only
   refine zJA (SqT.of hl2) fun d hd1=>?_
   have s12:=s1.trans s2
   have L2':=L.same s12
   obtain⟨dd,hdd⟩:=hh.1
   have lv:=Len.uniq (Lv.len h h0 h1) (show Len ts v h (some dd) from WM.IsD.symm hdd)
   refine⟨_,rfl,_,rfl,_,rfl,rl,_,_,.ref rv,rfl,rfl,SqT.of L2'.tab,zBm v0 gv,_,rfl,rv,_,_,.int dd,rfl,rfl,SqT.of (s12 _ _ hv),zBm h0 (by rw[zCJ Lv h0 h1,lv];rfl),_,rfl,_,rfl,by show 4<=sizeLine;decide,fun a ha'=>?_⟩
   exact k a ⟨h,dd,u,d⟩ _ (s12.trans (zI ha')) zJ rfl ⟨⟨h0,h1⟩,hh,WM.IsD.symm hdd,hu1.congr hm1,hd1.congr hm2⟩
end
noncomputable def RkOf (n:Int)(os:List Int)(rk:Int->Int):Prop:=∀p,0<=p->p<n->0<=rk p/\os[(rk p).toNat]? = some p
noncomputable def LabsOf (ts:List T3)(n:Int)(rk:Int->Int)(ess:List (List En)):Prop:=ess.length=n.toNat/\∀(i:Nat)(es:List En),ess[i]? = some es->zMN ts n rk i es
noncomputable def zLa (PT:Addr):Sp:=fun vs H Q _=>∃(wa p:Addr)(n:Int)(ts:List T3)(os:List Int),vs=[.ref wa,.ref p]/\zB3 H wa n ts/\H p=some (.tup (os.map V.int))/\Ordr n os/\Tb H PT /\
 ∀(l:Addr)(ess:List (List En))(rk:Int->Int)(H':Hp),SmT H H'->Tb H' PT->LabsAt H' l ess->RkOf n os rk->LabsOf ts n rk ess->Q (.ref l) H'
theorem Ordr.mem {n:Int}{os:List Int}(O:Ordr n os){p:Int}(h0:0<=p)(h1:p<n):p∈os:=by
 apply zBF
 intro hn
 have:=nd_len (n:=n.toNat) (l:=p::os) (zAj.mpr ⟨hn,O.nd⟩) fun x hx=>by
  rcases zT.mp hx with rfl | hx
  . omega
  . have:=O.rng x hx;omega
 rw[zd,O.ln] at this
 omega
section
variable {P:Program}{w:World}{K:PySem.W.Frag}{mg:Str->Option Value}{base:Heap}{PT:Addr}
theorem scLbr:zAH ["web", "rows", "ranks", "place", "hubs"] ["web", "rows", "ranks", "place"] (defScope sLbr):=⟨rfl,rfl,rfl,by decide +kernel,rfl,by decide +kernel,by decide +kernel⟩
theorem ok_lbr {f fI fE:Addr}{fd' fdI fdE:FuncData}(F:Fun K "label_by_ranks" "label_by_ranks" sLbr f fd') (FI:Fun K "is_hub" "is_hub" sIsh fI fdI) (bI:zAA K fdI ["rows", "ranks", "hub", "place"] []) (mI:mg "is_hub" = some (.ref fI)) (GI:zAi P w K mg base CX0 4 fI fdI ["rows", "ranks", "hub", "place"] spIsh)
 (FE:Fun K "entry_by_rows" "entry_by_rows" sEbr fE fdE) (bE:zAA K fdE ["web", "rows", "place", "hub"] []) (mE:mg "entry_by_rows" = some (.ref fE)) (GE:zAi P w K mg base CX0 4 fE fdE ["web", "rows", "place", "hub"] spEbr) (mRange:mg "range" = none) (mTuple:mg "tuple" = none) :
 zAi P w K mg base CX0 5 f fd' ["web", "rows", "ranks", "place"] zLZ:=by
 refine F.ok scLbr (fun vs H Q E h=>?_) (fun cdv A outer s H vs Q E hr h=>?_)
 . obtain⟨wa,rl,ra,rs,M,rks,n,ts,v,rfl,_⟩:=h
   rfl
 . obtain⟨wa,rl,ra,rs,M,rks,n,ts,v,rfl,W,L,v0,v1,k⟩:=h
   obtain⟨ta,tys,hwa,_,_,G⟩:=id W
   have hn1:=G.n1
   have hn24:=G.n24
   refine⟨_,zV (zEF (i:=4) (own:=["hub"]) (cn:=["rows", "ranks", "place"]) (ci:=[1,2,3]) scLbr.nd rfl (Or.inl rfl) rfl (csc rfl rfl) ⟨rfl,rfl,rfl,rfl,rfl,rfl,rfl,rfl,rfl,trivial⟩ rfl
    (zBJ rfl mRange (zG (zAC zAE (pv 0) ze (fun _ _=>rfl)) zO)) (fun _ _ _ _=>zAI (i:=0) (zCK rfl) rfl (Or.inl rfl))
    (fun _ _ _ _=>zCo (zCb (zp GI hr rfl mI FI.kp bI .nil zAX (zG (pv 1) (zG (pv 2) (zG (pv 0) (zG (pv 3) zO))))))) (fun _ _ _ _=>pv 0))
    (zm (zAK (zAu zAe (by rfl) mTuple (by decide +kernel) (zG (zBK (own:=["hub"]) (cn:=["web", "rows", "place"]) (ci:=[0,1,3]) rfl (csc rfl rfl) ⟨rfl,rfl,rfl,rfl,rfl,rfl,rfl,rfl,rfl,trivial⟩ rfl
     (zC1 (pv 4)) (fun _ _ _ _=>zAI (i:=0) (zCK rfl) rfl (Or.inl rfl)) (fun _ _ _ _=>zBv)
     (fun _ _ _ _=>zp GE hr rfl mE FE.kp bE .nil zAX (zG (pv 1) (zG (pv 2) (zG (pv 3) (zG (pv 0) zO)))))) zO)))),?_⟩
   refine⟨_,rfl,wa,_,_,_,rfl,rfl,SqT.of hwa,rfl,n,rfl,by omega,by omega,[.ref rl,.ref ra,.int v],rfl,fun D hD=>?_⟩
   refine zBt (lo:=0) (n:=n.toNat) (fun q ys H3=>q<=n.toNat/\(∃hs:List Int,ys=hs.map V.int/\hs.Pairwise (· < ·)/\∀p,p∈hs↔(0<=p/\p<(q:Int))/\zIK ts (rkf rks) p v)/\zA0 H H3/\H3 D=some (.lst ys)) ⟨zi _,⟨[],rfl,List.Pairwise.nil,fun p=>⟨fun z=>by simp at z,fun z=>absurd z.1 (by omega)⟩⟩,zI hD,zJ⟩ (fun q ys H3 z=>?_) (fun q ys H3 hq z=>?_) (fun ys H3 z=>?_)
   . obtain⟨hq,⟨hs,rfl,hp,hm⟩,_⟩:=z
     rw[zD]
     have:=nd_len (n:=q) (l:=hs) (hp.imp fun z=>by omega) fun x hx=>by have:=((hm x).mp hx).1;omega
     exact zo (by omega)
   . obtain⟨_,⟨hs,rfl,hp,hm⟩,s3,hD3⟩:=z
     rw[zBQ]
     refine⟨⟨rfl,rfl⟩,?_⟩
     refine⟨_,rfl,_,rfl,_,rfl,_,rfl,rl,ra,rs,M,rks,n,ts,q,v,rfl,L.same s3,by omega,by omega,v0,v1,fun b H4 s4 hb=>?_⟩
     refine⟨_,rfl,?_⟩
     refine zD9 (fun c=>?_) (fun c=>?_)
     . refine⟨_,rfl,s4 _ _ hD3,hq,⟨hs++[(q:Int)],by rw[zX];rfl,List.pairwise_append.mpr ⟨hp,List.pairwise_singleton _ _,fun a ha b hb'=>?_⟩,fun p=>?_⟩,zAz (s3.trans s4) hD,zJ⟩
       . have:b=(q:Int):=by simpa using hb'
         have:=((hm a).mp ha).1
         omega
       . rw[zK,hm]
         constructor
         . rintro (⟨a,b⟩ | a)
           . exact⟨by omega,b⟩
           . have:p=(q:Int):=by simpa using a
             subst this
             exact⟨by omega,hb.mp c⟩
         . rintro ⟨a,b⟩
           by_cases e:p=(q:Int)
           . exact .inr (by simpa using e)
           . exact .inl ⟨by omega,b⟩
     . refine⟨hq,⟨hs,rfl,hp,fun p=>?_⟩,s3.trans s4,s4 _ _ hD3⟩
       rw[hm]
       constructor
       . rintro ⟨a,b⟩;exact⟨by omega,b⟩
       . rintro ⟨a,b⟩
         refine⟨?_,b⟩
         have:p≠(q:Int):=fun z=>by subst z;exact c (hb.mpr b)
         omega
   . obtain⟨_,⟨hs,rfl,hp,hm⟩,s3,hD3⟩:=z
     have hsl:hs.length<=24:=by
      have:=nd_len (n:=n.toNat) (l:=hs) (hp.imp fun z=>by omega) fun x hx=>by have:=((hm x).mp hx).1;omega
      omega
     refine⟨_,rfl,D,rfl,⟨_,SqL.of hD3⟩,[.ref wa,.ref rl,.int v],rfl,fun D2 hD2=>?_⟩
     refine zCX (a:=D) (xs:=hs.map V.int) (fun i ys H5=>i<=hs.length/\(∃(as:List Addr)(es:List En),ys=as.map V.ref/\zEv H5 as es/\es.map (·.h)=hs.take i/\∀e∈es,zMP ts n (rkf rks) v e)/\zA0 H3 H5/\H5 D2=some (.lst ys)) ⟨zi _,⟨[],[],rfl,⟨rfl,fun i a z=>by simp at z⟩,rfl,by simp⟩,zI hD2,zJ⟩ (fun i ys H5 z=>?_) (fun i ys H5 z=>?_) (fun i x ys H5 hx z=>?_) (fun ys H5 z=>?_)
     . exact SqL.of (z.2.2.1 _ _ hD3)
     . obtain⟨_,⟨as,es,rfl,EA,em,_⟩,_⟩:=z
       have:=congrArg List.length em
       rw[zD,zt] at this
       rw[zD,EA.1]
       exact zo (by omega)
     . obtain⟨_,⟨as,es,rfl,EA,em,he⟩,s5,hD5⟩:=z
       obtain⟨p,hpi,rfl⟩:∃p,hs[i]? = some p/\V.int p=x:=by
        rw[zQ] at hx
        cases e:hs[i]? with
        | none=>rw[e] at hx;cases hx
        | some p=>rw[e] at hx;exact⟨p,rfl,zf hx⟩
       have hpm:=(hm p).mp (zW hpi)
       have s35:=s3.trans s5
       refine⟨⟨rfl,rfl⟩,?_⟩
       refine zGc ?_
       refine⟨_,rfl,_,rfl,_,rfl,_,rfl,wa,rl,ra,rs,M,rks,n,ts,v,p,rfl,W.keep s35,L.same s35,by omega,by omega,v0,v1,hpm.2,fun a e H6 s6 ha ep he'=>?_⟩
       refine⟨s6 _ _ hD5,(zL.mp hpi).1,⟨as++[a],es++[e],by rw[zX];rfl,(EA.keep fun b zs z=>?_).snoc ?_,?_,fun x hx'=>?_⟩,zAz (s5.trans s6) hD2,zJ⟩
       . rw[zb (zB1 z hD5 (by intro y;cases y))];exact s6 _ _ z
       . rw[zb (zB1 ha (s6 _ _ hD5) (by intro y;cases y))];exact ha
       . rw[zX,em,zAF,hpi,<-ep];rfl
       . rcases zK.mp hx' with z | z
         . exact he x z
         . have:x=e:=by simpa using z
           subst this;exact he'
     . obtain⟨_,⟨as,es,rfl,EA,em,he⟩,s5,hD5⟩:=z
       rw[zD,za (zH _)] at em
       have hel:es.length<=24:=by have:=congrArg List.length em;rw[zD] at this;omega
       refine⟨D2,_,rfl,.inl ⟨SqL.of hD5,fun l hl=>?_⟩⟩
       refine k l es _ ((s3.trans s5).trans (zI hl)) ⟨as,zJ,EA.keep fun b zs z=>zI hl _ _ z,by omega⟩ ⟨?_,he,fun h h0 h1 z=>?_,hel⟩
       . have:=hp
         rw[<-em,zBC] at this
         exact this
       . have:h∈es.map (·.h):=by rw[em];exact (hm h).mpr ⟨by omega,z⟩
         obtain⟨e,e1,e2⟩:=zAM.mp this
         exact⟨e,e1,e2⟩
theorem zLh:zAH ["web", "order", "rows", "ranks"] ["web", "order"] (defScope sByo):=⟨rfl,rfl,rfl,by decide +kernel,rfl,by decide +kernel,by decide +kernel⟩
theorem ok_byo {f fO fL fB:Addr}{fd' fdO fdL fdB:FuncData}(F:Fun K "by_order" "by_order" sByo f fd') (FO:Fun K "is_order" "is_order" sOrd fO fdO) (bO:zAA K fdO ["web", "thing"] []) (mO:mg "is_order" = some (.ref fO)) (GO:zAi P w K mg base CX0 5 fO fdO ["web", "thing"] zJ8)
 (FL:Fun K "lengths" "lengths" zIm fL fdL) (bL:zAA K fdL ["web"] []) (mL:mg "lengths" = some (.ref fL)) (GL:zAi P w K mg base CX0 5 fL fdL ["web"] (zIY PT))
 (FB:Fun K "label_by_ranks" "label_by_ranks" sLbr fB fdB) (bB:zAA K fdB ["web", "rows", "ranks", "place"] []) (mB:mg "label_by_ranks" = some (.ref fB)) (GB:zAi P w K mg base CX0 5 fB fdB ["web", "rows", "ranks", "place"] zLZ) (mRange:mg "range" = none) (mTuple:mg "tuple" = none) :
 zAi P w K mg base CX0 6 f fd' ["web", "order"] (zLa PT):=by
 refine F.ok zLh (fun vs H Q E h=>?_) (fun cdv A outer s H vs Q E hr h=>?_)
 . obtain⟨wa,p,n,ts,os,rfl,_⟩:=h
   rfl
 . obtain⟨wa,p,n,ts,os,rfl,W,hp,O,T,k⟩:=h
   obtain⟨ta,tys,hwa,_,_,G⟩:=id W
   have hn1:=G.n1
   have hn24:=G.n24
   refine⟨_,zV (zBr (zCw (zCb (zp GO hr rfl mO FO.kp bO .nil zAX (zG (pv 0) (zG (pv 1) zO))))) (zm ps_no) zAh)
    (zV (zAW (i:=2) zLh.nd rfl (Or.inr rfl) (zp GL hr rfl mL FL.kp bL .nil zAX (zG (pv 0) zO)))
    (zV (zAW (i:=3) zLh.nd rfl (Or.inr rfl) (zBK (own:=["place"]) (cn:=["order"]) (ci:=[1]) rfl (csc rfl rfl) ⟨rfl,rfl,rfl,trivial⟩ rfl
     (zBJ rfl mRange (zG (zAC zAE (pv 0) ze (fun _ _=>rfl)) zO)) (fun _ _ _ _=>zAI (i:=0) (zCK rfl) rfl (Or.inl rfl)) (fun _ _ _ _=>zBv)
     (fun _ _ _ _=>pe_bmT PySem.F.slot_tuple_index PySem.F.type_tuple_index zI9 (pv 1) (zG (pv 0) zO))))
    (zm (zAK (zAu zAe (by rfl) mTuple (by decide +kernel) (zG (zBK (own:=["place"]) (cn:=["web", "rows", "ranks"]) (ci:=[0,2,3]) rfl (csc rfl rfl) ⟨rfl,rfl,rfl,rfl,rfl,rfl,rfl,rfl,rfl,trivial⟩ rfl
     (zBJ rfl mRange (zG (zAC zAE (pv 0) ze (fun _ _=>rfl)) zO)) (fun _ _ _ _=>zAI (i:=0) (zCK rfl) rfl (Or.inl rfl)) (fun _ _ _ _=>zBv)
     (fun _ _ _ _=>zp GB hr rfl mB FB.kp bB .nil zAX (zG (pv 1) (zG (pv 2) (zG (pv 3) (zG (pv 0) zO)))))) zO)))))),?_⟩
   refine⟨_,rfl,_,rfl,wa,p,n,ts,os,rfl,W,hp,O,fun H0 s0=>?_⟩
   refine⟨_,rfl,zCm ?_⟩
   refine⟨_,rfl,wa,n,ts,rfl,W.keep s0,T.same s0,fun rl rs M H1 sm1 T1 hrl RA RR=>?_⟩
   have sm01:SmT H H1:=(SmT.of s0).trans sm1
   have hwa1:H1 wa=some (.tup [.int n,.ref ta]):=sm01.get hwa (by intro ps z;cases z)
   have hp1:H1 p=some (.tup (os.map V.int)):=sm01.get hp (by intro ps z;cases z)
   have W1:zB3 H1 wa n ts:=W.smT sm01
   refine⟨_,rfl,wa,_,_,_,rfl,rfl,SqT.of hwa1,rfl,n,rfl,by omega,by omega,[.ref p],rfl,fun D hD=>?_⟩
   refine zBt (lo:=0) (n:=n.toNat) (fun q ys H3=>q<=n.toNat/\(∃rk:List Int,ys=rk.map V.int/\rk.length=q/\∀(j:Nat)(x:Int),rk[j]? = some x->0<=x/\os[x.toNat]? = some (j:Int))/\H3=upd H1 D (.lst ys)) ⟨zi _,⟨[],rfl,rfl,fun j x z=>by simp at z⟩,rfl⟩ (fun q ys H3 z=>?_) (fun q ys H3 hq z=>?_) (fun ys H3 z=>?_)
   . obtain⟨_,⟨rk,rfl,hl,_⟩,_⟩:=z
     rw[zD]
     exact zo (by omega)
   . obtain⟨_,⟨rk,rfl,hl,hrk⟩,rfl⟩:=z
     rw[zBQ]
     obtain⟨i,hi,ei⟩:=zx (O.mem (p:=(q:Int)) (by omega) (by omega))
     have hoi:os[i]? = some (q:Int):=by rw[zE hi,ei]
     have hp3:=zI (o:=.lst (rk.map V.int)) hD _ _ hp1
     refine⟨⟨rfl,rfl⟩,?_⟩
     refine zGc ?_
     refine⟨_,rfl,⟨p,_,rfl,hp3⟩,_,rfl,p,os,i,q,rfl,rfl,SqT.of hp3,hoi,fun j hj e=>?_,zJ,hq,⟨rk++[(i:Int)],by rw[zX];rfl,by rw[zC,hl];rfl,fun j x hx=>?_⟩,zB8⟩
     . obtain⟨hj',ej⟩:=zL.mp e
       exact zu.mp (zAR.mp O.nd) j i hj' hi hj (by rw[ej,ei])
     . by_cases c:j<rk.length
       . rw[zj c] at hx
         exact hrk j x hx
       . have hj:j=q:=by
          have:=(zL.mp hx).1
          rw[zC] at this
          simp at this;omega
         subst hj
         rw[zk (by omega),hl,Nat.sub_self] at hx
         have:(i:Int)=x:=by simpa using hx
         subst this
         exact⟨by omega,hoi⟩
   . obtain⟨_,⟨rk,rfl,hl,hrk⟩,rfl⟩:=z
     have sD:zA0 H1 (upd H1 D (.lst (rk.map V.int))):=zI hD
     have hDr:(upd H1 D (.lst (rk.map V.int))) D=some (.lst (rk.map V.int)):=zJ
     generalize upd H1 D (.lst (rk.map V.int))=H4 at sD hDr ⊢
     have L:zJw H4 rl D rs M rk n ts:=⟨sD _ _ hrl,RA.same sD,RR,hDr,hl,G⟩
     have W4:=W1.keep sD
     refine⟨_,rfl,wa,_,_,_,rfl,rfl,SqT.of (sD _ _ hwa1),rfl,n,rfl,by omega,by omega,[.ref wa,.ref rl,.ref D],rfl,fun D2 hD2=>?_⟩
     refine zBt (lo:=0) (n:=n.toNat) (fun q ys H5=>q<=n.toNat/\(∃(as:List Addr)(ess:List (List En)),ys=as.map V.ref/\as.length=q/\ess.length=q/\(∀(i:Nat)(a:Addr),as[i]? = some a->∃es,ess[i]? = some es/\zFd H5 a es)/\∀(i:Nat)(es:List En),ess[i]? = some es->zMN ts n (rkf rk) i es)/\zA0 H4 H5/\H5 D2=some (.lst ys)) ⟨zi _,⟨[],[],rfl,rfl,rfl,fun i a z=>by simp at z,fun i a z=>by simp at z⟩,zI hD2,zJ⟩ (fun q ys H5 z=>?_) (fun q ys H5 hq z=>?_) (fun ys H5 z=>?_)
     . obtain⟨_,⟨as,ess,rfl,h1,_⟩,_⟩:=z
       rw[zD]
       exact zo (by omega)
     . obtain⟨_,⟨as,ess,rfl,h1,h2,h3,h4⟩,s5,hD5⟩:=z
       rw[zBQ]
       refine⟨⟨rfl,rfl⟩,?_⟩
       refine zGc ?_
       refine⟨_,rfl,_,rfl,_,rfl,_,rfl,wa,rl,D,rs,M,rk,n,ts,q,rfl,W4.keep s5,L.same s5,by omega,by omega,fun a es H6 s6 la lo=>?_⟩
       refine⟨s6 _ _ hD5,hq,⟨as++[a],ess++[es],by rw[zX];rfl,by rw[zC,h1];rfl,by rw[zC,h2];rfl,fun i b hb=>?_,fun i es' he=>?_⟩,zAz (s5.trans s6) hD2,zJ⟩
       . have keep:∀c zs,H6 c=some (.tup zs)->(upd H6 D2 (.lst (as.map V.ref++[.ref a]))) c=some (.tup zs):=fun c zs z=>by rw[zb (zB1 z (s6 _ _ hD5) (by intro y;cases y))];exact z
         by_cases c:i<as.length
         . rw[zj c] at hb
           obtain⟨es',e1,e2⟩:=h3 i b hb
           exact⟨es',by rw[zj (by omega)];exact e1,(e2.same s6).keep keep⟩
         . have hi:i=q:=by
            have:=(zL.mp hb).1
            rw[zC] at this
            simp at this;omega
           subst hi
           rw[zk (by omega),h1,Nat.sub_self] at hb
           have:a=b:=by simpa using hb
           subst this
           exact⟨es,by rw[zk (by omega),h2,Nat.sub_self];rfl,la.keep keep⟩
       . by_cases c:i<ess.length
         . rw[zj c] at he
           exact h4 i es' he
         . have hi:i=q:=by
            have:=(zL.mp he).1
            rw[zC] at this
            simp at this;omega
           subst hi
           rw[zk (by omega),h2,Nat.sub_self] at he
           have:es=es':=by simpa using he
           subst this
           exact lo
     . obtain⟨_,⟨as,ess,rfl,h1,h2,h3,h4⟩,s5,hD5⟩:=z
       refine⟨D2,_,rfl,.inl ⟨SqL.of hD5,fun l hl'=>?_⟩⟩
       have s6:zA0 H1 (upd H5 l (.tup (as.map V.ref))):=(sD.trans s5).trans (zI hl')
       refine k l ess (rkf rk) _ (sm01.trans (SmT.of s6)) (T1.same s6) ⟨as,zJ,by omega,fun i a ha=>?_⟩ (fun p h0 h1'=>?_) ⟨h2,h4⟩
       . obtain⟨es,e1,e2⟩:=h3 i a ha
         exact⟨es,e1,e2.same (zI hl')⟩
       . have hlt:p.toNat<rk.length:=by omega
         have e:rk[p.toNat]? = some (rkf rk p):=by
          unfold rkf
          rw[zM,zE hlt];rfl
         obtain⟨a,b⟩:=hrk _ _ e
         exact⟨a,by rw[b,Int.toNat_of_nonneg h0]⟩
end
end K40
namespace K40
open PySem L2 WM
theorem zBj {H:Hp}{xs:List V}{ds:List PyData}(h:zAT H xs ds):xs.length=ds.length:=by
 induction xs generalizing ds with
 | nil=>cases h;rfl
 | cons x xs ih=>
  cases h with
  | cons a b=>rw[zd,zd,ih b]
theorem zAY {H H':Hp}(k:zA0 H H'){v:V}{d:PyData}(s:zAy H v d):zAy H' v d:=
 zAy.rec (motive_1:=fun v d _=>zAy H' v d) (motive_2:=fun xs ds _=>zAT H' xs ds) .non (fun b=>.bl b) (fun i=>.int i) (fun x=>.str x) (fun e _ ih=>.tup (k _ _ e) ih) (fun e _ ih=>.lst (k _ _ e) ih) .nil (fun _ _ i1 i2=>.cons i1 i2) s
theorem sh_int {H:Hp}:∀{xs:List V}{os:List Int},zAT H xs (os.map PyData.int)->xs=os.map V.int:=by
 intro xs os h
 induction os generalizing xs with
 | nil=>cases h;rfl
 | cons o os ih=>
  cases h with
  | cons a b=>
   cases a
   rw[ih b]
   rfl
noncomputable def zIM:List Int->Bool
 | a::b::r=>decide (a<b) && zIM (b::r)
 | _=>true
theorem zIq:∀(ms:List Int),zIM ms=(List.range (ms.length-1)).all fun k=>decide (ms.getD k 0<ms.getD (k+1) 0)
 | []=>rfl
 | [_]=>rfl
 | a::b::r=>by
  show (decide (a<b) && zIM (b::r))=_
  rw[zIq (b::r)]
  show _=(List.range (r.length+1)).all _
  rw[List.range_succ_eq_map,List.all_cons,List.all_map]
  rfl
theorem zHI:∀(ms:List Int),zIM ms=true↔ms.Pairwise (· < ·)
 | []=>by simp[zIM]
 | [_]=>by simp[zIM]
 | a::b::r=>by
  have ih:=zHI (b::r)
  show (decide (a<b) && zIM (b::r))=true↔_
  rw[zA8,ih,decide_eq_true_iff,zBg (a:=a)]
  constructor
  . rintro ⟨h1,h2⟩
    refine⟨fun x hx=>?_,h2⟩
    rcases zT.mp hx with rfl | hx
    . exact h1
    . have:=(zBg.mp h2).1 x hx
      omega
  . rintro ⟨h1,h2⟩
    exact⟨h1 b zY,h2⟩
noncomputable def spRis:Sp:=fun vs H Q _=>∃(p:Addr)(xs:List Int),vs=[.ref p]/\H p=some (.tup (xs.map V.int))/\xs.length<=1000/\∀H',zA0 H H'->Q (.bl (zIM xs)) H'
section
variable {P:Program}{w:World}{K:PySem.W.Frag}{mg:Str->Option Value}{base:Heap}
theorem scRis:zAH ["things"] ["things"] (defScope sRis):=⟨rfl,rfl,rfl,by decide +kernel,rfl,by decide +kernel,by decide +kernel⟩
theorem ok_ris {f:Addr}{fd':FuncData}(F:Fun K "is_rising" "is_rising" sRis f fd') (mLen:mg "len" = none) (mRange:mg "range" = none) (mAll:mg "all" = none):zAi P w K mg base CX0 1 f fd' ["things"] spRis:=by
 refine F.ok scRis (fun vs H Q E h=>?_) (fun cdv A outer s H vs Q E hr h=>?_)
 . obtain⟨p,xs,rfl,_⟩:=h
   rfl
 . obtain⟨p,xs,rfl,hp,hl,k⟩:=h
   refine⟨_,zm (zAK (zAD (zDm rfl) (by rfl) mAll (by decide +kernel) (zG (zBK (own:=["k"]) (cn:=["things"]) (ci:=[0]) rfl (csc rfl rfl) ⟨rfl,rfl,rfl,trivial⟩ rfl
    (zFx rfl mRange (zG ze (zG (zAD zAQ (by rfl) mLen PySem.boot_len (zG (pv 0) zO)) zO))) (fun _ _ _ _=>zAI (i:=0) (zCK rfl) rfl (Or.inl rfl)) (fun _ _ _ _=>zBv)
    (fun _ _ _ _=>zCr zIz (zAC zCB (pv 1) (zBD zHQ (pv 0) ze) (fun _ _=>rfl)) (zAC zCB (pv 1) (pv 0) (fun _ _=>rfl)) (zAZ _))) zO))),?_⟩
   refine⟨_,rfl,p,_,rfl,.inr (SqT.of hp),1,_,rfl,⟨by decide,by decide,by rw[zD];omega,by rw[zD];omega⟩,[.ref p],rfl,fun D hD=>?_⟩
   refine zBt (lo:=1) (n:=(((xs.map V.int).length:Int)-1).toNat) (fun q ys H4=>q<=(((xs.map V.int).length:Int)-1).toNat/\ys=((List.range q).map fun k=>decide (xs.getD k 0<xs.getD (k+1) 0)).map V.bl/\H4=upd H D (.lst ys)) ⟨zi _,rfl,rfl⟩ (fun q ys H4 z=>?_) (fun q ys H4 hq z=>?_) (fun ys H4 z=>?_)
   . obtain⟨hq,rfl,_⟩:=z
     rw[zD] at hq
     rw[zD,zD,zAb]
     exact zo (by omega)
   . obtain⟨_,rfl,rfl⟩:=z
     rw[zD] at hq
     have hp4:=zI (o:=.lst (((List.range q).map fun k=>decide (xs.getD k 0<xs.getD (k+1) 0)).map V.bl)) hD _ _ hp
     have h1:q<xs.length:=by omega
     have h2:q+1<xs.length:=by omega
     refine⟨⟨rfl,rfl⟩,?_⟩
     refine zGc ?_
     refine⟨_,rfl,_,rfl,_,_,rfl,rfl,p,_,_,.int xs[q],rfl,rfl,SqT.of hp4,zBm (by omega) (by rw[show ((1:Int)+q-1).toNat=q by omega,zQ,zE h1];rfl),_,rfl,_,rfl,p,_,_,.int xs[q+1],rfl,rfl,SqT.of hp4,zBm (by omega) (by rw[show ((1:Int)+q).toNat=q+1 by omega,zQ,zE h2];rfl),_,_,rfl,rfl,zJ,by rw[zD];omega,?_,zB8⟩
     have d1:xs.getD q 0=xs[q]:=by rw[zM,zE h1];rfl
     have d2:xs.getD (q+1) 0=xs[q+1]:=by rw[zM,zE h2];rfl
     rw[List.range_succ,zX,zX]
     show _=_++[V.bl (decide (xs.getD q 0<xs.getD (q+1) 0))]
     rw[d1,d2]
   . obtain⟨_,rfl,rfl⟩:=z
     refine⟨D,_,rfl,SqL.of zJ,?_⟩
     have e:(((List.range (((xs.map V.int).length:Int)-1).toNat).map fun k=>decide (xs.getD k 0<xs.getD (k+1) 0)).all id)=zIM xs:=by
      rw[zIq,List.all_map,zD,show ((xs.length:Int)-1).toNat=xs.length-1 by omega]
      rfl
     rw[e]
     exact k _ (zI hD)
end
inductive Pln where
 | mk (ps:List Int)(ks:List Pln)
mutual
noncomputable def zAL:Pln->List Int
 | .mk ps ks=>ps++zAJ ks
noncomputable def zAJ:List Pln->List Int
 | []=>[]
 | k::ks=>zAL k++zAJ ks
end
mutual
noncomputable def chO (x:Int):Pln->Option (List Int)
 | .mk ps ks=>if x∈ps then some ps else (zDD x ks).map (ps ++ ·)
noncomputable def zDD (x:Int):List Pln->Option (List Int)
 | []=>none
 | k::ks=>match chO x k with
  | some r=>some r
  | none=>zDD x ks
end
mutual
noncomputable def zJa:Pln->Nat
 | .mk ps ks=>ps.length+zDg ks
noncomputable def zDg:List Pln->Nat
 | []=>0
 | k::ks=>max (zJa k) (zDg ks)
end
mutual
noncomputable def hgt:Pln->Nat
 | .mk _ ks=>zDP ks+1
noncomputable def zDP:List Pln->Nat
 | []=>0
 | k::ks=>max (hgt k) (zDP ks)
end
mutual
noncomputable def plD:Pln->PyData
 | .mk ps ks=>.tuple [.tuple (ps.map PyData.int),.tuple (zDO ks)]
noncomputable def zDO:List Pln->List PyData
 | []=>[]
 | k::ks=>plD k::zDO ks
end
theorem zBz:∀ks:List Pln,(zDO ks).length=ks.length
 | []=>rfl
 | _::ks=>by rw[zDO,zd,zd,zBz ks]
theorem zCH {k:Pln}:∀{ks:List Pln},k∈ks->hgt k<=zDP ks
 | [],h=>by cases h
 | j::ks,h=>by
  rw[zDP]
  rcases zT.mp h with rfl | h
  . omega
  . have:=zCH h
    omega
theorem zDq {k:Pln}:∀{ks:List Pln}{i:Nat},ks[i]? = some k->zAJ (ks.take (i+1))=zAJ (ks.take i)++zAL k
 | [],_,h=>by cases h
 | j::ks,0,h=>by
  cases h
  show zAL k++zAJ (ks.take 0)=zAJ []++zAL k
  simp[zAJ]
 | j::ks,i+1,h=>by
  show zAL j++zAJ (ks.take (i+1))=(zAL j++zAJ (ks.take i))++zAL k
  rw[zDq (ks:=ks) (by simpa using h),zAd]
theorem zBx {k:Pln}:∀{ks:List Pln},k∈ks->(zAL k).length<=(zAJ ks).length
 | [],h=>by cases h
 | j::ks,h=>by
  rw[zAJ,zC]
  rcases zT.mp h with rfl | h
  . omega
  . have:=zBx h
    omega
theorem zEa:∀(ks:List Pln)(i:Nat),(zAJ (ks.take i)).length<=(zAJ ks).length
 | ks,0=>by simp[zAJ]
 | [],_+1=>zH _
 | k::ks,i+1=>by
  show (zAL k++zAJ (ks.take i)).length<=(zAL k++zAJ ks).length
  rw[zC,zC]
  have:=zEa ks i
  omega
theorem zDS {H:Hp}:∀{zs:List V}{ks:List Pln}{i:Nat}{z:V},zAT H zs (zDO ks)->zs[i]? = some z->∃k,ks[i]? = some k/\zAy H z (plD k)
 | [],_,_,_,_,h=>by cases h
 | z::zs,[],_,_,s,_=>by cases s
 | z::zs,k::ks,i,y,s,h=>by
  rw[zDO] at s
  cases s with
  | cons a b=>
   cases i with
   | zero=>cases h;exact⟨k,rfl,a⟩
   | succ i=>
    obtain⟨k',h1,h2⟩:=zDS (ks:=ks) (i:=i) b (by simpa using h)
    exact⟨k',by simpa using h1,h2⟩
theorem zDU {H:Hp}{v:V}{ps:List Int}{ks:List Pln}(S:zAy H v (plD (.mk ps ks))):∃(a b c:Addr)(zs:List V),v = .ref a/\H a=some (.tup [.ref b,.ref c])/\H b=some (.tup (ps.map V.int))/\H c=some (.tup zs)/\zAT H zs (zDO ks):=by
 rw[plD] at S
 cases S with
 | tup e al=>cases al with
  | cons s1 al=>cases al with
   | cons s2 al=>
    cases al
    cases s1 with
    | tup e1 a1=>cases s2 with
     | tup e2 a2=>
      rw[sh_int a1] at e1
      exact⟨_,_,_,_,rfl,e,e1,e2,a2⟩
noncomputable def spPo (h:Nat):Sp:=fun vs H Q _=>∃(v:V)(p:Pln),vs=[v]/\zAy H v (plD p)/\hgt p<=h/\(zAL p).length<=1000/\∀(l:Addr)(H':Hp),zA0 H H'->H' l=some (.tup ((zAL p).map V.int))->Q (.ref l) H'
noncomputable def spLf (h:Nat):Sp:=fun vs H Q _=>∃(v:V)(p:Pln),vs=[v]/\zAy H v (plD p)/\hgt p<=h/\(zAL p).length<=1000/\∀(l:Addr)(H':Hp),zA0 H H'->H l=none->H' l=some (.lst ((zAL p).map V.int))->Q (.ref l) H'
section
variable {P:Program}{w:World}{K:PySem.W.Frag}{mg:Str->Option Value}{base:Heap}
theorem scPo:zAH ["plan", "found", "part"] ["plan"] (defScope sPo):=⟨rfl,rfl,rfl,by decide +kernel,rfl,by decide +kernel,by decide +kernel⟩
theorem ok_po {f:Addr}{fd':FuncData}(F:Fun K "plan_order" "plan_order" sPo f fd') (bF:zAA K fd' ["plan"] []) (mF:mg "plan_order" = some (.ref f)) (mList:mg "list" = none) (mTuple:mg "tuple" = none):∀h:Nat,zAi P w K mg base CX0 (h+1) f fd' ["plan"] (spPo h)
 | 0=>F.ok scPo (fun vs H Q E h=>by obtain⟨v,p,rfl,_⟩:=h;rfl) (fun cdv A outer s H vs Q E hr h=>by
  obtain⟨v,⟨ps,ks⟩,rfl,_,h0,_⟩:=h
  rw[hgt] at h0
  omega)
 | h+1=>by
  have GP:=ok_po F bF mF mList mTuple h
  refine F.ok scPo (fun vs H Q E h=>?_) (fun cdv A outer s H vs Q E hr h=>?_)
  . obtain⟨v,p,rfl,_⟩:=h
    rfl
  . obtain⟨v,⟨ps,ks⟩,rfl,S,hh,hl,k⟩:=h
    rw[hgt] at hh
    rw[zAL] at hl k
    obtain⟨a,b,c,zs,rfl,ha,hb,hc,al⟩:=zDU S
    have hzl:=zBj al
    rw[zBz] at hzl
    refine⟨_,zV (zAW (i:=1) scPo.nd rfl (Or.inl rfl) (zAu zCf (by rfl) mList (by decide +kernel) (zG (zAC zAE (pv 0) ze (fun _ _=>rfl)) zO)))
     (zV (zCc PassesOwn.never rfl (zCM (zAC zAE (pv 0) ze (fun _ _=>rfl))) (zAI (i:=2) scPo.nd rfl (Or.inl rfl))
      (zm (zCS (zF0 PySem.F.plainAttrs_list PySem.F.slot_list_extend PySem.F.type_list_extend zHy (pv 1) (zG (zp GP hr rfl mF F.kp bF .nil zAX (zG (pv 2) zO)) zO)))))
     (zm (zAK (zAu zAe (by rfl) mTuple (by decide +kernel) (zG (pv 1) zO))))),?_⟩
    refine⟨_,rfl,_,_,_,_,rfl,rfl,SqT.of ha,rfl,b,_,rfl,.inr (SqT.of hb),fun D hD=>?_⟩
    have s1:=zI (o:=.lst (ps.map V.int)) hD
    refine⟨_,rfl,_,_,_,_,rfl,rfl,SqT.of (s1 _ _ ha),rfl,c,rfl,⟨_,SqT.of (s1 _ _ hc)⟩,zDL (K:=K) (a:=c) (xs:=zs) (fun i σ H2=>∃vt:Option V,σ=[some (.ref a),some (.ref D),vt]/\i<=ks.length/\H2 D=some (.lst ((ps++zAJ (ks.take i)).map V.int))/\zA0 H H2)
     ⟨none,rfl,zi _,by rw[zJ];simp[zAJ],s1⟩ (fun i σ H2 _ z=>?_) (fun i x σ H2 hx z=>?_) (fun σ H2 z=>?_)⟩
    . obtain⟨_,_,_,_,s2⟩:=z
      exact SqT.of (s2 _ _ hc)
    . obtain⟨vt,rfl,hi,h2,s2⟩:=z
      obtain⟨kd,hk,Sk⟩:=zDS al hx
      have hkm:=zW hk
      have hil:=(zL.mp hk).1
      have hf:=zDq hk
      have hkl:=zBx hkm
      have hkh:=zCH hkm
      have hlen:(zAJ (ks.take (i+1))).length<=(zAJ ks).length:=zEa ks (i+1)
      rw[hf,zC] at hlen
      rw[zC] at hl
      refine⟨_,rfl,.inl ⟨rfl,_,SqL.of h2⟩,_,rfl,x,kd,rfl,zAY s2 Sk,by omega,by omega,fun l H3 s3 h3=>?_⟩
      refine⟨D,l,_,_,rfl,rfl,s3 _ _ h2,h3,?_,?_⟩
      . rw[zD,zD,zC]
        exact zAl (zo (by omega))
      . exact⟨_,rfl,hil,by rw[hf,zJ,<-zX,zAd],zAz (s2.trans s3) hD⟩
    . obtain⟨vt,rfl,hi,h2,s2⟩:=z
      rw[hzl,za (zH _)] at h2
      refine⟨_,rfl,D,_,rfl,.inl ⟨SqL.of h2,fun l hl'=>?_⟩⟩
      exact k l _ (s2.trans (zI hl')) zJ
theorem scLf:zAH ["_law_plan", "_law_found", "_law_one"] ["_law_plan"] (defScope sLf):=⟨rfl,rfl,rfl,by decide +kernel,rfl,by decide +kernel,by decide +kernel⟩
theorem ok_lf {f:Addr}{fd':FuncData}(F:Fun K "_law_flat" "_law_flat" sLf f fd') (bF:zAA K fd' ["_law_plan"] []) (mF:mg "_law_flat" = some (.ref f)) (mList:mg "list" = none):∀h:Nat,zAi P w K mg base CX0 (h+1) f fd' ["_law_plan"] (spLf h)
 | 0=>F.ok scLf (fun vs H Q E h=>by obtain⟨v,p,rfl,_⟩:=h;rfl) (fun cdv A outer s H vs Q E hr h=>by
  obtain⟨v,⟨ps,ks⟩,rfl,_,h0,_⟩:=h
  rw[hgt] at h0
  omega)
 | h+1=>by
  have GP:=ok_lf F bF mF mList h
  refine F.ok scLf (fun vs H Q E h=>?_) (fun cdv A outer s H vs Q E hr h=>?_)
  . obtain⟨v,p,rfl,_⟩:=h
    rfl
  . obtain⟨v,⟨ps,ks⟩,rfl,S,hh,hl,k⟩:=h
    rw[hgt] at hh
    rw[zAL] at hl k
    obtain⟨a,b,c,zs,rfl,ha,hb,hc,al⟩:=zDU S
    have hzl:=zBj al
    rw[zBz] at hzl
    refine⟨_,zV (zAW (i:=1) scLf.nd rfl (Or.inl rfl) (zAu zCf (by rfl) mList (by decide +kernel) (zG (zAC zAE (pv 0) ze (fun _ _=>rfl)) zO)))
     (zV (zCc PassesOwn.never rfl (zCM (zAC zAE (pv 0) ze (fun _ _=>rfl))) (zAI (i:=2) scLf.nd rfl (Or.inl rfl))
      (zm (zAW (i:=1) scLf.nd rfl (Or.inl rfl) (zBD zF3 (pv 1) (zp GP hr rfl mF F.kp bF .nil zAX (zG (pv 2) zO))))))
     (zm (zAK (pv 1)))),?_⟩
    refine⟨_,rfl,_,_,_,_,rfl,rfl,SqT.of ha,rfl,b,_,rfl,.inr (SqT.of hb),fun D hD=>?_⟩
    have s1:=zI (o:=.lst (ps.map V.int)) hD
    refine⟨_,rfl,_,_,_,_,rfl,rfl,SqT.of (s1 _ _ ha),rfl,c,rfl,⟨_,SqT.of (s1 _ _ hc)⟩,zDL (K:=K) (a:=c) (xs:=zs) (fun i σ H2=>∃(D:Addr)(vt:Option V),σ=[some (.ref a),some (.ref D),vt]/\i<=ks.length/\H D=none/\H2 D=some (.lst ((ps++zAJ (ks.take i)).map V.int))/\zA0 H H2)
     ⟨D,none,rfl,zi _,hD,by rw[zJ];simp[zAJ],s1⟩ (fun i σ H2 _ z=>?_) (fun i x σ H2 hx z=>?_) (fun σ H2 z=>?_)⟩
    . obtain⟨_,_,_,_,_,_,s2⟩:=z
      exact SqT.of (s2 _ _ hc)
    . obtain⟨D,vt,rfl,hi,hD,h2,s2⟩:=z
      obtain⟨kd,hk,Sk⟩:=zDS al hx
      have hkm:=zW hk
      have hil:=(zL.mp hk).1
      have hf:=zDq hk
      have hkl:=zBx hkm
      have hkh:=zCH hkm
      have hlen:(zAJ (ks.take (i+1))).length<=(zAJ ks).length:=zEa ks (i+1)
      rw[hf,zC] at hlen
      rw[zC] at hl
      refine⟨_,rfl,_,rfl,x,kd,rfl,zAY s2 Sk,by omega,by omega,fun l H3 s3 _ h3=>?_⟩
      refine⟨D,l,_,_,rfl,rfl,s3 _ _ h2,h3,?_,fun p hp=>?_⟩
      . rw[zD,zD,zC]
        exact zAl (zo (by omega))
      . have s4:=s2.trans s3
        refine⟨p,_,rfl,hil,?_,by rw[hf,zJ,<-zX,zAd],s4.trans (zI hp)⟩
        cases e:H p with
        | none=>rfl
        | some o=>rw[s4 _ _ e] at hp;cases hp
    . obtain⟨D,vt,rfl,hi,hD,h2,s2⟩:=z
      rw[hzl,za (zH _)] at h2
      exact⟨_,rfl,k D _ s2 hD h2⟩
end
end K40
namespace K40
open PySem L2 WM
mutual
theorem zFa {x:Int}:∀(p:Pln){r:List Int},chO x p=some r->r.length<=(zAL p).length
 | .mk ps ks,r,h=>by
  rw[chO] at h
  rw[zAL,zC]
  split at h
  . cases h
    omega
  . rw[zAm] at h
    obtain⟨r',h1,rfl⟩:=h
    have:=zHg ks h1
    rw[zC]
    omega
theorem zHg {x:Int}:∀(ks:List Pln){r:List Int},zDD x ks=some r->r.length<=(zAJ ks).length
 | [],r,h=>by rw[zDD] at h;cases h
 | k::ks,r,h=>by
  rw[zDD] at h
  rw[zAJ,zC]
  split at h
  . next r' e=>
    cases h
    have:=zFa k e
    omega
  . have:=zHg ks h
    omega
end
theorem zJj {x:Int}{ks:List Pln}{i:Nat}{k:Pln}(h:ks[i]? = some k):zDD x (ks.drop i)=match chO x k with | some r=>some r | none=>zDD x (ks.drop (i+1)):=by
 obtain⟨hi,e⟩:=zL.mp h
 rw[List.drop_eq_getElem_cons hi,e,zDD]
 try (cases chO x k <;> rfl)
theorem zHb {k:Pln}:∀{ks:List Pln},k∈ks->zJa k<=zDg ks
 | [],h=>by cases h
 | j::ks,h=>by
  rw[zDg]
  rcases zT.mp h with rfl | h
  . omega
  . have:=zHb h
    omega
theorem zHc:∀{ks:List Pln},ks≠[]->∃k∈ks,zJa k=zDg ks
 | [],h=>absurd rfl h
 | [k],_=>⟨k,zY,by rw[zDg,zDg];omega⟩
 | k::j::ks,_=>by
  obtain⟨m,hm,e⟩:=zHc (ks:=j::ks) (by simp)
  by_cases c:zDg (j::ks)<=zJa k
  . exact⟨k,zY,by rw[zDg];omega⟩
  . exact⟨m,zR _ hm,by rw[zDg];omega⟩
mutual
noncomputable def zCy:Pln->Prop
 | .mk _ ks=>ks.length<=1000/\ks1 ks
noncomputable def ks1:List Pln->Prop
 | []=>True
 | k::ks=>zCy k/\ks1 ks
end
theorem zFT {k:Pln}:∀{ks:List Pln},ks1 ks->k∈ks->zCy k
 | [],_,h=>by cases h
 | j::ks,h,hm=>by
  rw[ks1] at h
  rcases zT.mp hm with rfl | hm
  . exact h.1
  . exact zFT h.2 hm
noncomputable def spCo (h:Nat):Sp:=fun vs H Q _=>∃(v:V)(p:Pln)(x:Int),vs=[v,.int x]/\zAy H v (plD p)/\hgt p<=h/\(zAL p).length<=1000/\(chO x p=none->∀H',zA0 H H'->Q .non H')/\(∀(r:List Int)(l:Addr)(H':Hp),chO x p=some r->zA0 H H'->H' l=some (.tup (r.map V.int))->Q (.ref l) H')
noncomputable def spCh (h:Nat):Sp:=fun vs H Q _=>∃(v:V)(p:Pln)(x:Int)(r:List Int),vs=[v,.int x]/\zAy H v (plD p)/\hgt p<=h/\(zAL p).length<64/\chO x p=some r/\(∀(ms:List Int)(l:Addr)(H':Hp),ms.Pairwise (· < ·)->(∀z,z∈ms↔z∈r)->zA0 H H'->H' l=some (.tup (ms.map V.int))->Q (.ref l) H')
noncomputable def spDe (h:Nat):Sp:=fun vs H Q _=>∃(v:V)(p:Pln),vs=[v]/\zAy H v (plD p)/\hgt p<=h/\(zAL p).length<=1000/\zCy p/\∀H',zA0 H H'->Q (.int (zJa p)) H'
section
variable {P:Program}{w:World}{K:PySem.W.Frag}{mg:Str->Option Value}{base:Heap}
theorem scCo:zAH ["plan", "place", "part", "rest"] ["plan", "place"] (defScope sCo):=⟨rfl,rfl,rfl,by decide +kernel,rfl,by decide +kernel,by decide +kernel⟩
theorem ok_co {f:Addr}{fd':FuncData}(F:Fun K "chain_or_none" "chain_or_none" sCo f fd') (bF:zAA K fd' ["plan", "place"] []) (mF:mg "chain_or_none" = some (.ref f)):∀h:Nat,zAi P w K mg base CX0 (h+1) f fd' ["plan", "place"] (spCo h)
 | 0=>F.ok scCo (fun vs H Q E h=>by obtain⟨v,p,x,rfl,_⟩:=h;rfl) (fun cdv A outer s H vs Q E hr h=>by
  obtain⟨v,⟨ps,ks⟩,x,rfl,_,h0,_⟩:=h
  rw[hgt] at h0
  omega)
 | h+1=>by
  have GP:=ok_co F bF mF h
  refine F.ok scCo (fun vs H Q E h=>?_) (fun cdv A outer s H vs Q E hr h=>?_)
  . obtain⟨v,p,x,rfl,_⟩:=h
    rfl
  . obtain⟨v,⟨ps,ks⟩,x,rfl,S,hh,hl,kn,ks'⟩:=h
    rw[hgt] at hh
    rw[zAL,zC] at hl
    rw[chO] at kn ks'
    obtain⟨a,b,c,zs,rfl,ha,hb,hc,al⟩:=zDU S
    have hzl:=zBj al
    rw[zBz] at hzl
    refine⟨_,zV (zBr (zAG zF2 (pv 1) (zAC zAE (pv 0) ze (fun _ _=>rfl)) (by with_unfolding_all rfl)) (zm (zAK (zAC zAE (pv 0) ze (fun _ _=>rfl)))) zAh)
     (zV (zCc PassesOwn.never rfl (zCM (zAC zAE (pv 0) ze (fun _ _=>rfl))) (zAI (i:=2) scCo.nd rfl (Or.inl rfl))
      (zV (zAW (i:=3) scCo.nd rfl (Or.inl rfl) (zp GP hr rfl mF F.kp bF .nil zAX (zG (pv 2) (zG (pv 1) zO))))
      (zm (zBr (zAG zGt (pv 3) zCT (zAZ _)) (zm (zAK (zBD zI2 (zAC zAE (pv 0) ze (fun _ _=>rfl)) (pv 3)))) zAh))))
     (zm (zAK zCT))),?_⟩
    refine⟨_,rfl,_,rfl,_,_,_,_,rfl,rfl,SqT.of ha,rfl,b,_,rfl,.inr (SqT.of hb),rfl,zBZ _,_,rfl,?_⟩
    show (if inV (.int x) (ps.map V.int)=true then _ else _)
    rw[zB0]
    by_cases cx:x∈ps
    . refine ifT (zP cx) ?_
      rw[if_pos cx] at ks'
      exact⟨_,rfl,_,_,_,_,rfl,rfl,SqT.of ha,rfl,ks' ps b H rfl (zA0.refl _) hb⟩
    . refine ifF (zZ cx) ?_
      rw[if_neg cx] at kn ks'
      refine⟨_,rfl,_,_,_,_,rfl,rfl,SqT.of ha,rfl,c,rfl,⟨_,SqT.of hc⟩,zDL (K:=K) (a:=c) (xs:=zs) (fun i σ H2=>∃v2 v3:Option V,σ=[some (.ref a),some (.int x),v2,v3]/\zDD x ks=zDD x (ks.drop i)/\zA0 H H2) ⟨none,none,rfl,rfl,zA0.refl _⟩ (fun i σ H2 _ z=>?_) (fun i y σ H2 hy z=>?_) (fun σ H2 z=>?_)⟩
      . obtain⟨_,_,_,_,s2⟩:=z
        exact SqT.of (s2 _ _ hc)
      . obtain⟨v2,v3,rfl,hd,s2⟩:=z
        obtain⟨kd,hk,Sk⟩:=zDS al hy
        have hkm:=zW hk
        have hkl:=zBx hkm
        have hkh:=zCH hkm
        rw[zJj hk] at hd
        refine⟨_,rfl,_,rfl,y,kd,x,rfl,zAY s2 Sk,by omega,by omega,fun e H3 s3=>?_,fun r l H3 e s3 h3=>?_⟩
        . rw[e] at hd
          refine⟨_,rfl,rfl,_,rfl,ifF rfl ?_⟩
          exact⟨_,_,rfl,hd,s2.trans s3⟩
        . rw[e] at hd
          have hrl:=zFa kd e
          have s23:=s2.trans s3
          refine⟨_,rfl,rfl,_,rfl,ifT rfl ?_⟩
          have ke:∀(l:Addr)(H':Hp),zA0 H H'->H' l=some (.tup ((ps++r).map V.int))->Q (.ref l) H':=fun l H' s' h'=>ks' (ps++r) l H' (by rw[hd];rfl) s' h'
          refine⟨_,rfl,_,_,_,_,rfl,rfl,SqT.of (s23 _ _ ha),rfl,_,rfl,b,l,ps.map V.int,r.map V.int,rfl,rfl,SqT.of (s23 _ _ hb),SqT.of h3,?_,fun e0=>?_,fun _ e0=>?_,fun _ _ p hp=>?_⟩
          . rw[zD,zD]
            exact zAl (zo (by omega))
          . have:ps=[]:=List.map_eq_nil_iff.mp e0
            subst this
            exact ke l H3 s23 h3
          . have:r=[]:=List.map_eq_nil_iff.mp e0
            subst this
            exact ke b H3 s23 (by rw[zq];exact s23 _ _ hb)
          . exact ke p _ (s23.trans (zI hp)) (by rw[zX];exact zJ)
      . obtain⟨v2,v3,rfl,hd,s2⟩:=z
        rw[hzl,List.drop_of_length_le (zH _),zDD] at hd
        exact kn (by rw[hd];rfl) _ s2
theorem scCh:zAH ["plan", "place"] ["plan", "place"] (defScope sCh):=⟨rfl,rfl,rfl,by decide +kernel,rfl,by decide +kernel,by decide +kernel⟩
theorem ok_ch {f fC:Addr}{fd' fdC:FuncData}{h:Nat}(F:Fun K "chain" "chain" sCh f fd') (FC:Fun K "chain_or_none" "chain_or_none" sCo fC fdC) (bC:zAA K fdC ["plan", "place"] []) (mC:mg "chain_or_none" = some (.ref fC)) (mTuple:mg "tuple" = none) (mSorted:mg "sorted" = none) (mSet:mg "set" = none):zAi P w K mg base CX0 (h+2) f fd' ["plan", "place"] (spCh h):=by
 have GC:zAi P w K mg base CX0 (h+1) fC fdC ["plan", "place"] (spCo h):=ok_co FC bC mC h
 refine F.ok scCh (fun vs H Q E h=>?_) (fun cdv A outer s H vs Q E hr h=>?_)
 . obtain⟨v,p,x,r,rfl,_⟩:=h
   rfl
 . obtain⟨v,p,x,r,rfl,S,hh,hl,hx,k⟩:=h
   refine⟨_,zm (zAK (zAu zAe (by rfl) mTuple (by decide +kernel) (zG (zFz rfl rfl mSorted rfl mSet (zG (zp GC hr rfl mC FC.kp bC .nil zAX (zG (pv 0) (zG (pv 1) zO))) zO)) zO))),?_⟩
   refine⟨_,rfl,_,rfl,v,p,x,rfl,S,hh,by omega,(fun e=>by rw[hx] at e;cases e),fun r' l H1 e s1 h1=>?_⟩
   rw[hx] at e
   cases e
   have hrl:=zFa p hx
   refine⟨l,r,rfl,.inr (SqT.of h1),by omega,fun l2 ms hl2 hr2 hm2=>?_⟩
   refine⟨l2,_,rfl,.inl ⟨SqL.of zJ,fun l3 hl3=>?_⟩⟩
   exact k ms l3 _ hr2 hm2 (s1.trans ((zI hl2).trans (zI hl3))) zJ
theorem scDe:zAH ["plan"] ["plan"] (defScope sDe):=⟨rfl,rfl,rfl,by decide +kernel,rfl,by decide +kernel,by decide +kernel⟩
theorem ok_de {f:Addr}{fd':FuncData}(F:Fun K "deepest" "deepest" sDe f fd') (bF:zAA K fd' ["plan"] []) (mF:mg "deepest" = some (.ref f)) (mLen:mg "len" = none) (mMax:mg "max" = none):∀h:Nat,zAi P w K mg base CX0 (h+1) f fd' ["plan"] (spDe h)
 | 0=>F.ok scDe (fun vs H Q E h=>by obtain⟨v,p,rfl,_⟩:=h;rfl) (fun cdv A outer s H vs Q E hr h=>by
  obtain⟨v,⟨ps,ks⟩,rfl,_,h0,_⟩:=h
  rw[hgt] at h0
  omega)
 | h+1=>by
  have GP:=ok_de F bF mF mLen mMax h
  refine F.ok scDe (fun vs H Q E h=>?_) (fun cdv A outer s H vs Q E hr h=>?_)
  . obtain⟨v,p,rfl,_⟩:=h
    rfl
  . obtain⟨v,⟨ps,ks⟩,rfl,S,hh,hl,hk0,k⟩:=h
    rw[hgt] at hh
    rw[zAL,zC] at hl
    rw[zJa] at k
    rw[zCy] at hk0
    obtain⟨a,b,c,zs,rfl,ha,hb,hc,al⟩:=zDU S
    have hzl:=zBj al
    rw[zBz] at hzl
    have hu:=zGz hr
    refine⟨_,zm (zAK (zBD zCe (zAD zAQ (by rfl) mLen PySem.boot_len (zG (zAC zAE (pv 0) ze (fun _ _=>rfl)) zO))
     (zLm rfl hu rfl mMax (zG (zBK (own:=["part"]) (cn:=[]) (ci:=[]) rfl (csc rfl rfl) trivial rfl (zCM (zAC zAE (pv 0) ze (fun _ _=>rfl))) (fun _ _ _ _=>zAI (i:=0) (zCK rfl) rfl (Or.inl rfl)) (fun _ _ _ _=>zBv)
      (fun _ _ _ _=>zp GP hr rfl mF F.kp bF .nil zAX (zG (pv 0) zO))) zO) ze))),?_⟩
    refine⟨_,rfl,_,_,_,_,rfl,rfl,SqT.of ha,rfl,b,_,rfl,.inr (SqT.of hb),?_⟩
    refine⟨_,rfl,_,_,_,_,rfl,rfl,SqT.of ha,rfl,c,rfl,⟨_,SqT.of hc⟩,[],rfl,fun D hD=>?_⟩
    refine zCI (a:=c) (xs:=zs) (fun i ys H4=>ys=((ks.take i).map fun k=>(zJa k:Int)).map V.int/\zA0 H H4/\H4 D=some (.lst ys)) ⟨rfl,zI hD,zJ⟩ (fun i ys H4 z=>?_) (fun i ys H4 z=>?_) (fun i y ys H4 hy z=>?_) (fun ys H4 z=>?_)
    . obtain⟨_,s4,_⟩:=z
      exact SqT.of (s4 _ _ hc)
    . obtain⟨rfl,_⟩:=z
      rw[zD,zD,zt]
      exact zo (by omega)
    . obtain⟨rfl,s4,h4⟩:=z
      obtain⟨kd,hk,Sk⟩:=zDS al hy
      have hkm:=zW hk
      have hkl:=zBx hkm
      have hkh:=zCH hkm
      refine⟨⟨rfl,rfl⟩,?_⟩
      refine zGc ?_
      refine⟨_,rfl,y,kd,rfl,zAY s4 Sk,by omega,by omega,zFT hk0.2 hkm,fun H5 s5=>⟨s5 _ _ h4,?_,zAz (s4.trans s5) hD,zJ⟩⟩
      rw[zAF,hk,zX,zX];rfl
    . obtain⟨rfl,s4,h4⟩:=z
      rw[hzl,za (zH _)] at h4
      refine⟨_,rfl,D,_,rfl,.inl (SqL.of h4),fun e0=>?_,fun n hn hm=>?_⟩
      . have:ks=[]:=List.map_eq_nil_iff.mp e0
        subst this
        refine⟨_,_,rfl,rfl,?_⟩
        rw[zDg] at k
        have:=k _ s4
        rw[zD]
        exact this
      . refine⟨_,_,rfl,rfl,?_⟩
        obtain⟨kd,hkd,rfl⟩:=zAM.mp hn
        obtain⟨kx,hkx,ex⟩:=zHc (ks:=ks) (fun z=>by subst z;cases hkd)
        have h1:=zHb hkd
        have h2:=hm (zJa kx:Int) (zAM.mpr ⟨kx,hkx,rfl⟩)
        have:=k _ s4
        rw[zD]
        rw[show (((ps.length+zDg ks:Nat)):Int)=(ps.length:Int)+(zJa kd:Int) by omega] at this
        exact this
end
end K40
namespace K40
open PySem L2 WM
mutual
theorem zG3 {x:Int}:∀p:Pln,(chO x p).isSome=decide (x∈zAL p)
 | .mk ps ks=>by
  rw[chO,zAL]
  by_cases c:x∈ps
  . rw[if_pos c,zP (zK.mpr (.inl c))]
    rfl
  . rw[if_neg c,Option.isSome_map,zHh ks]
    by_cases c2:x∈zAJ ks
    . rw[zP c2,zP (zK.mpr (.inr c2))]
    . rw[zZ c2,zZ (fun z=>(zK.mp z).elim c c2)]
theorem zHh {x:Int}:∀ks:List Pln,(zDD x ks).isSome=decide (x∈zAJ ks)
 | []=>by rw[zDD,zAJ];simp
 | k::ks=>by
  have h1:=zG3 (x:=x) k
  have h2:=zHh (x:=x) ks
  rw[zDD,zAJ]
  cases e:chO x k with
  | some r=>
   rw[e] at h1
   have:x∈zAL k:=of_decide_eq_true h1.symm
   rw[zP (zK.mpr (.inl this))]
   rfl
  | none=>
   rw[e] at h1
   have c:¬ x∈zAL k:=of_decide_eq_false h1.symm
   show (zDD x ks).isSome=_
   rw[h2]
   by_cases c2:x∈zAJ ks
   . rw[zP c2,zP (zK.mpr (.inr c2))]
   . rw[zZ c2,zZ (fun z=>(zK.mp z).elim c c2)]
end
theorem zFA {x:Int}{p:Pln}(h:x∈zAL p):∃r,chO x p=some r:=by
 have:=zG3 (x:=x) p
 rw[zP h] at this
 exact Option.isSome_iff_exists.mp this
theorem zJm {x:Int}{p:Pln}(h:¬ x∈zAL p):chO x p=none:=by
 have:=zG3 (x:=x) p
 rw[zZ h] at this
 cases e:chO x p with
 | none=>rfl
 | some r=>rw[e] at this;cases this
theorem zGO {x:Int}{k:Pln}:∀{ks:List Pln}{i:Nat},ks[i]? = some k->zDD x (ks.take (i+1))=match zDD x (ks.take i) with | some r=>some r | none=>chO x k
 | [],_,h=>by cases h
 | j::ks,0,h=>by
  cases h
  show zDD x [k]=match zDD x [] with | some r=>some r | none=>chO x k
  rw[zDD,zDD]
  cases chO x k <;> rfl
 | j::ks,i+1,h=>by
  have ih:=zGO (x:=x) (ks:=ks) (i:=i) (by simpa using h)
  show zDD x (j::ks.take (i+1))=match zDD x (j::ks.take i) with | some r=>some r | none=>chO x k
  rw[zDD,zDD,ih]
  cases chO x j <;> rfl
noncomputable def spLc (h:Nat):Sp:=fun vs H Q _=>∃(v:V)(p:Pln)(x:Int)(r:List Int),vs=[v,.int x]/\zAy H v (plD p)/\hgt p<=h/\(zAL p).length<64/\zCy p/\chO x p=some r/\(∀(ms:List Int)(l:Addr)(H':Hp),ms.Perm r->ms.Pairwise (· <= ·)->zA0 H H'->H' l=some (.tup (ms.map V.int))->Q (.ref l) H')
noncomputable def ChW (H H2:Hp)(x:Int)(r:List Int)(h m:Nat)(v:V)(σ:St):Prop:=∃(v4:Option V)(D L:Addr)(fo:List Int),σ=[some v,some (.int x),some (.ref D),some (.ref L),v4]/\zA0 H H2/\H2 D=some (.lst (fo.map V.int)) /\
 ((∃(y:V)(q:Pln)(rest:List V)(r':List Int),H2 L=some (.lst (y::rest))/\zAy H2 y (plD q)/\hgt q<=h/\(zAL q).length<64/\zCy q/\chO x q=some r'/\fo++r'=r/\m=hgt q)\/(H2 L=some (.lst [])/\fo=r/\m=0))
section
variable {X:Cx}{pl:List (Addr×Obj)}{N':List Str}{sc:Scope}{fp:List Addr}{s3:Shared}{H3:Hp}
theorem zK3:OpR (zBu X pl N' sc fp s3 H3) (compareOp .In) (rIn X.K false):=zF2
end
section
variable {P:Program}{w:World}{K:PySem.W.Frag}{mg:Str->Option Value}{base:Heap}
theorem scLc:zAH ["_law_plan", "_law_place", "_law_found", "_law_some", "_law_here"] ["_law_plan", "_law_place"] (defScope sLc):=⟨rfl,rfl,rfl,by decide +kernel,rfl,by decide +kernel,by decide +kernel⟩
theorem ok_lc {f fF:Addr}{fd' fdF:FuncData}{h:Nat}(F:Fun K "_law_chain" "_law_chain" sLc f fd') (FF:Fun K "_law_flat" "_law_flat" sLf fF fdF) (bF:zAA K fdF ["_law_plan"] []) (mF:mg "_law_flat" = some (.ref fF)) (mList:mg "list" = none) (mTuple:mg "tuple" = none) (mSorted:mg "sorted" = none):zAi P w K mg base CX0 (h+2) f fd' ["_law_plan", "_law_place"] (spLc h):=by
 have GF:zAi P w K mg base CX0 (h+1) fF fdF ["_law_plan"] (spLf h):=ok_lf FF bF mF mList h
 refine F.ok scLc (fun vs H Q E h=>?_) (fun cdv A outer s H vs Q E hr h=>?_)
 . obtain⟨v,p,x,r,rfl,_⟩:=h
   rfl
 . obtain⟨v,p,x,r,rfl,S,hh,hl,hk1,hx,k⟩:=h
   have hu0:=hr.units0
   have hrl:=zFa p hx
   refine⟨_,zV (zAW (i:=2) scLc.nd rfl (Or.inl rfl) (zCN zO))
    (zV (zAW (i:=3) scLc.nd rfl (Or.inl rfl) (zCN (zG (pv 0) zO)))
    (zV (zD6 PassesOwn.never (zAG (zIy hu0) (pv 3) (zCN zO) (zAZ _))
     (zV (zAW (i:=4) scLc.nd rfl (Or.inr rfl) (zAC zAx (pv 3) ze (fun _ _=>rfl)))
     (zV (zAW (i:=2) scLc.nd rfl (Or.inl rfl) (zBD zF3 (pv 2) (zAu zCf (by rfl) mList (by decide +kernel) (zG (zAC zAE (pv 4) ze (fun _ _=>rfl)) zO))))
     (zm (zEF (i:=3) (own:=["_law_one"]) (cn:=["_law_place", "_law_here"]) (ci:=[1,4]) scLc.nd rfl (Or.inl rfl) rfl (csc rfl rfl) ⟨rfl,rfl,rfl,rfl,rfl,rfl,trivial⟩ rfl (zCM (zAC zAE (pv 4) ze (fun _ _=>rfl))) (fun _ _ _ _=>zAI (i:=0) (zCK rfl) rfl (Or.inl rfl))
      (fun _ _ _ _=>zCo (PW.pt (zDG (zAG zC3 (pv 1) (zAC zCB (pv 2) ze (fun _ _=>rfl)) (by with_unfolding_all rfl)) (zCg (zAG zK3 (pv 1) (zp GF hr rfl mF FF.kp bF .nil zAX (zG (pv 0) zO)) (by with_unfolding_all rfl)))))) (fun _ _ _ _=>pv 0))))))
    (zm (zAK (zAu zAe (by rfl) mTuple (by decide +kernel) (zG (zAD zCL (by rfl) mSorted (by decide +kernel) (zG (pv 2) zO)) zO)))))),?_⟩
   refine⟨zi _,fun D0 hD0=>?_⟩
   have s0:=zI (o:=.lst []) hD0
   refine⟨_,rfl,by show 1<=sizeLine;decide,fun L0 hL0=>?_⟩
   have s1:=zI (o:=.lst [v]) hL0
   refine⟨fun m σ H2=>ChW H H2 x r h m v σ,⟨hgt p,none,D0,L0,[],rfl,s0.trans s1,s1 _ _ zJ,.inl ⟨v,p,[],r,zJ,zAY (s0.trans s1) S,hh,hl,hk1,hx,rfl,rfl⟩⟩,fun m σ H2 z=>?_⟩
   obtain⟨v4,D,L,fo,rfl,s2,hD,z⟩:=z
   refine⟨_,rfl,zi _,fun b hb=>?_⟩
   have sb:=zI (o:=.lst []) hb
   rcases z with ⟨y,q,rest,r',hL,Sy,hq,hql,hq1,hxq,hfo,rfl⟩ | ⟨hL,rfl,rfl⟩
   . refine⟨L,b,_,rfl,rfl,SqL.of (sb _ _ hL),SqL.of zJ,_,rfl,ifT rfl ?_⟩
     have s2b:=s2.trans sb
     have hDb:=sb _ _ hD
     have hLb:=sb _ _ hL
     have Syb:=zAY sb Sy
     generalize upd H2 b (.lst [])=H3 at s2b hDb hLb Syb ⊢
     obtain⟨ps,ks⟩:=q
     rw[hgt] at hq ⊢
     rw[zAL,zC] at hql
     rw[chO] at hxq
     rw[zCy] at hq1
     obtain⟨a,b',c,zs,rfl,ha,hb',hc,al⟩:=zDU Syb
     have hzl:=zBj al
     rw[zBz] at hzl
     refine⟨fun σ' H'=>∃m',m'<zDP ks+1/\ChW H H' x r h m' v σ',fun σ' H' z=>z,?_⟩
     refine⟨_,rfl,L,_,_,.ref a,rfl,rfl,SqL.of hLb,zBm (by decide) rfl,?_⟩
     refine⟨_,rfl,_,rfl,_,_,_,_,rfl,rfl,SqT.of ha,rfl,b',_,rfl,.inr (SqT.of hb'),fun e he=>?_⟩
     have se:=zI (o:=.lst (ps.map V.int)) he
     refine⟨D,e,_,_,rfl,rfl,se _ _ hDb,zJ,?_,fun D' hD'=>?_⟩
     . have:(fo++r').length=r.length:=by rw[hfo]
       rw[zC] at this
       rw[zD,zD]
       exact zAl (zo (by omega))
     have s3:=s2b.trans (se.trans (zI (o:=.lst (fo.map V.int++ps.map V.int)) hD'))
     have s33:=se.trans (zI (o:=.lst (fo.map V.int++ps.map V.int)) hD')
     have hD3:(upd (upd H3 e (.lst (ps.map V.int))) D' (.lst (fo.map V.int++ps.map V.int))) D'=some (.lst ((fo++ps).map V.int)):=by rw[zJ,zX]
     generalize upd (upd H3 e (.lst (ps.map V.int))) D' (.lst (fo.map V.int++ps.map V.int))=H4 at s3 s33 hD3 ⊢
     have ha4:=s33 _ _ ha
     have hb4:=s33 _ _ hb'
     have hc4:=s33 _ _ hc
     refine⟨_,rfl,_,_,_,_,rfl,rfl,SqT.of ha4,rfl,c,rfl,⟨_,SqT.of hc4⟩,[.int x,.ref a],rfl,fun E' hE'=>?_⟩
     by_cases cx:x∈ps
     . rw[if_pos cx] at hxq
       have er:ps=r':=zf hxq
       subst er
       refine zCI (a:=c) (xs:=zs) (fun i ys H5=>ys=[]/\H5=upd H4 E' (.lst [])) ⟨rfl,rfl⟩ (fun i ys H5 z=>?_) (fun i ys H5 z=>?_) (fun i y ys H5 hy z=>?_) (fun ys H5 z=>?_)
       . obtain⟨_,rfl⟩:=z
         exact SqT.of (zI hE' _ _ hc4)
       . obtain⟨rfl,_⟩:=z
         exact zo (zi _)
       . obtain⟨rfl,rfl⟩:=z
         refine⟨⟨rfl,rfl⟩,?_⟩
         refine⟨_,rfl,_,rfl,_,_,_,_,rfl,rfl,SqT.of (zI hE' _ _ ha4),rfl,b',_,rfl,.inr (SqT.of (zI hE' _ _ hb4)),rfl,zBZ _,_,rfl,?_⟩
         show (if (!inV (.int x) (ps.map V.int))=true then _ else _)
         rw[zB0,zP cx]
         exact zCm (zCm ⟨rfl,rfl⟩)
       . obtain⟨rfl,rfl⟩:=z
         exact⟨0,by omega,_,D',E',_,rfl,s3.trans (zI hE'),zI hE' _ _ hD3,.inr ⟨zJ,hfo,rfl⟩⟩
     . rw[if_neg cx,zAm] at hxq
       obtain⟨r2,hr2,hrr⟩:=hxq
       refine zCI (a:=c) (xs:=zs) (fun i ys H5=>zA0 H4 H5/\H5 E'=some (.lst ys)/\ys.length<=i/\i<=zs.length/\((ys=[]/\zDD x (ks.take i)=none)\/∃(y:V)(q:Pln)(rest:List V)(r':List Int),ys=y::rest/\zAy H4 y (plD q)/\q∈ks/\chO x q=some r'/\zDD x (ks.take i)=some r')) ⟨zI hE',zJ,zH _,zi _,.inl ⟨rfl,by rw[zBp,zDD]⟩⟩ (fun i ys H5 z=>?_) (fun i ys H5 z=>?_) (fun i y ys H5 hy z=>?_) (fun ys H5 z=>?_)
       . exact SqT.of (z.1 _ _ hc4)
       . obtain⟨_,_,hl1,hl2,_⟩:=z
         exact zo (by omega)
       . obtain⟨s5,h5,hl1,_,zc⟩:=z
         obtain⟨kd,hk,Sk⟩:=zDS al hy
         have hkm:=zW hk
         have hkl:=zBx hkm
         have hkh:=zCH hkm
         have hyl:=(zL.mp hy).1
         have ht:=zGO (x:=x) hk
         refine⟨⟨rfl,rfl⟩,?_⟩
         refine⟨_,rfl,_,rfl,_,_,_,_,rfl,rfl,SqT.of (s5 _ _ ha4),rfl,b',_,rfl,.inr (SqT.of (s5 _ _ hb4)),rfl,zBZ _,_,rfl,?_⟩
         show (if (!inV (.int x) (ps.map V.int))=true then _ else _)
         rw[zB0,zZ cx]
         refine zDb ?_
         refine⟨_,rfl,_,rfl,y,kd,rfl,zAY (s33.trans s5) Sk,by omega,by omega,fun lf H6 s6 _ h6=>?_⟩
         refine⟨lf,_,rfl,.inl (SqL.of h6),rfl,zBZ _,_,rfl,?_⟩
         show (if inV (.int x) ((zAL kd).map V.int)=true then _ else _)
         rw[zB0]
         by_cases ck:x∈zAL kd
         . refine ifT (zP ck) ?_
           obtain⟨rk,hrk⟩:=zFA ck
           refine⟨_,rfl,s6 _ _ h5,zAz (s5.trans s6) hE',zJ,by rw[zC];show _+1<=_;omega,hyl,.inr ?_⟩
           rcases zc with ⟨rfl,hn⟩ | ⟨y0,q0,rest0,r0,rfl,g1,g2,g3,g4⟩
           . rw[hn,hrk] at ht
             exact⟨y,kd,[],rk,rfl,zAY s33 Sk,hkm,hrk,ht⟩
           . rw[g4] at ht
             exact⟨y0,q0,rest0++[y],r0,rfl,g1,g2,g3,ht⟩
         . refine ifF (zZ ck) ?_
           rw[zJm ck] at ht
           refine⟨s5.trans s6,s6 _ _ h5,by omega,hyl,?_⟩
           rcases zc with ⟨rfl,hn⟩ | ⟨y0,q0,rest0,r0,rfl,g1,g2,g3,g4⟩
           . rw[hn] at ht
             exact .inl ⟨rfl,ht⟩
           . rw[g4] at ht
             exact .inr ⟨y0,q0,rest0,r0,rfl,g1,g2,g3,ht⟩
       . obtain⟨s5,h5,_,_,zc⟩:=z
         rw[hzl,za (zH _),hr2] at zc
         rcases zc with ⟨_,hn⟩ | ⟨y0,q0,rest0,r0,rfl,g1,g2,g3,g4⟩
         . cases hn
         . cases g4
           have hkh:=zCH g2
           have hkl:=zBx g2
           exact⟨hgt q0,by omega,_,D',E',_,rfl,s3.trans s5,s5 _ _ hD3,.inl ⟨y0,q0,rest0,r2,h5,zAY s5 g1,by omega,by omega,zFT hq1.2 g2,g3,by rw[zAd,hrr,hfo],rfl⟩⟩
   . refine⟨L,b,[],rfl,rfl,SqL.of (sb _ _ hL),SqL.of zJ,_,rfl,ifF rfl ?_⟩
     refine⟨_,rfl,D,fo,rfl,SqL.of (sb _ _ hD),by omega,fun l1 ms hl1 pm so=>?_⟩
     refine⟨l1,_,rfl,.inl ⟨SqL.of zJ,fun l2 hl2=>?_⟩⟩
     exact k ms l2 _ pm so (s2.trans (sb.trans ((zI hl1).trans (zI hl2)))) zJ
end
end K40
namespace K40
open PySem L2 WM
mutual
noncomputable def zIA:Pln->Prop
 | .mk ps ks=>ps≠[]/\zCz ks
noncomputable def zCz:List Pln->Prop
 | []=>True
 | k::ks=>zIA k/\zCz ks
end
theorem zEY {k:Pln}:∀{ks:List Pln},zCz ks->k∈ks->zIA k
 | [],_,h=>by cases h
 | j::ks,h,hm=>by
  rw[zCz] at h
  rcases zT.mp hm with rfl | hm
  . exact h.1
  . exact zEY h.2 hm
mutual
theorem zFZ {x:Int}:∀(p:Pln){r:List Int},chO x p=some r->r.Sublist (zAL p)/\x∈r/\r.length<=zJa p
 | .mk ps ks,r,h=>by
  rw[chO] at h
  rw[zAL,zJa]
  split at h
  . next c=>
    cases h
    exact⟨List.sublist_append_left _ _,c,by omega⟩
  . rw[zAm] at h
    obtain⟨r',h1,rfl⟩:=h
    obtain⟨a,b,c⟩:=zHf ks h1
    exact⟨a.append_left ps,zK.mpr (.inr b),by rw[zC];omega⟩
theorem zHf {x:Int}:∀(ks:List Pln){r:List Int},zDD x ks=some r->r.Sublist (zAJ ks)/\x∈r/\r.length<=zDg ks
 | [],r,h=>by rw[zDD] at h;cases h
 | k::ks,r,h=>by
  rw[zDD] at h
  rw[zAJ,zDg]
  split at h
  . next r' e=>
    cases h
    obtain⟨a,b,c⟩:=zFZ k e
    exact⟨a.trans (List.sublist_append_left _ _),b,by omega⟩
  . obtain⟨a,b,c⟩:=zHf ks h
    exact⟨a.trans (List.sublist_append_right _ _),b,by omega⟩
end
theorem zBl {k:Pln}{x:Int}(hx:x∈zAL k):∀{ks:List Pln},k∈ks->x∈zAJ ks
 | [],h=>by cases h
 | j::ks,h=>by
  rw[zAJ]
  rcases zT.mp h with rfl | h
  . exact zK.mpr (.inl hx)
  . exact zK.mpr (.inr (zBl hx h))
theorem zJk {k:Pln}{x:Int}(hx:x∈zAL k):∀{ks:List Pln},(zAJ ks).Nodup->k∈ks->zDD x ks=chO x k
 | [],_,h=>by cases h
 | j::ks,nd,h=>by
  rw[zAJ,zAP] at nd
  rw[zDD]
  by_cases c:x∈zAL j
  . rcases zT.mp h with rfl | h
    . obtain⟨r,hr⟩:=zFA c
      rw[hr]
    . exact absurd rfl (nd.2.2 x c x (zBl hx h))
  . rw[zJm c]
    rcases zT.mp h with rfl | h
    . exact absurd hx c
    . exact zJk hx nd.2.1 h
theorem zEb {k:Pln}:∀{ks:List Pln},(zAJ ks).Nodup->k∈ks->(zAL k).Nodup
 | [],_,h=>by cases h
 | j::ks,nd,h=>by
  rw[zAJ,zAP] at nd
  rcases zT.mp h with rfl | h
  . exact nd.1
  . exact zEb nd.2.1 h
noncomputable def zGa (r k:List Int):Prop:=k.Pairwise (· < ·)/\∀z,z∈k↔z∈r
theorem zGa.uniq {r k k':List Int}(h:zGa r k)(h':zGa r k'):k=k':=zFs h.1 h'.1 fun z=>(h.2 z).trans (h'.2 z).symm
theorem zLc {r k:List Int}(pm:k.Perm r)(so:k.Pairwise (· <= ·))(nd:r.Nodup):zGa r k:=by
 refine⟨(so.and (pm.nodup_iff.mpr nd)).imp fun h=>?_,fun z=>pm.mem_iff⟩
 have:=h.1
 have:=h.2
 omega
theorem zCn {H:Hp}:∀l:List Int,zAT H (l.map V.int) (l.map PyData.int)
 | []=>.nil
 | _::r=>.cons (.int _) (zCn r)
mutual
theorem zC0 {H H':Hp}(k:∀b ys,H b=some (.tup ys)->H' b=some (.tup ys)):∀(q:Pln){v:V},zAy H v (plD q)->zAy H' v (plD q)
 | .mk ps ks,v,S=>by
  obtain⟨a,b,c,zs,rfl,ha,hb,hc,al⟩:=zDU S
  rw[plD]
  exact .tup (k _ _ ha) (.cons (.tup (k _ _ hb) (zCn _)) (.cons (.tup (k _ _ hc) (zBT k ks al)) .nil))
theorem zBT {H H':Hp}(k:∀b ys,H b=some (.tup ys)->H' b=some (.tup ys)):∀(ks:List Pln){zs:List V},zAT H zs (zDO ks)->zAT H' zs (zDO ks)
 | [],zs,S=>by
  rw[zDO] at S ⊢
  cases S
  exact .nil
 | q::ks,zs,S=>by
  rw[zDO] at S ⊢
  cases S with
  | cons a b=>exact .cons (zC0 k q a) (zBT k ks b)
end
theorem zDV:∀ks js:List Pln,zDO (ks++js)=zDO ks++zDO js
 | [],_=>rfl
 | k::ks,js=>by rw[List.cons_append,zDO,zDO,zDV ks js];rfl
theorem zBy:∀ks js:List Pln,zAJ (ks++js)=zAJ ks++zAJ js
 | [],_=>rfl
 | k::ks,js=>by rw[List.cons_append,zAJ,zAJ,zBy ks js,zAd]
theorem zDe:∀{ks js:List Pln},zCz ks->zCz js->zCz (ks++js)
 | [],_,_,h=>h
 | k::ks,js,h,h'=>by
  rw[zCz] at h
  rw[List.cons_append,zCz]
  exact⟨h.1,zDe h.2 h'⟩
theorem zDA:∀ks js:List Pln,zDP (ks++js)=max (zDP ks) (zDP js)
 | [],_=>by rw[List.nil_append,zDP];omega
 | k::ks,js=>by rw[List.cons_append,zDP,zDP,zDA ks js];omega
theorem zDh (xs:List V)(m:Nat):zEl xs none (some (m:Int))=xs.take m:=by
 unfold zEl
 rw[HT.sIx_none,HT.sIx_nat,List.drop_zero,Nat.sub_zero]
 by_cases h:m<=xs.length
 . rw[Nat.min_eq_left h]
 . rw[Nat.min_eq_right (by omega),za (zH _),za (by omega)]
theorem zDi (xs:List V)(m:Nat):zEl xs (some (m:Int)) none=xs.drop m:=by
 unfold zEl
 rw[HT.sIx_none,HT.sIx_nat]
 by_cases h:m<=xs.length
 . rw[Nat.min_eq_left h,za (by rw[List.length_drop];exact zH _)]
 . rw[Nat.min_eq_right (by omega),Nat.sub_self,zBp,List.drop_of_length_le (by omega)]
inductive Wk (ts:List T3)(S:Int->Prop):Int->Int->Prop where
 | nil (x:Int):Wk ts S x x
 | cons {x y z l:Int}(h:S x)(a:Adj ts x y l)(k:S y)(w:Wk ts S y z):Wk ts S x z
theorem zKt {n:Int}{ts:List T3}(g:GW n ts){h v:Int}:∀(m:Nat){x d:Int},d.toNat<=m->IsD ts x v d->Btw ts h v x->Wk ts (Btw ts h v) x v
 | m,x,d,hm,hd,hb=>by
  by_cases c:x=v
  . subst c;exact .nil _
  . obtain⟨p,hp⟩:=Nxt.exists g hd c
    have hq:=Nxt.btw g hb hp
    obtain⟨l,b,a,ib,id⟩:=hp
    have e:=hd.uniq id
    have l1:=(g.adj a).2.2.2.2.2.1
    have b0:=ib.1.nn g
    match m,hm with
    | 0,hm=>omega
    | m+1,hm=>exact .cons hb a hq (zKt g m (by omega) ib hq)
theorem zC4 {α:Type}{l k:List α}(h:(l++k).Nodup){x:α}(h1:x∈l)(h2:x∈k):False:=(zAP.mp h).2.2 x h1 x h2 rfl
theorem zDf {x:Int}:∀{ks:List Pln},x∈zAJ ks->∃k∈ks,x∈zAL k
 | [],h=>by rw[zAJ] at h;cases h
 | k::ks,h=>by
  rw[zAJ] at h
  rcases zK.mp h with h | h
  . exact⟨k,zY,h⟩
  . obtain⟨j,h1,h2⟩:=zDf h
    exact⟨j,zR _ h1,h2⟩
theorem zGG {x:Int}{j k:Pln}:∀{ks:List Pln},(zAJ ks).Nodup->j∈ks->k∈ks->x∈zAL j->x∈zAL k->zAL j=zAL k/\chO x j=chO x k
 | [],_,h,_,_,_=>by cases h
 | i::ks,nd,hj,hk,xj,xk=>by
  have nd':=nd
  rw[zAJ] at nd'
  rcases zT.mp hj with e | hj'
  . rcases zT.mp hk with e' | hk'
    . rw[e,e'];exact⟨rfl,rfl⟩
    . exact (zC4 nd' (e ▸ xj) (zBl xk hk')).elim
  . rcases zT.mp hk with e' | hk'
    . exact (zC4 nd' (e' ▸ xk) (zBl xj hj')).elim
    . exact zGG (zAP.mp nd').2.1 hj' hk' xj xk
theorem zJl {ps:List Int}{ks:List Pln}{x:Int}(h:x∈ps):chO x (.mk ps ks)=some ps:=by rw[chO,if_pos h]
theorem zDM {ps:List Int}{ks:List Pln}{k:Pln}{x:Int}(nd:(zAL (.mk ps ks)).Nodup)(hk:k∈ks)(hx:x∈zAL k):chO x (.mk ps ks)=(chO x k).map (ps ++ ·):=by
 rw[zAL] at nd
 rw[chO,if_neg fun z=>zC4 nd z (zBl hx hk),zJk hx (zAP.mp nd).2.1 hk]
noncomputable def zGZ (ts:List T3)(p:Pln):Prop:=∀a b l,Adj ts a b l->a∈zAL p->b∈zAL p->(∃r,chO b p=some r/\a∈r)\/∃r,chO a p=some r/\b∈r
theorem zLQ {ts:List T3}{ps:List Int}{ks:List Pln}{k:Pln}(nd:(zAL (.mk ps ks)).Nodup)(T:zGZ ts (.mk ps ks))(hk:k∈ks):zGZ ts k:=by
 have nd':=nd
 rw[zAL] at nd'
 have one:∀a b,a∈zAL k->b∈zAL k->(∃r,chO b (.mk ps ks)=some r/\a∈r)->∃r,chO b k=some r/\a∈r:=fun a b ha hb ⟨r,e,hr⟩=>by
  rw[zDM nd hk hb,zAm] at e
  obtain⟨r',e',rfl⟩:=e
  refine⟨r',e',?_⟩
  rcases zK.mp hr with z | z
  . exact (zC4 nd' z (zBl ha hk)).elim
  . exact z
 intro a b l A ha hb
 have fa:a∈zAL (.mk ps ks):=by rw[zAL];exact zK.mpr (.inr (zBl ha hk))
 have fb:b∈zAL (.mk ps ks):=by rw[zAL];exact zK.mpr (.inr (zBl hb hk))
 exact (T a b l A fa fb).imp (one a b ha hb) (one b a hb ha)
theorem zJ5 {ts:List T3}{ps:List Int}{ks:List Pln}{a b l:Int}(nd:(zAL (.mk ps ks)).Nodup)(T:zGZ ts (.mk ps ks))(A:Adj ts a b l)(na:a∉ps)(nb:b∉ps)(fa:a∈zAL (.mk ps ks))(fb:b∈zAL (.mk ps ks)){k:Pln}(hk:k∈ks)(hb:b∈zAL k):a∈zAL k:=by
 have nd':=nd
 rw[zAL] at nd'
 rcases T a b l A fa fb with ⟨r,e,hr⟩ | ⟨r,e,hr⟩
 . rw[zDM nd hk hb,zAm] at e
   obtain⟨r',e',rfl⟩:=e
   rcases zK.mp hr with z | z
   . exact absurd z na
   . exact (zFZ k e').1.subset z
 . rw[zAL] at fa
   rcases zK.mp fa with z | z
   . exact absurd z na
   obtain⟨j,hj,haj⟩:=zDf z
   rw[zDM nd hj haj,zAm] at e
   obtain⟨r',e',rfl⟩:=e
   rcases zK.mp hr with z | z
   . exact absurd z nb
   have hbj:=(zFZ j e').1.subset z
   exact (zGG (zAP.mp nd').2.1 hj hk hbj hb).1 ▸ haj
theorem zLN {ts:List T3}{S:Int->Prop}{ps:List Int}{ks:List Pln}(nd:(zAL (.mk ps ks)).Nodup)(T:zGZ ts (.mk ps ks))(hS:∀x,S x->x∈zAL (.mk ps ks))(nS:∀x,S x->x∉ps){k:Pln}(hk:k∈ks){x v:Int}(w:Wk ts S x v)(hv:v∈zAL k):x∈zAL k:=by
 induction w with
 | nil x=>exact hv
 | cons h a k' w ih=>exact zJ5 nd T a (nS _ h) (nS _ k') (hS _ h) (hS _ k') hk (ih hv)
theorem zGD {ts:List T3}{S:Int->Prop}{h v:Int}:∀(m:Nat)(p:Pln)(i:Int->Nat),hgt p<=m->(zAL p).Nodup->zGZ ts p->(∀x,S x->x∈zAL p)->S h->S v->(∀x,S x->Wk ts S x v)->(∀x,x∈zAL p->(zAL p)[i x]? = some x)->(∀x,S x->i h<=i x)->∃r,chO v p=some r/\h∈r
 | 0,.mk ps ks,i,hm,_,_,_,_,_,_,_,_=>by rw[hgt] at hm;omega
 | m+1,.mk ps ks,i,hm,nd,T,hS,sh,sv,cn,ix,le=>by
  rw[hgt] at hm
  have nd':=nd
  rw[zAL] at nd'
  by_cases c:∃u,S u/\u∈ps
  . obtain⟨u,su,hu⟩:=c
    have iu:=ix u (hS u su)
    have ih:=ix h (hS h sh)
    have l1:=le u su
    rw[zAL] at iu ih
    have hup:i u<ps.length:=by
     refine zBF fun z=>?_
     rw[zk (by omega)] at iu
     exact zC4 nd' hu (zW iu)
    have hhp:h∈ps:=by
     rw[zj (by omega)] at ih
     exact zW ih
    by_cases cv:v∈ps
    . exact⟨ps,zJl cv,hhp⟩
    . have fv:=hS v sv
      rw[zAL] at fv
      obtain⟨k,hk,hvk⟩:=zDf ((zK.mp fv).resolve_left cv)
      obtain⟨r,hr⟩:=zFA hvk
      exact⟨ps++r,by rw[zDM nd hk hvk,hr];rfl,zK.mpr (.inl hhp)⟩
  . have nS:∀x,S x->x∉ps:=fun x sx z=>c ⟨x,sx,z⟩
    have fv:=hS v sv
    rw[zAL] at fv
    obtain⟨k,hk,hvk⟩:=zDf ((zK.mp fv).resolve_left (nS v sv))
    have hkS:∀x,S x->x∈zAL k:=fun x sx=>zLN nd T hS nS hk (cn x sx) hvk
    have hkh:=zCH hk
    obtain⟨o,ho⟩:∃o,∀x j,(zAL k)[j]? = some x->(zAL (.mk ps ks))[o+j]? = some x:=by
     rw[zAL]
     obtain⟨q,hq,ek⟩:=zx hk
     refine⟨ps.length+(zAJ (ks.take q)).length,fun x j hj=>?_⟩
     have sp:zAJ ks=zAJ (ks.take q)++(zAL k++zAJ (ks.drop (q+1))):=by
      conv=>lhs;rw[<-zBf q ks,zBy,List.drop_eq_getElem_cons hq,ek]
      rw[zAJ]
     have hjl:=(zL.mp hj).1
     rw[sp,<-hj,<-zAd,zk (by rw[zC];exact Nat.le_add_right _ _),zC,Nat.add_sub_cancel_left,zj hjl]
    have ndk:=zEb (zAP.mp nd').2.1 hk
    have ix':∀x,x∈zAL k->(zAL k)[i x-o]? = some x/\o<=i x:=fun x hx=>by
     obtain⟨j,hj,ej⟩:=zx hx
     have h1:=ho x j (by rw[zE hj,ej])
     have h2:=ix x (by rw[zAL];exact zK.mpr (.inr (zBl hx hk)))
     have e:o+j=i x:=by
      obtain⟨b1,e1⟩:=zL.mp h1
      obtain⟨b2,e2⟩:=zL.mp h2
      have hp:=zu.mp (zAR.mp nd)
      refine zBF fun z=>?_
      by_cases cc:o+j<i x
      . exact hp _ _ b1 b2 cc (by rw[e1,e2])
      . exact hp _ _ b2 b1 (by omega) (by rw[e1,e2])
     rw[<-e]
     exact⟨by rw[Nat.add_sub_cancel_left,zE hj,ej],by omega⟩
    obtain⟨r,hr,hh⟩:=zGD m k (fun x=>i x-o) (by omega) ndk (zLQ nd T hk) hkS sh sv cn (fun x hx=>(ix' x hx).1) fun x sx=>by
     have:=le x sx
     have:=(ix' h (hkS h sh)).2
     show i h-o<=i x-o
     omega
    exact⟨ps++r,by rw[zDM nd hk hvk,hr];rfl,zK.mpr (.inr hh)⟩
structure zIO (n:Int)(ts:List T3)(p:Pln):Prop where
 nd:(zAL p).Nodup
 rng:∀x∈zAL p,0<=x/\x<n
 all:∀x,0<=x->x<n->x∈zAL p
 tie:zGZ ts p
theorem zIO.len {n:Int}{ts:List T3}{p:Pln}(L:zIO n ts p):(zAL p).length<=n.toNat:=by
 have:=nd_len (n:=n.toNat) L.nd fun x hx=>by have:=L.rng x hx;omega
 exact this
theorem zIO.ordr {n:Int}{ts:List T3}{p:Pln}(L:zIO n ts p):Ordr n (zAL p):=by
 refine⟨Nat.le_antisymm L.len ?_,L.nd,L.rng⟩
 have h:=zE2 (l₁:=lowTo n.toNat) (l₂:=zAL p) ((zDc n.toNat).imp fun h=>by omega) fun x hx=>by
  have:=zCs.mp hx
  exact L.all x this.1 (by omega)
 rw[zBc] at h
 exact h
theorem zIO.hub {n:Int}{ts:List T3}{p:Pln}{rk:Int->Int}{h v:Int}(G:GW n ts)(L:zIO n ts p)(R:RkOf n (zAL p) rk)(h0:0<=h)(h1:h<n)(v0:0<=v)(v1:v<n)(H:zIK ts rk h v):∃r,chO v p=some r/\h∈r:=by
 obtain⟨⟨d,hd⟩,le⟩:=H
 have inn:∀x,Btw ts h v x->0<=x/\x<n:=fun x hx=>by
  obtain⟨a,b,ia,_⟩:=hx
  exact ia.1.in_ G h0 h1
 refine zGD (S:=Btw ts h v) (hgt p) p (fun x=>(rk x).toNat) (zH _) L.nd L.tie (fun x hx=>L.all x (inn x hx).1 (inn x hx).2) (Btw.self G hd) (Btw.self G hd.symm).symm (fun x hx=>?_) (fun x hx=>?_) fun x hx=>?_
 . obtain⟨a,b,_,ib,_⟩:=id hx
   exact zKt G b.toNat (zH _) ib hx
 . have:=L.rng x hx
   exact (R x this.1 this.2).2
 . have:=le x hx
   have r1:=(R x (inn x hx).1 (inn x hx).2).1
   have r2:=(R h h0 h1).1
   show (rk h).toNat<=(rk x).toNat
   omega
end K40
namespace K40
open PySem L2 WM
section
variable {X:Cx}
end
theorem zA0.none {H H':Hp}{r:Addr}(s:zA0 H H')(h:H' r=none):H r=none:=by
 cases z:H r with
 | none=>rfl
 | some u=>have y:=(s _ _ z).symm.trans h;cases y
theorem zGn {X:Cx}{st:Stmt}{u u':TS}(h:PS X st u)(m:∀D σ H,u' D σ H->u D σ H):PS X st u':=fun pins s σ H D I q=>h pins s σ H D I (m D σ H q)
theorem zDw {X:Cx}{st:List Stmt}:PSs X st (fun _ _ _=>False):=fun _ _ _ _ _ _ h=>h.elim
theorem upd_3 {H:Hp}{dx e:Addr}{o1 o2 x:HO}(n:dx≠e):upd (upd (upd H dx o1) e x) dx o2=upd (upd H dx o2) e x:=by
 funext b
 by_cases h1:b=dx
 . subst h1;rw[zJ,zb n,zJ]
 . by_cases h2:b=e
   . subst h2;rw[zb h1,zJ,zJ]
   . rw[zb h1,zb h2,zb h1,zb h2,zb h1]
section
variable {P:Program}{w:World}{K:PySem.W.Frag}{mg:Str->Option Value}{base:Heap}
theorem scI1:zAH ["self", "word", "at"] ["self", "word", "at"] (defScope sI1):=⟨rfl,rfl,rfl,by decide +kernel,rfl,by decide +kernel,by decide +kernel⟩
theorem ok_I1 {C f:Addr}{fd':FuncData}(F:Fun K "__init__" "NoPlan.__init__" sI1 f fd') (EI:zG8 K C f)(mo:PySem.W.mroIn K C (.type "object")=some true) (n1:PySem.W.findIn K (.ref C) "word" = some none) (n2:PySem.W.findIn K (.ref C) "at" = some none):zAi P w K mg base CX0 1 f fd' ["self", "word", "at"] (spXI C "word" "at"):=by
 refine F.ok scI1 (fun vs H Q E h=>?_) (fun cdv A outer s H vs Q E hr h=>?_)
 . obtain⟨e,t,v1,v2,rfl,_⟩:=h
   rfl
 . obtain⟨e,t,v1,v2,rfl,he,k⟩:=h
   refine⟨_,zV (zIs EI mo n1 (pv 0) (pv 1)) (zm (zIs EI mo n2 (pv 0) (pv 2))),?_⟩
   refine⟨_,rfl,_,rfl,e,t,rfl,.inl ⟨he,fun dx hdx=>?_⟩⟩
   have ne:dx≠e:=fun z=>by rw[z,he] at hdx;cases hdx
   refine⟨_,rfl,_,rfl,e,t,rfl,.inr ⟨dx,_,zJ,by rw[zb ne,zJ],by show 1<900;decide,?_⟩⟩
   show Q _ _
   rw[upd_3 ne]
   exact k dx hdx ne
end
noncomputable def plB:Nat->Pln->Bool
 | 0,_=>false
 | m+1,.mk ps ks=>zIM ps && ks.all (plB m)
structure PlG (p:Pln):Prop where
 gd:zIA p
 nn:∀x∈zAL p,0<=x
 ln:(zAL p).length<64
 k1:zCy p
theorem PlG.kid {ps:List Int}{ks:List Pln}{k:Pln}(g:PlG (.mk ps ks))(h:k∈ks):PlG k:=by
 obtain⟨a,b,c,d⟩:=g
 rw[zIA] at a
 rw[zAL] at b c
 rw[zCy] at d
 rw[zC] at c
 exact⟨zEY a.2 h,fun x hx=>b x (zK.mpr (.inr (zBl hx h))),by have:=zBx h;omega,zFT d.2 h⟩
noncomputable def spPp:Sp:=fun vs H Q _=>∃(p:Addr)(ps:List Int),vs=[.ref p]/\H p=some (.tup (ps.map V.int))/\ps≠[]/\(∀x∈ps,0<=x)/\ps.length<64/\∀H',zA0 H H'->Q (.bl (zIM ps)) H'
noncomputable def spPw (m:Nat):Sp:=fun vs H Q _=>∃(v:V)(p:Pln),vs=[v,.int m]/\zAy H v (plD p)/\PlG p/\∀H',zA0 H H'->Q (.bl (plB m p)) H'
noncomputable def spIp:Sp:=fun vs H Q _=>∃(v:V)(p:Pln),vs=[v]/\zAy H v (plD p)/\PlG p/\∀H',zA0 H H'->Q (.bl (plB 24 p)) H'
section
variable {P:Program}{w:World}{K:PySem.W.Frag}{mg:Str->Option Value}{base:Heap}
theorem scPp:zAH ["thing"] ["thing"] (defScope sPp):=⟨rfl,rfl,rfl,by decide +kernel,rfl,by decide +kernel,by decide +kernel⟩
theorem ok_pp {f fN fR:Addr}{fd' fdN fdR:FuncData}(F:Fun K "are_plan_places" "are_plan_places" sPp f fd') (FN:Fun K "is_number" "is_number" zKG fN fdN) (bN:zAA K fdN ["thing"] []) (mN:mg "is_number" = some (.ref fN))
 (FR:Fun K "is_rising" "is_rising" sRis fR fdR) (bR:zAA K fdR ["things"] []) (mR:mg "is_rising" = some (.ref fR)) (mIsi:mg "isinstance" = none) (mInt:mg "int" = none) (mBool:mg "bool" = none) (mTuple:mg "tuple" = none) (mLen:mg "len" = none) (mRange:mg "range" = none) (mAll:mg "all" = none):zAi P w K mg base CX0 2 f fd' ["thing"] spPp:=by
 have GN:zAi P w K mg base CX0 1 fN fdN ["thing"] zJ9:=zI4 FN mIsi mInt mBool
 have GR:zAi P w K mg base CX0 1 fR fdR ["things"] spRis:=ok_ris FR mLen mRange mAll
 refine F.ok scPp (fun vs H Q E h=>?_) (fun cdv A outer s H vs Q E hr h=>?_)
 . obtain⟨p,ps,rfl,_⟩:=h
   rfl
 . obtain⟨p,ps,rfl,hp,hne,nn,hl,k⟩:=h
   refine⟨_,zV (zBr (PW.pt (zFt (zCw (zCb (zAD zCC (by rfl) mIsi (by decide +kernel) (zG (pv 0) (zG (zE1 (T := "tuple") (by rfl) mTuple (by decide +kernel)) zO))))) (zEz (zAG zDC (zAD zAQ (by rfl) mLen PySem.boot_len (zG (pv 0) zO)) ze (zAZ _))))) zDw zAh)
    (zm (zAK (zDW (zAD (zDm rfl) (by rfl) mAll (by decide +kernel) (zG (zBK (own:=["place"]) (cn:=[]) (ci:=[]) rfl (csc rfl rfl) trivial rfl (zCM (pv 0)) (fun _ _ _ _=>zAI (i:=0) (zCK rfl) rfl (Or.inl rfl))
     (fun _ _ _ _=>zBv) (fun _ _ _ _=>zDW (zp GN hr rfl mN FN.kp bN .nil zAX (zG (pv 0) zO)) (zEI (zCr op_ge (pv 0) ze (zAZ _))))) zO))
     (zEI (zp GR hr rfl mR FR.kp bR .nil zAX (zG (pv 0) zO)))))),?_⟩
   refine⟨_,rfl,_,_,_,true,rfl,.tup hp,rfl,true,rfl,zCm ?_⟩
   refine⟨_,rfl,p,_,rfl,.inr (SqT.of hp),rfl,_,rfl,ifF (zZ fun z=>?_) ?_⟩
   . have z:=V.int.inj z
     rw[zD] at z
     exact hne (zA3.mp (by omega))
   refine⟨_,rfl,p,rfl,⟨_,SqT.of hp⟩,[],rfl,fun D hD=>?_⟩
   refine zCI (a:=p) (xs:=ps.map V.int) (fun i ys H4=>i<=ps.length/\ys=(List.replicate i true).map V.bl/\H4=upd H D (.lst ys)) ⟨zi _,rfl,rfl⟩ (fun i ys H4 h=>?_) (fun i ys H4 h=>?_) (fun i v ys H4 hv h=>?_) (fun ys H4 h=>?_)
   . obtain⟨_,_,rfl⟩:=h
     exact SqT.of (by rw[zb (zl hp hD)];exact hp)
   . obtain⟨hi,rfl,_⟩:=h
     rw[zD,zAw]
     exact zo (by omega)
   . obtain⟨_,rfl,rfl⟩:=h
     obtain⟨x,hx,rfl⟩:∃x,ps[i]? = some x/\V.int x=v:=by
      rw[zQ] at hv
      cases e:ps[i]? with
      | none=>rw[e] at hv;cases hv
      | some x=>rw[e] at hv;exact⟨x,rfl,zf hv⟩
     have x0:=nn x (zW hx)
     refine⟨⟨rfl,rfl⟩,?_⟩
     refine zGc ?_
     refine⟨_,rfl,x,rfl,true,rfl,zDb ?_⟩
     refine⟨_,rfl,_,_,rfl,rfl,?_⟩
     dsimp only
     rw[zP x0]
     refine⟨zJ,(zL.mp hx).1,?_,zB8⟩
     rw[List.replicate_succ',zX];rfl
   . obtain⟨_,rfl,rfl⟩:=h
     refine⟨D,List.replicate (ps.map V.int).length true,rfl,SqL.of zJ,?_⟩
     have hall:(List.replicate (ps.map V.int).length true).all id=true:=zBI.mpr fun b hb=>(List.mem_replicate.mp hb).2
     rw[hall]
     refine⟨true,rfl,zDb ?_⟩
     have s1:=zI (o:=.lst ((List.replicate (ps.map V.int).length true).map V.bl)) hD
     exact⟨_,rfl,p,ps,rfl,s1 _ _ hp,by omega,fun H' s'=>k H' (s1.trans s')⟩
theorem scPw:zAH ["thing", "most"] ["thing", "most"] (defScope sPw):=⟨rfl,rfl,rfl,by decide +kernel,rfl,by decide +kernel,by decide +kernel⟩
theorem ok_pw {f fT fA:Addr}{fd' fdT fdA:FuncData}(F:Fun K "is_plan_within" "is_plan_within" sPw f fd') (bF:zAA K fd' ["thing", "most"] []) (mF:mg "is_plan_within" = some (.ref f)) (FT:Fun K "is_tuple_of" "is_tuple_of" sTof fT fdT) (bT:zAA K fdT ["thing", "count"] []) (mT:mg "is_tuple_of" = some (.ref fT))
 (FA:Fun K "are_plan_places" "are_plan_places" sPp fA fdA) (bA:zAA K fdA ["thing"] []) (mA:mg "are_plan_places" = some (.ref fA)) (GT:∀m,zAi P w K mg base CX0 (m+2) fT fdT ["thing", "count"] zJ7) (GA:∀m,zAi P w K mg base CX0 (m+2) fA fdA ["thing"] spPp)
 (mIsi:mg "isinstance" = none) (mTuple:mg "tuple" = none) (mAll:mg "all" = none):∀m:Nat,zAi P w K mg base CX0 (m+3) f fd' ["thing", "most"] (spPw m)
 | 0=>by
  refine F.ok scPw (fun vs H Q E h=>?_) (fun cdv A outer s H vs Q E hr h=>?_)
  . obtain⟨v,p,rfl,_⟩:=h
    rfl
  . obtain⟨v,p,rfl,S,g,k⟩:=h
    refine⟨_,zV (zBr (PW.pt (zFt (zAG zDC (pv 1) ze (zAZ _)) (zFt (zCw (zCb (zp (GT 0) hr rfl mT FT.kp bT .nil zAX (zG (pv 0) (zG ze zO))))) (zEz (zCw (zCb (zAD zCC (by rfl) mIsi (by decide +kernel) (zG (zAC zAE (pv 0) ze (fun _ _=>rfl)) (zG (zE1 (T := "tuple") (by rfl) mTuple (by decide +kernel)) zO))))))))) (zm (zAK zEJ)) zAh) zDw,?_⟩
    exact⟨_,rfl,rfl,_,rfl,zDb (zDb (k H (zA0.refl _)))⟩
 | m+1=>by
  have GW:=ok_pw F bF mF FT bT mT FA bA mA GT GA mIsi mTuple mAll m
  refine F.ok scPw (fun vs H Q E h=>?_) (fun cdv A outer s H vs Q E hr h=>?_)
  . obtain⟨v,p,rfl,_⟩:=h
    rfl
  . obtain⟨v,⟨ps,ks⟩,rfl,S,g,k⟩:=h
    obtain⟨a,b,c,zs,rfl,ha,hb,hc,al⟩:=zDU S
    have hzl:=zBj al
    rw[zBz] at hzl
    obtain⟨gd,nn,ln,k1⟩:=id g
    rw[zIA] at gd
    rw[zAL] at nn ln
    rw[zCy] at k1
    rw[zC] at ln
    refine⟨_,zV (zBr (PW.pt (zFt (zAG zDC (pv 1) ze (zAZ _)) (zFt (zCw (zCb (zp (GT (m+1)) hr rfl mT FT.kp bT .nil zAX (zG (pv 0) (zG ze zO))))) (zEz (zCw (zCb (zAD zCC (by rfl) mIsi (by decide +kernel) (zG (zAC zAE (pv 0) ze (fun _ _=>rfl)) (zG (zE1 (T := "tuple") (by rfl) mTuple (by decide +kernel)) zO))))))))) zDw zAh)
     (zm (zAK (zDW (zp (GA (m+1)) hr rfl mA FA.kp bA .nil zAX (zG (zAC zAE (pv 0) ze (fun _ _=>rfl)) zO))
      (zEI (zAD (zDm rfl) (by rfl) mAll (by decide +kernel) (zG (zBK (own:=["plan"]) (cn:=["most"]) (ci:=[1]) rfl (csc rfl rfl) ⟨rfl,rfl,rfl,trivial⟩ rfl (zCM (zAC zAE (pv 0) ze (fun _ _=>rfl))) (fun _ _ _ _=>zAI (i:=0) (zCK rfl) rfl (Or.inl rfl))
       (fun _ _ _ _=>zBv) (fun _ _ _ _=>zp GW hr rfl mF F.kp bF .nil zAX (zG (pv 0) (zG (zBD zHQ (pv 1) ze) zO)))) zO)))))),?_⟩
    refine⟨_,rfl,rfl,_,rfl,ifF (zZ fun z=>?_) ?_⟩
    . have z:=V.int.inj z
      omega
    refine⟨_,rfl,a,[.ref b,.ref c],rfl,ha,true,rfl,zCm ?_⟩
    refine⟨_,rfl,a,_,_,.ref c,rfl,rfl,SqT.of ha,rfl,_,_,_,true,rfl,.tup hc,rfl,true,rfl,zCm ?_⟩
    refine⟨_,rfl,a,_,_,.ref b,rfl,rfl,SqT.of ha,rfl,b,ps,rfl,hb,gd.1,fun x hx=>nn x (zK.mpr (.inl hx)),by omega,fun H1 s1=>?_⟩
    rw[plB] at k
    refine⟨_,rfl,?_⟩
    cases cr:zIM ps with
    | false=>
     rw[cr] at k
     exact zCm (k H1 s1)
    | true=>
     rw[cr,Bool.true_and] at k
     refine zDb ?_
     refine⟨_,rfl,a,_,_,.ref c,rfl,rfl,SqT.of (s1 _ _ ha),rfl,c,rfl,⟨_,SqT.of (s1 _ _ hc)⟩,[.int ((m+1:Nat):Int)],rfl,fun D hD=>?_⟩
     have hc1:=s1 _ _ hc
     refine zCI (a:=c) (xs:=zs) (fun i ys H4=>i<=ks.length/\ys=((ks.take i).map (plB m)).map V.bl/\zA0 H1 H4/\H4 D=some (.lst ys)) ⟨zi _,rfl,zI hD,zJ⟩ (fun i ys H4 h=>?_) (fun i ys H4 h=>?_) (fun i v ys H4 hv h=>?_) (fun ys H4 h=>?_)
     . obtain⟨_,_,s4,_⟩:=h
       exact SqT.of (s4 _ _ hc1)
     . obtain⟨hi,rfl,_⟩:=h
       rw[zD,zD,zt]
       have:=k1.1
       exact zo (by omega)
     . obtain⟨_,rfl,s4,h4⟩:=h
       obtain⟨kd,hk,Sk⟩:=zDS al hv
       refine⟨⟨rfl,rfl⟩,?_⟩
       refine zGc ?_
       refine⟨_,rfl,_,rfl,_,_,rfl,rfl,v,kd,?_,zAY (s1.trans s4) Sk,g.kid (zW hk),fun H5 s5=>?_⟩
       . show [v,V.int (((m+1:Nat):Int)-1)]=_
         rw[show ((m+1:Nat):Int)-1=(m:Int) by omega]
       refine⟨s5 _ _ h4,(zL.mp hk).1,?_,zAz (s4.trans s5) hD,zJ⟩
       rw[zAF,hk,zX,zX];rfl
     . obtain⟨_,rfl,s4,h4⟩:=h
       rw[hzl,za (zH _)] at h4
       refine⟨D,ks.map (plB m),rfl,SqL.of h4,?_⟩
       have e:(ks.map (plB m)).all id=ks.all (plB m):=by rw[List.all_map];rfl
       rw[e]
       exact k H4 (s1.trans s4)
theorem scIp:zAH ["thing"] ["thing"] (defScope sIp):=⟨rfl,rfl,rfl,by decide +kernel,rfl,by decide +kernel,by decide +kernel⟩
theorem ok_ip {f fW:Addr}{fd' fdW:FuncData}{tk:Tok}(F:Fun K "is_plan" "is_plan" sIp f fd') (FW:Fun K "is_plan_within" "is_plan_within" sPw fW fdW) (bW:zAA K fdW ["thing", "most"] []) (mW:mg "is_plan_within" = some (.ref fW)) (GW:zAi P w K mg base CX0 27 fW fdW ["thing", "most"] (spPw 24)) (mMW:mg "MOST_WITHIN" = some (.int 24 tk)):zAi P w K mg base CX0 28 f fd' ["thing"] spIp:=by
 refine F.ok scIp (fun vs H Q E h=>?_) (fun cdv A outer s H vs Q E hr h=>?_)
 . obtain⟨v,p,rfl,_⟩:=h
   rfl
 . obtain⟨v,p,rfl,S,g,k⟩:=h
   refine⟨_,zm (zAK (zp GW hr rfl mW FW.kp bW .nil zAX (zG (pv 0) (zG (zLn (v:=.int 24) rfl mMW ⟨tk,rfl⟩) zO)))),?_⟩
   exact⟨_,rfl,v,p,rfl,S,g,k⟩
end
mutual
noncomputable def zIo:Pln->Prop
 | .mk ps ks=>ps.Pairwise (· < ·)/\zFr ks
noncomputable def zFr:List Pln->Prop
 | []=>True
 | k::ks=>zIo k/\zFr ks
end
theorem zEy {k:Pln}:∀{ks:List Pln},zFr ks->k∈ks->zIo k
 | [],_,h=>by cases h
 | j::ks,h,hm=>by
  rw[zFr] at h
  rcases zT.mp hm with rfl | hm
  . exact h.1
  . exact zEy h.2 hm
theorem zK2:∀(m:Nat)(p:Pln),hgt p<=m->zIo p->plB m p=true
 | 0,.mk ps ks,h,_=>by rw[hgt] at h;omega
 | m+1,.mk ps ks,h,r=>by
  rw[hgt] at h
  rw[zIo] at r
  rw[plB,(zHI ps).mpr r.1,Bool.true_and,zBI]
  intro k hk
  have:=zCH hk
  exact zK2 m k (by omega) (zEy r.2 hk)
end K40
namespace K40
open PySem L2 WM
noncomputable def Bad (n:Int)(fl:List Int)(i:Nat)(x:Int):Prop:=x∈fl.take i\/¬ (0<=x/\x<n)
theorem zLz:∀{fl:List Int},(∀(i:Nat)(x:Int),fl[i]? = some x->x∉fl.take i)->fl.Nodup:=fun {fl} h=>by
 rw[zAR,zu]
 intro i j hi hj hij e
 refine h j fl[j] (zE hj) ?_
 rw[<-e]
 have:i<(fl.take j).length:=by rw[zt];omega
 have e2:(fl.take j)[i]=fl[i]:=List.getElem_take
 exact e2 ▸ zBH this
theorem zLS {fl:List Int}(nd:fl.Nodup){i:Nat}{x:Int}(h:fl[i]? = some x):x∉fl.take i:=fun z=>by
 obtain⟨j,hj,e⟩:=zx z
 rw[zt] at hj
 rw[List.getElem_take] at e
 obtain⟨hi,ei⟩:=zL.mp h
 exact zu.mp (zAR.mp nd) j i (by omega) hi (by omega) (by rw[e,ei])
noncomputable def NoBad (n:Int)(fl:List Int):Prop:=∀(i:Nat)(x:Int),fl[i]? = some x->¬ Bad n fl i x
theorem zF5 {n:Int}{fl:List Int}:NoBad n fl↔fl.Nodup/\∀x∈fl,0<=x/\x<n:=by
 constructor
 . intro h
   refine⟨zLz fun i x hx z=>h i x hx (.inl z),fun x hx=>?_⟩
   obtain⟨i,hi,e⟩:=zx hx
   exact zBF fun z=>h i x (by rw[zE hi,e]) (.inr z)
 . rintro ⟨nd,rng⟩ i x hx (z | z)
   . exact zLS nd hx z
   . exact z (rng x (zW hx))
noncomputable def spPlB:Sp:=fun vs H Q _=>∃n i:Int,vs=[.int n,.int i]/\Q (.bl (decide (0<=i/\i<n))) H
noncomputable def spPf (h:Nat):Sp:=fun vs H Q _=>∃(wa ta:Addr)(v:V)(n:Int)(p:Pln),vs=[.ref wa,v]/\H wa=some (.tup [.int n,.ref ta])/\zAy H v (plD p)/\hgt p<=h/\(zAL p).length<=1000 /\
 (NoBad n (zAL p)->∀H',zA0 H H'->Q .non H')/\∀(i:Nat)(x:Int)(H':Hp),(zAL p)[i]? = some x->Bad n (zAL p) i x->(∀(j:Nat)(y:Int),j<i->(zAL p)[j]? = some y->¬ Bad n (zAL p) j y)->zA0 H H'->Q (.int x) H'
noncomputable def spLk (h:Nat):Sp:=fun vs H Q _=>∃(wa ta:Addr)(v:V)(n:Int)(p:Pln),vs=[.ref wa,v]/\H wa=some (.tup [.int n,.ref ta])/\0<=n/\n<=24/\zAy H v (plD p)/\hgt p<=h/\(zAL p).length<=1000 /\
 ((∀x,0<=x->x<n->x∈zAL p)->∀H',zA0 H H'->Q .non H')/\∀(x:Int)(H':Hp),0<=x->x<n->x∉zAL p->(∀y,0<=y->y<n->y∉zAL p->x<=y)->zA0 H H'->Q (.int x) H'
noncomputable def zML (p:Pln)(a b:Int):Prop:=(∃r,chO b p=some r/\a∈r)\/∃r,chO a p=some r/\b∈r
noncomputable def spTf (h:Nat):Sp:=fun vs H Q _=>∃(wa:Addr)(v:V)(n:Int)(ts:List T3)(p:Pln),vs=[.ref wa,v]/\zB3 H wa n ts/\zAy H v (plD p)/\hgt p<=h/\(zAL p).length<64/\(∀x,0<=x->x<n->x∈zAL p) /\
 ((∀a b l,(a,b,l)∈ts->zML p a b)->∀H',zA0 H H'->Q .non H')/\∀(i:Nat)(a b l:Int)(q:Addr)(H':Hp),ts[i]? = some (a,b,l)->¬ zML p a b->(∀(j:Nat)(a' b' l':Int),j<i->ts[j]? = some (a',b',l')->zML p a' b')->zA0 H H'->H' q=some (.tup [.int a,.int b])->Q (.ref q) H'
noncomputable def zIW (C:Addr):Sp:=fun vs H Q E=>∃(x:Str)(v:V),vs=[.str x,v]/\(v = .non->Q .non H)/\(v ≠ .non->∀tt dx,H tt=none->H dx=none->tt≠dx->E (.ref C) (some dx) (upd (upd H tt (.tup [.str x,v])) dx (dO dx [("word",.str x),("at",v)])))
noncomputable def zIX (C:Addr)(h:Nat):Sp:=fun vs H Q E=>∃(wa:Addr)(v:V)(n:Int)(ts:List T3)(p:Pln),vs=[.ref wa,v]/\zB3 H wa n ts/\zAy H v (plD p)/\PlG p/\hgt p<=h /\
 (plB 24 p=true->zIO n ts p->∀H',zA0 H H'->Q (.bl true) H')/\(¬ (plB 24 p=true/\zIO n ts p)->∀od H',zA0 H H'->E (.ref C) od H')
noncomputable def spLet (h:Nat):Sp:=fun vs H Q _=>∃(wa:Addr)(v:V)(n:Int)(ts:List T3)(p:Pln),vs=[.ref wa,v]/\zB3 H wa n ts/\zAy H v (plD p)/\PlG p/\hgt p<=h /\
 ∀(b:Bool)(H':Hp),(b=true↔plB 24 p=true/\zIO n ts p)->zA0 H H'->Q (.bl b) H'
theorem zLR {ts:List T3}{p:Pln}(h:∀a b l,(a,b,l)∈ts->zML p a b):zGZ ts p:=fun a b l A _ _=>by
 rcases A with A | A
 . exact h a b l A
 . exact (h b a l A).symm
section
variable {P:Program}{w:World}{K:PySem.W.Frag}{mg:Str->Option Value}{base:Heap}
theorem ok_plB {f fW fN:Addr}{fd' fdW fdN:FuncData}(F:Fun K "is_place" "is_place" sPl f fd') (FW:Fun K "is_within" "is_within" sWi fW fdW) (bW:zAA K fdW ["thing", "least", "most"] []) (mW:mg "is_within" = some (.ref fW)) (FN:Fun K "is_number" "is_number" zKG fN fdN) (bN:zAA K fdN ["thing"] []) (mN:mg "is_number" = some (.ref fN)) (mIsi:mg "isinstance" = none) (mInt:mg "int" = none) (mBool:mg "bool" = none) :
 zAi P w K mg base CX0 3 f fd' ["n", "thing"] spPlB:=by
 have GN:zAi P w K mg base CX0 1 fN fdN ["thing"] zJ9:=zI4 FN mIsi mInt mBool
 have GW':zAi P w K mg base CX0 2 fW fdW ["thing", "least", "most"] (fun vs H Q _=>∃i a b:Int,vs=[.int i,.int a,.int b]/\Q (.bl (decide (a<=i/\i<=b))) H):=by
  refine FW.ok scWi (fun vs H Q E h=>?_) (fun cdv A outer s H vs Q E hr h=>?_)
  . obtain⟨i,a,b,rfl,_⟩:=h
    rfl
  . obtain⟨i,a,b,rfl,k⟩:=h
    refine⟨_,zm (zAK (zDW (zp GN hr rfl mN FN.kp bN .nil zAX (zG (pv 0) zO)) (zDW (zCr zI0 (pv 1) (pv 0) (zAZ _)) (zEI (zCr zI0 (pv 0) (pv 2) (zAZ _)))))),?_⟩
    refine⟨_,rfl,i,rfl,true,rfl,zDb ?_⟩
    refine⟨_,rfl,_,rfl,_,_,rfl,rfl,_,rfl,zD9 (fun c=>?_) (fun c=>?_)⟩
    . have c:=of_decide_eq_true c
      refine⟨_,rfl,_,rfl,_,_,rfl,rfl,?_⟩
      have e:decide (i<=b)=decide (a<=i/\i<=b):=decide_eq_decide.mpr ⟨fun z=>⟨c,z⟩,fun z=>z.2⟩
      dsimp only
      rw[e]
      exact k
    . have e:decide (a<=i/\i<=b)=decide (a<=i):=decide_eq_decide.mpr ⟨fun z=>z.1,fun z=>absurd (zP z) c⟩
      rw[e,zZ fun z=>c (zP z)] at k
      exact k
 refine F.ok scPl (fun vs H Q E h=>?_) (fun cdv A outer s H vs Q E hr h=>?_)
 . obtain⟨n,i,rfl,_⟩:=h
   rfl
 . obtain⟨n,i,rfl,k⟩:=h
   refine⟨_,zm (zAK (zp GW' hr rfl mW FW.kp bW .nil zAX (zG (pv 1) (zG ze (zG (zBD zHQ (pv 0) ze) zO))))),?_⟩
   refine⟨_,rfl,_,rfl,_,_,rfl,rfl,i,0,n-1,rfl,?_⟩
   have e:decide (0<=i/\i<=n-1)=decide (0<=i/\i<n):=decide_eq_decide.mpr (by omega)
   rw[e]
   exact k
theorem scPf:zAH ["web", "plan", "ahead", "place"] ["web", "plan"] (defScope sPf):=⟨rfl,rfl,rfl,by decide +kernel,rfl,by decide +kernel,by decide +kernel⟩
theorem ok_pf {f fO fP:Addr}{fd' fdO fdP:FuncData}{h:Nat}(F:Fun K "place_fault" "place_fault" sPf f fd') (FO:Fun K "plan_order" "plan_order" sPo fO fdO) (bO:zAA K fdO ["plan"] []) (mO:mg "plan_order" = some (.ref fO)) (GO:zAi P w K mg base CX0 (h+3) fO fdO ["plan"] (spPo h))
 (FP:Fun K "is_place" "is_place" sPl fP fdP) (bP:zAA K fdP ["n", "thing"] []) (mP:mg "is_place" = some (.ref fP)) (GP:zAi P w K mg base CX0 (h+3) fP fdP ["n", "thing"] spPlB):zAi P w K mg base CX0 (h+4) f fd' ["web", "plan"] (spPf h):=by
 refine F.ok scPf (fun vs H Q E h=>?_) (fun cdv A outer s H vs Q E hr h=>?_)
 . obtain⟨wa,ta,v,n,p,rfl,_⟩:=h
   rfl
 . obtain⟨wa,ta,v,n,p,rfl,hwa,S,hh,hl,kY,kN⟩:=h
   have hu:=zGz hr
   refine⟨_,zV (zAW (i:=2) scPf.nd rfl (Or.inl rfl) zKS)
    (zV (zCc PassesOwn.never rfl (zCM (zp GO hr rfl mO FO.kp bO .nil zAX (zG (pv 1) zO))) (zAI (i:=3) scPf.nd rfl (Or.inl rfl))
     (zV (zBr (PW.pt (zFt (pt_cmp (pc_din hu (pv 3) (pv 2)) (by with_unfolding_all rfl)) (zEz (zCw (zCb (zp GP hr rfl mP FP.kp bP .nil zAX (zG (zAC zAE (pv 0) ze (fun _ _=>rfl)) (zG (pv 3) zO)))))))) (zm (zAK (pv 3))) zAh)
     (zm (zFL hu (pv 2) (pv 3) zEJ rfl))))
    (zm (zAK zCT))),?_⟩
   intro d hd
   have sd:=zI (o:=.dK []) hd
   refine⟨_,rfl,v,p,rfl,zAY sd S,hh,hl,fun l H1 s1 hl1=>?_⟩
   have hd1:=s1 _ _ (zJ (H:=H) (a:=d) (o:=.dK []))
   refine⟨l,rfl,⟨_,SqT.of hl1⟩,zDL (K:=K) (a:=l) (xs:=(zAL p).map V.int) (fun i σ H2=>∃(v3:Option V)(kvs:List (Key×V)),σ=[some (.ref wa),some v,some (.ref d),v3]/\zA0 H H2/\H2 l=some (.tup ((zAL p).map V.int))/\H2 d=some (.dK kvs)/\kvs.length<=i/\(∀x:Int,(zCQ kvs (Sum.inl x)).isSome=decide (x∈(zAL p).take i))/\∀(j:Nat)(y:Int),j<i->(zAL p)[j]? = some y->¬ Bad n (zAL p) j y)
    ⟨_,[],rfl,sd.trans s1,hl1,hd1,zH _,fun x=>by rw[zBp];simp[zHB],fun j y hj=>absurd hj (zBw _)⟩ (fun i σ H2 _ z=>?_) (fun i x σ H2 hx z=>?_) (fun σ H2 z=>?_)⟩
   . obtain⟨_,_,_,_,h2,_⟩:=z
     exact SqT.of h2
   . obtain⟨v3,kvs,rfl,s2,hl2,hd2,hkl,hkv,nb⟩:=z
     obtain⟨y,hy,rfl⟩:∃y,(zAL p)[i]? = some y/\V.int y=x:=by
      rw[zQ] at hx
      cases e:(zAL p)[i]? with
      | none=>rw[e] at hx;cases hx
      | some y=>rw[e] at hx;exact⟨y,rfl,zf hx⟩
     have hi:=(zL.mp hy).1
     refine⟨_,rfl,_,rfl,d,_,rfl,zG9.k (k:=Sum.inl y) hd2,_,rfl,?_⟩
     rw[hkv y]
     by_cases c1:y∈(zAL p).take i
     . rw[zP c1]
       exact zDb (zDb ⟨_,rfl,kN i y H2 hy (.inl c1) nb s2⟩)
     . rw[zZ c1]
       refine zCm ?_
       refine⟨_,rfl,wa,_,_,_,rfl,rfl,SqT.of (s2 _ _ hwa),rfl,_,rfl,n,y,rfl,_,rfl,?_⟩
       by_cases c2:0<=y/\y<n
       . rw[zP c2]
         refine zCm ?_
         refine⟨_,rfl,_,rfl,d,_,rfl,.inl ⟨kvs,Sum.inl y,hd2,rfl,zo (by omega),rfl⟩,?_⟩
         have e0:zCQ kvs (Sum.inl y)=none:=by
          have:=hkv y
          rw[zZ c1] at this
          cases z:zCQ kvs (Sum.inl y) with
          | none=>rfl
          | some u=>rw[z] at this;cases this
         refine⟨_,_,rfl,zAz s2 hd,by rw[zb (zB1 hl2 hd2 (by intro z;cases z))];exact hl2,zJ,by rw[zFK _ e0,zC];show kvs.length+1<=i+1;omega,fun x=>?_,fun j z hj hz=>?_⟩
         . rw[zDR,zAF,hy]
           by_cases c3:x=y
           . subst c3
             rw[if_pos rfl];exact (zP (zK.mpr (.inr (zn.mpr rfl)))).symm
           . rw[if_neg (fun z=>c3 (Sum.inl.inj z)),hkv x]
             refine decide_eq_decide.mpr ⟨fun z=>zK.mpr (.inl z),fun z=>?_⟩
             rcases zK.mp z with z | z
             . exact z
             . exact absurd (zn.mp z) c3
         . by_cases c4:j=i
           . subst c4
             rw[hy] at hz
             cases hz
             rintro (q | q)
             . exact c1 q
             . exact q c2
           . exact nb j z (by omega) hz
       . rw[zZ c2]
         exact zDb ⟨_,rfl,kN i y H2 hy (.inr c2) nb s2⟩
   . obtain⟨v3,kvs,rfl,s2,hl2,hd2,hkl,hkv,nb⟩:=z
     rw[zD] at nb
     exact kY (fun i x hx=>nb i x (zL.mp hx).1 hx) H2 s2
theorem scLk:zAH ["web", "plan", "order"] ["web", "plan"] (defScope sLk):=⟨rfl,rfl,rfl,by decide +kernel,rfl,by decide +kernel,by decide +kernel⟩
theorem ok_lk {f fO:Addr}{fd' fdO:FuncData}{h:Nat}(F:Fun K "lacks_fault" "lacks_fault" sLk f fd') (FO:Fun K "plan_order" "plan_order" sPo fO fdO) (bO:zAA K fdO ["plan"] []) (mO:mg "plan_order" = some (.ref fO)) (GO:zAi P w K mg base CX0 (h+3) fO fdO ["plan"] (spPo h)) (mRange:mg "range" = none) (mMin:mg "min" = none):zAi P w K mg base CX0 (h+4) f fd' ["web", "plan"] (spLk h):=by
 refine F.ok scLk (fun vs H Q E h=>?_) (fun cdv A outer s H vs Q E hr h=>?_)
 . obtain⟨wa,ta,v,n,p,rfl,_⟩:=h
   rfl
 . obtain⟨wa,ta,v,n,p,rfl,hwa,n0,n24,S,hh,hl,kY,kN⟩:=h
   have hu:=zGz hr
   refine⟨_,zV (zAW (i:=2) scLk.nd rfl (Or.inr rfl) (zp GO hr rfl mO FO.kp bO .nil zAX (zG (pv 1) zO)))
    (zm (zAK (zGr rfl hu (by rfl) mMin (zG (zBK (own:=["place"]) (cn:=["order"]) (ci:=[2]) rfl (csc rfl rfl) ⟨rfl,rfl,rfl,trivial⟩ rfl (zBJ rfl mRange (zG (zAC zAE (pv 0) ze (fun _ _=>rfl)) zO)) (fun _ _ _ _=>zAI (i:=0) (zCK rfl) rfl (Or.inl rfl))
     (fun _ _ _ _=>zCo (zAG zC3 (pv 0) (pv 1) (by with_unfolding_all rfl))) (fun _ _ _ _=>pv 0)) zO) zCT))),?_⟩
   refine⟨_,rfl,v,p,rfl,S,hh,hl,fun l H1 s1 hl1=>?_⟩
   refine⟨_,rfl,wa,_,_,_,rfl,rfl,SqT.of (s1 _ _ hwa),rfl,n,rfl,by omega,by omega,[.ref l],rfl,fun D hD=>?_⟩
   refine zBt (lo:=0) (n:=n.toNat) (fun q ys H4=>q<=n.toNat/\ys=((lowTo q).filter fun x=>!decide (x∈zAL p)).map V.int/\H4=upd H1 D (.lst ys)) ⟨zi _,rfl,rfl⟩ (fun q ys H4 z=>?_) (fun q ys H4 hq z=>?_) (fun ys H4 z=>?_)
   . obtain⟨hq,rfl,_⟩:=z
     rw[zD]
     refine zAo (zAg _ _) ?_
     rw[zBc]
     exact zo (by omega)
   . obtain⟨_,rfl,rfl⟩:=z
     rw[zBQ]
     have st:(lowTo (q+1)).filter (fun x=>!decide (x∈zAL p))=(lowTo q).filter (fun x=>!decide (x∈zAL p))++[(q:Int)].filter (fun x=>!decide (x∈zAL p)):=by rw[zEW,zBh]
     refine⟨⟨rfl,rfl⟩,?_⟩
     refine⟨_,rfl,_,rfl,l,_,rfl,.inr (SqT.of (by rw[zb (zl hl1 hD)];exact hl1)),rfl,zBZ _,_,rfl,?_⟩
     show (if (!inV (.int q) ((zAL p).map V.int))=true then _ else _)
     rw[zB0]
     by_cases c:(q:Int)∈zAL p
     . rw[zP c]
       refine zCm ⟨by omega,?_,rfl⟩
       rw[st,zA4 (by rw[zP c];decide),zBX,zq]
     . rw[zZ c]
       refine zDb ⟨_,rfl,zJ,by omega,?_,zB8⟩
       rw[st,zBL (by rw[zZ c];rfl),zBX,zX];rfl
   . obtain⟨_,rfl,rfl⟩:=z
     have sD:=zI (o:=.lst (((lowTo n.toNat).filter fun x=>!decide (x∈zAL p)).map V.int)) hD
     have mm:∀x,x∈(lowTo n.toNat).filter (fun x=>!decide (x∈zAL p))↔(0<=x/\x<n)/\x∉zAL p:=fun x=>by
      rw[zA2,zCs,Bool.not_eq_true',decide_eq_false_iff_not]
      constructor <;> rintro ⟨a,b⟩ <;> exact⟨by omega,b⟩
     refine⟨_,rfl,D,_,rfl,.inl (SqL.of zJ),fun e=>kY (fun x x0 x1=>?_) _ (s1.trans sD),.inr ⟨_,rfl,fun x hx hm=>?_⟩⟩
     . refine zBF fun z=>?_
       have:=(mm x).mpr ⟨⟨x0,x1⟩,z⟩
       rw[List.map_eq_nil_iff.mp e] at this
       cases this
     . obtain⟨⟨x0,x1⟩,nx⟩:=(mm x).mp hx
       exact kN x _ x0 x1 nx (fun y y0 y1 ny=>hm y ((mm y).mpr ⟨⟨y0,y1⟩,ny⟩)) (s1.trans sD)
theorem scTf:zAH ["web", "plan", "chains", "a", "b", "long"] ["web", "plan"] (defScope sTf):=⟨rfl,rfl,rfl,by decide +kernel,rfl,by decide +kernel,by decide +kernel⟩
theorem ok_tf {f fC:Addr}{fd' fdC:FuncData}{h:Nat}(F:Fun K "tie_fault" "tie_fault" sTf f fd') (FC:Fun K "chain" "chain" sCh fC fdC) (bC:zAA K fdC ["plan", "place"] []) (mC:mg "chain" = some (.ref fC)) (GC:zAi P w K mg base CX0 (h+3) fC fdC ["plan", "place"] (spCh h)) (mRange:mg "range" = none):zAi P w K mg base CX0 (h+4) f fd' ["web", "plan"] (spTf h):=by
 refine F.ok scTf (fun vs H Q E h=>?_) (fun cdv A outer s H vs Q E hr h=>?_)
 . obtain⟨wa,v,n,ts,p,rfl,_⟩:=h
   rfl
 . obtain⟨wa,v,n,ts,p,rfl,⟨ta,tys,hwa,hta,TA,G⟩,S,hh,hl,al,kY,kN⟩:=h
   have hn1:=G.n1
   have hn24:=G.n24
   refine⟨_,zV (zEF (i:=2) (own:=["place"]) (cn:=["plan"]) (ci:=[1]) scTf.nd rfl (Or.inl rfl) rfl (csc rfl rfl) ⟨rfl,rfl,rfl,trivial⟩ rfl (zBJ rfl mRange (zG (zAC zAE (pv 0) ze (fun _ _=>rfl)) zO)) (fun _ _ _ _=>zAI (i:=0) (zCK rfl) rfl (Or.inl rfl))
    (fun _ _ _ _=>zBv) (fun _ _ _ _=>zp GC hr rfl mC FC.kp bC .nil zAX (zG (pv 1) (zG (pv 0) zO))))
    (zV (zCc PassesOwn.never rfl (zCM (zAC zAE (pv 0) ze (fun _ _=>rfl))) (zFy rfl (zBs (zAI (i:=3) scTf.nd rfl (Or.inl rfl)) (zBs (zAI (i:=4) scTf.nd rfl (Or.inl rfl)) (zBs (zAI (i:=5) scTf.nd rfl (Or.inl rfl)) zEH))))
     (zm (zBr (PW.pt (zDG (zAG zC2 (pv 3) (zAC zAx (pv 2) (pv 4) (fun _ _=>rfl)) (by with_unfolding_all rfl)) (zCg (zAG zC2 (pv 4) (zAC zAx (pv 2) (pv 3) (fun _ _=>rfl)) (by with_unfolding_all rfl))))) (zm (zAK (zBk (zG (pv 3) (zG (pv 4) zO))))) zAh)))
    (zm (zAK zCT))),?_⟩
   refine⟨_,rfl,wa,_,_,_,rfl,rfl,SqT.of hwa,rfl,n,rfl,by omega,by omega,[v],rfl,fun D hD=>?_⟩
   refine zBt (lo:=0) (n:=n.toNat) (fun q ys H4=>q<=n.toNat/\zA0 H H4/\H4 D=some (.lst ys)/\∃as:List Addr,ys=as.map V.ref/\as.length=q/\∀(i:Nat)(a:Addr),as[i]? = some a->∃(r ms:List Int),chO i p=some r/\H4 a=some (.tup (ms.map V.int))/\∀z,z∈ms↔z∈r)
    ⟨zi _,zI hD,zJ,[],rfl,rfl,fun i a e=>by simp at e⟩ (fun q ys H4 z=>?_) (fun q ys H4 hq z=>?_) (fun ys H4 z=>?_)
   . obtain⟨hq,_,_,as,rfl,hal,_⟩:=z
     rw[zD,hal]
     exact zo (by omega)
   . obtain⟨_,s4,hD4,as,rfl,hal,hch⟩:=z
     rw[zBQ]
     obtain⟨r,hr'⟩:=zFA (al (q:Int) (by omega) (by omega))
     refine⟨⟨rfl,rfl⟩,?_⟩
     refine zGc ?_
     refine⟨_,rfl,_,rfl,v,p,(q:Int),r,rfl,zAY s4 S,hh,hl,hr',fun ms l H5 _ hm s5 h5=>?_⟩
     refine⟨s5 _ _ hD4,hq,zAz (s4.trans s5) hD,zJ,as++[l],by rw[zX];rfl,by rw[zC,hal];rfl,fun i a ha=>?_⟩
     have hkeep:∀b zs,H5 b=some (.tup zs)->upd H5 D (.lst (as.map V.ref++[.ref l])) b=some (.tup zs):=fun b zs e=>by rw[zb (zB1 e (s5 _ _ hD4) (by intro z;cases z))];exact e
     by_cases c:i<q
     . rw[zj (by omega)] at ha
       obtain⟨r',ms',e1,e2,e3⟩:=hch i a ha
       exact⟨r',ms',e1,hkeep _ _ (s5 _ _ e2),e3⟩
     . have hi:i=q:=by
        have:=(zL.mp ha).1
        rw[zC,hal] at this
        have:i<q+1:=this
        omega
       subst hi
       rw[zk (by omega),hal,Nat.sub_self] at ha
       cases ha
       exact⟨r,ms,hr',hkeep _ _ h5,hm⟩
   . obtain⟨_,s4,hD4,as,rfl,hal,hch⟩:=z
     refine⟨_,rfl,wa,_,_,_,rfl,rfl,SqT.of (s4 _ _ hwa),rfl,ta,rfl,⟨_,SqT.of (s4 _ _ hta)⟩,zDL (K:=K) (a:=ta) (xs:=tys) (fun i σ H5=>∃(va vb vl:Option V),σ=[some (.ref wa),some v,some (.ref D),va,vb,vl]/\zA0 H4 H5/\∀(j:Nat)(a' b' l':Int),j<i->ts[j]? = some (a',b',l')->zML p a' b')
      ⟨_,_,_,rfl,zA0.refl _,fun j a' b' l' hj=>absurd hj (zBw _)⟩ (fun i σ H5 _ ⟨_,_,_,_,s5,_⟩=>SqT.of (s5 _ _ (s4 _ _ hta))) ?turn ?after⟩
     case after=>
      rintro σ H5 ⟨va,vb,vl,rfl,s5,nb⟩
      refine kY (fun a b l hm=>?_) H5 (s4.trans s5)
      obtain⟨j,hj,e⟩:=zx hm
      exact nb j a b l (by rw[TA.length,zD];exact hj) (by rw[zE hj,e])
     case turn=>
      rintro i y σ H5 hi ⟨va,vb,vl,rfl,s5,nb⟩
      obtain⟨ya,ky,rfl,hky,hya,_⟩:=TA.get hi
      rw[zQ] at hky
      obtain⟨⟨a,b,c⟩,hti,rfl⟩:∃t:T3,ts[i]? = some t/\tl t=ky:=by
       cases e:ts[i]? with
       | none=>rw[e] at hky;cases hky
       | some t=>rw[e] at hky;exact⟨t,rfl,zf hky⟩
      have rg:=G.adj (.inl (zW hti):Adj ts a b c)
      have s45:=s4.trans s5
      have look:∀x:Int,0<=x->x<n->∃(q:Addr)(r ms:List Int),atI (as.map V.ref) x=some (.ref q)/\chO x p=some r/\H5 q=some (.tup (ms.map V.int))/\∀z,z∈ms↔z∈r:=fun x x0 x1=>by
       obtain⟨j,rfl⟩:=zBM x0
       have hj:j<as.length:=by omega
       obtain⟨r,ms,e1,e2,e3⟩:=hch j as[j] (zE hj)
       exact⟨as[j],r,ms,zCD (by rw[zQ,zE hj];rfl),e1,s5 _ _ e2,e3⟩
      obtain⟨qb,rb,mb,ab,eb,hqb,mmb⟩:=look b rg.2.2.1 rg.2.2.2.1
      obtain⟨qa,ra,ma,aa,ea,hqa,mma⟩:=look a rg.1 rg.2.1
      have next:zML p a b->∀(j:Nat)(a' b' l':Int),j<i+1->ts[j]? = some (a',b',l')->zML p a' b':=fun tc j a' b' l' hj ht=>by
       by_cases cj:j=i
       . subst cj
         rw[hti] at ht
         cases ht
         exact tc
       . exact nb j a' b' l' (by omega) ht
      refine⟨ya,_,rfl,SqT.of (s45 _ _ hya),rfl,_,_,rfl,_,_,rfl,_,_,rfl,rfl,?_⟩
      have hD5:=s5 _ _ hD4
      refine⟨_,rfl,_,rfl,_,rfl,D,_,_,.ref qb,rfl,rfl,SqL.of hD5,ab,qb,_,rfl,.inr (SqT.of hqb),rfl,zBZ _,_,rfl,?_⟩
      show (if (!inV (.int a) (mb.map V.int))=true then _ else _)
      rw[zB0]
      by_cases c1:a∈mb
      . rw[zP c1]
        exact zCm (zCm ⟨_,_,_,rfl,s5,next (.inl ⟨rb,eb,(mmb a).mp c1⟩)⟩)
      . rw[zZ c1]
        refine zDb ?_
        refine⟨_,rfl,_,rfl,_,rfl,D,_,_,.ref qa,rfl,rfl,SqL.of hD5,aa,qa,_,rfl,.inr (SqT.of hqa),rfl,zBZ _,_,rfl,?_⟩
        show (if (!inV (.int b) (ma.map V.int))=true then _ else _)
        rw[zB0]
        by_cases c2:b∈ma
        . rw[zP c2]
          exact zCm ⟨_,_,_,rfl,s5,next (.inr ⟨ra,ea,(mma b).mp c2⟩)⟩
        . rw[zZ c2]
          refine zDb ⟨_,rfl,_,rfl,by show 2<=sizeLine;decide,fun q hq=>?_⟩
          refine kN i a b c q _ hti ?_ nb (s45.trans (zI hq)) zJ
          rintro (⟨r,e,z⟩ | ⟨r,e,z⟩)
          . rw[eb] at e;cases e;exact c1 ((mmb a).mpr z)
          . rw[ea] at e;cases e;exact c2 ((mma b).mpr z)
theorem scRefa:zAH ["word", "at"] ["word", "at"] (defScope zIj):=⟨rfl,rfl,rfl,by decide +kernel,rfl,by decide +kernel,by decide +kernel⟩
theorem zLt {C f fI:Addr}{fd' fdI:FuncData}(F:Fun K "refuse_at" "refuse_at" zIj f fd') (mC:mg "NoPlan" = some (.ref C)) (EI:zG8 K C fI)(bI:zAA K fdI ["self", "word", "at"] []) (GI:zAi P w K mg base CX0 1 fI fdI ["self", "word", "at"] (spXI C "word" "at")):zAi P w K mg base (CXI P w) 3 f fd' ["word", "at"] (zIW C):=by
 refine F.okI scRefa (fun vs H Q E h=>?_) (fun cdv A outer s H vs Q E hr h=>?_)
 . obtain⟨x,v,rfl,_⟩:=h
   rfl
 . obtain⟨x,v,rfl,kY,kN⟩:=h
   refine⟨_,zm (zBr (zAG zGt (pv 1) zCT (zAZ _)) (zm (zFu (E:=E) rfl mC EI rfl GI hr bI (zG (pv 0) (zG (pv 1) zO)) (fun pins σ H s ea tt dx I he hn h0 hE=>zIr I he rfl rfl rfl rfl hn h0 hE))) zAh),?_⟩
   refine⟨_,rfl,rfl,_,rfl,?_⟩
   by_cases c:v = .non
   . exact ifF (by rw[zP c];rfl) (kY c)
   . refine ifT (by rw[zZ c];rfl) ?_
     exact⟨_,rfl,_,rfl,_,_,rfl,kN c⟩
theorem scLets:zAH ["web", "thing"] ["web", "thing"] (defScope zIl):=⟨rfl,rfl,rfl,by decide +kernel,rfl,by decide +kernel,by decide +kernel⟩
theorem zLv {C f fI fP fR fF fL fT:Addr}{fd' fdI fdP fdR fdF fdL fdT:FuncData}{h m:Nat}(F:Fun K "lets_plan" "lets_plan" zIl f fd') (mC:mg "NoPlan" = some (.ref C)) (EI:zG8 K C fI)(bI:zAA K fdI ["self", "word", "at"] []) (GI:zAi P w K mg base CX0 m fI fdI ["self", "word", "at"] (spXI C "word" "at"))
 (FP:Fun K "is_plan" "is_plan" sIp fP fdP) (bP:zAA K fdP ["thing"] []) (mP:mg "is_plan" = some (.ref fP)) (GP:zAi P w K mg base CX0 (m+1) fP fdP ["thing"] spIp)
 (FR:Fun K "refuse_at" "refuse_at" zIj fR fdR) (bR:zAA K fdR ["word", "at"] []) (mR:mg "refuse_at" = some (.ref fR)) (GR:zAi P w K mg base (CXI P w) (m+1) fR fdR ["word", "at"] (zIW C))
 (FF:Fun K "place_fault" "place_fault" sPf fF fdF) (bF:zAA K fdF ["web", "plan"] []) (mF:mg "place_fault" = some (.ref fF)) (GF:zAi P w K mg base CX0 (m+1) fF fdF ["web", "plan"] (spPf h))
 (FL:Fun K "lacks_fault" "lacks_fault" sLk fL fdL) (bL:zAA K fdL ["web", "plan"] []) (mL:mg "lacks_fault" = some (.ref fL)) (GL:zAi P w K mg base CX0 (m+1) fL fdL ["web", "plan"] (spLk h))
 (FT:Fun K "tie_fault" "tie_fault" sTf fT fdT) (bT:zAA K fdT ["web", "plan"] []) (mT:mg "tie_fault" = some (.ref fT)) (GT:zAi P w K mg base CX0 (m+1) fT fdT ["web", "plan"] (spTf h)):zAi P w K mg base (CXI P w) (m+2) f fd' ["web", "thing"] (zIX C h):=by
 refine F.okI scLets (fun vs H Q E h=>?_) (fun cdv A outer s H vs Q E hr h=>?_)
 . obtain⟨wa,v,n,ts,p,rfl,_⟩:=h
   rfl
 . obtain⟨wa,v,n,ts,p,rfl,W,S,g,hh,kY,kN⟩:=h
   obtain⟨ta,tys,hwa,_,_,G⟩:=id W
   have hn1:=G.n1
   have hn24:=G.n24
   have hlen:=g.ln
   refine⟨_,zV (zBr (zCw (zCb (zp GP hr rfl mP FP.kp bP .nil zAX (zG (pv 1) zO)))) (zm (zFu (E:=E) rfl mC EI rfl GI hr bI (zG zHO (zG zCT zO)) (fun pins σ H s ea tt dx I he hn h0 hE=>zIr I he rfl rfl rfl rfl hn h0 hE))) zAh)
    (zV (zCS (zp GR hr rfl mR FR.kp bR .nil zLq (zG zHO (zG (zp GF hr rfl mF FF.kp bF .nil zAX (zG (pv 0) (zG (pv 1) zO))) zO))))
    (zV (zCS (zp GR hr rfl mR FR.kp bR .nil zLq (zG zHO (zG (zp GL hr rfl mL FL.kp bL .nil zAX (zG (pv 0) (zG (pv 1) zO))) zO))))
    (zV (zCS (zp GR hr rfl mR FR.kp bR .nil zLq (zG zHO (zG (zp GT hr rfl mT FT.kp bT .nil zAX (zG (pv 0) (zG (pv 1) zO))) zO))))
    (zm (zAK zEJ))))),?_⟩
   have fail:∀{x:Str}{u:V}{H1:Hp},¬ (plB 24 p=true/\zIO n ts p)->zA0 H H1->∀tt dx,H1 tt=none->H1 dx=none->tt≠dx->E (.ref C) (some dx) (upd (upd H1 tt (.tup [.str x,u])) dx (dO dx [("word",.str x),("at",u)])):=fun no s1 tt dx ht hd ne=>
    kN no _ _ (s1.trans ((zI ht).trans (zI (by rw[zb (Ne.symm ne)];exact hd))))
   refine⟨_,rfl,v,p,rfl,S,g,fun H1 s1=>?_⟩
   refine⟨_,rfl,?_⟩
   cases cp:plB 24 p with
   | false=>
    refine zDb ?_
    exact⟨_,_,rfl,fail (fun z=>by rw[cp] at z;cases z.1) s1⟩
   | true=>
    refine zCm ?_
    refine⟨_,rfl,_,rfl,wa,ta,v,n,p,rfl,s1 _ _ hwa,zAY s1 S,hh,by omega,fun nb H2 s2=>?_,fun i x H2 hx hb _ s2=>?_⟩
    . obtain⟨nd,rng⟩:=zF5.mp nb
      refine⟨_,_,rfl,fun _=>?_,fun z=>absurd rfl z⟩
      have s02:=s1.trans s2
      refine⟨_,rfl,_,rfl,wa,ta,v,n,p,rfl,s02 _ _ hwa,by omega,by omega,zAY s02 S,hh,by omega,fun all H3 s3=>?_,fun x H3 x0 x1 nx _ s3=>?_⟩
      . refine⟨_,_,rfl,fun _=>?_,fun z=>absurd rfl z⟩
        have s03:=s02.trans s3
        refine⟨_,rfl,_,rfl,wa,v,n,ts,p,rfl,W.keep s03,zAY s03 S,hh,hlen,all,fun tie H4 s4=>?_,fun i a b l q H4 ht nt _ s4 _=>?_⟩
        . refine⟨_,_,rfl,fun _=>?_,fun z=>absurd rfl z⟩
          exact kY cp ⟨nd,rng,all,zLR tie⟩ H4 (s03.trans s4)
        . refine⟨_,_,rfl,(fun z=>by cases z),fun _=>fail (fun z=>nt ?_) (s03.trans s4)⟩
          have hm:=zW ht
          have rg:=G.adj (.inl hm:Adj ts a b l)
          exact z.2.tie a b l (.inl hm) (all a rg.1 rg.2.1) (all b rg.2.2.1 rg.2.2.2.1)
      . exact⟨_,_,rfl,(fun z=>by cases z),fun _=>fail (fun z=>nx (z.2.all x x0 x1)) (s02.trans s3)⟩
    . exact⟨_,_,rfl,(fun z=>by cases z),fun _=>fail (fun z=>zF5.mpr ⟨z.2.nd,z.2.rng⟩ i x hx hb) (s1.trans s2)⟩
theorem zKE:zAH ["_law_web_here", "_law_plan", "_law_found"] ["_law_web_here", "_law_plan"] (defScope sLet):=⟨rfl,rfl,rfl,by decide +kernel,rfl,by decide +kernel,by decide +kernel⟩
theorem ok_let {C f fI fL:Addr}{fd' fdL:FuncData}{h m:Nat}(F:Fun K "_law_let" "_law_let" sLet f fd') (mC:mg "NoPlan" = some (.ref C)) (EI:zG8 K C fI)(sb:L2.subIn K C C=true)
 (FL:Fun K "lets_plan" "lets_plan" zIl fL fdL) (bL:zAA K fdL ["web", "thing"] []) (mL:mg "lets_plan" = some (.ref fL)) (GL:zAi P w K mg base (CXI P w) m fL fdL ["web", "thing"] (zIX C h)):zAi P w K mg base CX0 (m+1) f fd' ["_law_web_here", "_law_plan"] (spLet h):=by
 have qC:zLI K C=true:=by unfold zLI;rw[EI.cl];rfl
 refine F.ok zKE (fun vs H Q E h=>?_) (fun cdv A outer s H vs Q E hr h=>?_)
 . obtain⟨wa,v,n,ts,p,rfl,_⟩:=h
   rfl
 . obtain⟨wa,v,n,ts,p,rfl,W,S,g,hh,k⟩:=h
   refine⟨_,zV (zAW (i:=2) zKE.nd rfl (Or.inl rfl) zEJ)
    (zV (zLk rfl rfl rfl mC qC (zKM (i:=2) zKE.nd rfl (Or.inl rfl) GL hr rfl mL FL.kp bL (zG (pv 0) (zG (pv 1) zO)) zEJ)
     (fun ea oe=>zm (zAW (i:=2) zKE.nd rfl (Or.inl rfl) zEJ)))
    (zm (zAK (pv 2)))),?_⟩
   refine⟨_,rfl,_,rfl,wa,v,n,ts,p,rfl,W,S,g,hh,fun e1 e2 H' s'=>?_,fun no od H' s'=>?_⟩
   . exact⟨_,_,rfl,rfl,_,rfl,k true H' ⟨fun _=>⟨e1,e2⟩,fun _=>rfl⟩ s'⟩
   . exact⟨C,rfl,qC,sb,_,rfl,k false H' ⟨fun z=>(Bool.noConfusion z),fun z=>absurd z no⟩ s'⟩
end
end K40
namespace K40
open PySem L2 WM
noncomputable def zD5 (ts:List T3)(x:Int):List Int:=(fd x ts).map hd
theorem zL1 {ts:List T3}{x y:Int}:y∈zD5 ts x↔∃l,Adj ts x y l:=by
 unfold zD5
 rw[zAM]
 constructor
 . rintro ⟨k,hk,e⟩
   obtain⟨z,l,rfl,a⟩:=zDx.mp hk
   exact⟨l,(show z=y from e) ▸ a⟩
 . rintro ⟨l,a⟩
   exact⟨[y,l],zDx.mpr ⟨y,l,rfl,a⟩,rfl⟩
theorem zGm {n:Int}{ts:List T3}(G:GW n ts)(i:Nat)(x:Int):(zD5 (ts.take i) x).length<=ts.length:=by
 unfold zD5
 rw[zD]
 refine zAf (zGH (n:=n) x fun t ht=>(G.rng t (List.mem_of_mem_take ht)).2.1) ?_
 rw[zt]
 omega
theorem zKI {ts:List T3}{i:Nat}{a b c:Int}(h:ts[i]? = some (a,b,c))(x:Int):zD5 (ts.take (i+1)) x=zD5 (ts.take i) x++((if a=x then [b] else [])++(if b=x then [a] else [])):=by
 unfold zD5
 rw[zAF,h,zEd,zX]
 show _++((if a=x then [[b,c]] else [])++(if b=x then [[a,c]] else [])++[]).map hd=_
 rw[zq,zX]
 congr 2
 . split <;> rfl
 . split <;> rfl
noncomputable def zCY (H:Hp)(rs:List Addr)(R:List (List Int)):Prop:=rs.length=R.length/\∀(i:Nat)(r:Addr)(row:List Int),rs[i]? = some r->R[i]? = some row->H r=some (.lst (row.map V.int))
theorem zCY.same {H H':Hp}{rs:List Addr}{R:List (List Int)}(h:zCY H rs R)(k:zA0 H H'):zCY H' rs R:=⟨h.1,fun i r row a b=>k _ _ (h.2 i r row a b)⟩
theorem zCY.snoc {H:Hp}{rs:List Addr}{R:List (List Int)}{r:Addr}{row:List Int}(h:zCY H rs R)(hr:H r=some (.lst (row.map V.int))):zCY H (rs++[r]) (R++[row]):=by
 refine⟨by rw[zC,zC,h.1];rfl,fun i b w e1 e2=>?_⟩
 by_cases c:i<rs.length
 . rw[zj c] at e1
   rw[zj (by rw[<-h.1];exact c)] at e2
   exact h.2 i b w e1 e2
 . rw[zk (by omega)] at e1
   rw[zk (by rw[<-h.1];omega),<-h.1] at e2
   have hi:i-rs.length=0:=by
    have:=(zL.mp e1).1
    rw[List.length_singleton] at this
    omega
   rw[hi] at e1 e2
   cases e1
   cases e2
   exact hr
theorem zCY.off {H:Hp}{rs:List Addr}{R:List (List Int)}{l:Addr}{o:HO}(h:zCY H rs R)(nl:l∉rs):zCY (upd H l o) rs R:=⟨h.1,fun i r row a b=>by rw[zb (show r≠l from fun z=>nl (z ▸ zW a))];exact h.2 i r row a b⟩
noncomputable def zDI (H:Hp)(sl:Addr)(R:List (List Int)):Prop:=∃rs:List Addr,H sl=some (.lst (rs.map V.ref))/\zCY H rs R
theorem zDI.same {H H':Hp}{sl:Addr}{R:List (List Int)}(h:zDI H sl R)(k:zA0 H H'):zDI H' sl R:=by
 obtain⟨rs,a,b⟩:=h
 exact⟨rs,k _ _ a,b.same k⟩
noncomputable abbrev zGl (ts:List T3)(n:Int):List (List Int):=(lowTo n.toNat).map (zD5 ts)
theorem zC8 {ts:List T3}{n:Int}{i:Nat}(h:i<n.toNat):(zGl ts n)[i]? = some (zD5 ts i):=by
 unfold zGl lowTo
 rw[zQ,zQ,List.getElem?_range h];rfl
noncomputable def spBes:Sp:=fun vs H Q _=>∃(wa:Addr)(n:Int)(ts:List T3),vs=[.ref wa]/\zB3 H wa n ts/\∀(bl:Addr)(H':Hp),zA0 H H'->zDI H' bl (zGl ts n)->Q (.ref bl) H'
structure zCZ (ts:List T3)(xs:List Int)(fs:List (List Int)):Prop where
 ne:∀f∈fs,f≠[]
 cl:∀f∈fs,∀a∈f,∀b l,Adj ts a b l->b∈xs->b∈f
noncomputable def spPar:Sp:=fun vs H Q _=>∃(bl la:Addr)(n:Int)(ts:List T3)(xs:List Int),vs=[.ref bl,.ref la]/\zDI H bl (zGl ts n)/\GW n ts/\H la=some (.lst (xs.map V.int))/\xs.Nodup/\(∀x∈xs,0<=x/\x<n)/\xs.length<64 /\
 ∀(fl:Addr)(fs:List (List Int))(H':Hp),H fl=none->zA0 H H'->zDI H' fl fs->fs.flatten.Perm xs->zCZ ts xs fs->Q (.ref fl) H'
theorem cut1 (xs:List V):zEl xs none (some 1)=xs.take 1:=zDh xs 1
section
variable {P:Program}{w:World}{K:PySem.W.Frag}{mg:Str->Option Value}{base:Heap}
theorem zIi:zAH ["_law_web_here", "_law_found", "_law_a", "_law_b", "_law_long"] ["_law_web_here"] (defScope sBes):=⟨rfl,rfl,rfl,by decide +kernel,rfl,by decide +kernel,by decide +kernel⟩
theorem ok_bes {f:Addr}{fd':FuncData}(F:Fun K "_law_beside" "_law_beside" sBes f fd') (mRange:mg "range" = none):zAi P w K mg base CX0 1 f fd' ["_law_web_here"] spBes:=by
 refine F.ok zIi (fun vs H Q E h=>?_) (fun cdv A outer s H vs Q E hr h=>?_)
 . obtain⟨wa,n,ts,rfl,_⟩:=h
   rfl
 . obtain⟨wa,n,ts,rfl,⟨ta,tys,hwa,hta,TA,G⟩,k⟩:=h
   have hn1:=G.n1
   have hn24:=G.n24
   refine⟨_,zV (zEF (i:=1) (own:=["_law_place"]) (cn:=[]) (ci:=[]) zIi.nd rfl (Or.inl rfl) rfl (csc rfl rfl) trivial rfl (zBJ rfl mRange (zG (zAC zAE (pv 0) ze (fun _ _=>rfl)) zO)) (fun _ _ _ _=>zAI (i:=0) (zCK rfl) rfl (Or.inl rfl))
    (fun _ _ _ _=>zBv) (fun _ _ _ _=>zCN zO))
    (zV (zCc PassesOwn.never rfl (zCM (zAC zAE (pv 0) ze (fun _ _=>rfl))) (zFy rfl (zBs (zAI (i:=2) zIi.nd rfl (Or.inl rfl)) (zBs (zAI (i:=3) zIi.nd rfl (Or.inl rfl)) (zBs (zAI (i:=4) zIi.nd rfl (Or.inl rfl)) zEH))))
     (zV (zCS (zF0 PySem.F.plainAttrs_list PySem.F.slot_list_append PySem.F.type_list_append zCU (zAC zAx (pv 1) (pv 2) (fun _ _=>rfl)) (zG (pv 3) zO)))
     (zm (zCS (zF0 PySem.F.plainAttrs_list PySem.F.slot_list_append PySem.F.type_list_append zCU (zAC zAx (pv 1) (pv 3) (fun _ _=>rfl)) (zG (pv 2) zO))))))
    (zm (zAK (pv 1)))),?_⟩
   refine⟨_,rfl,wa,_,_,_,rfl,rfl,SqT.of hwa,rfl,n,rfl,by omega,by omega,[],rfl,fun D hD=>?_⟩
   refine zBt (lo:=0) (n:=n.toNat) (fun q ys H4=>q<=n.toNat/\zA0 H H4/\H4 D=some (.lst ys)/\∃rs:List Addr,ys=rs.map V.ref/\rs.length=q/\rs.Nodup/\(∀r∈rs,H r=none/\r≠D)/\∀r∈rs,H4 r=some (.lst []))
    ⟨zi _,zI hD,zJ,[],rfl,rfl,List.nodup_nil,(fun r hr=>by cases hr),fun r hr=>by cases hr⟩ (fun q ys H4 z=>?_) (fun q ys H4 hq z=>?_) (fun ys H4 z=>?_)
   . obtain⟨hq,_,_,rs,rfl,hl,_⟩:=z
     rw[zD,hl]
     exact zo (by omega)
   . obtain⟨_,s4,hD4,rs,rfl,hl,nd,fr,em⟩:=z
     refine⟨⟨rfl,rfl⟩,?_⟩
     refine zGc ?_
     refine⟨zi _,fun r hr'=>?_⟩
     have sr:=zI (o:=.lst []) hr'
     have nrD:r≠D:=fun z=>by
      have:H4 r=none:=hr'
      rw[z,hD4] at this;cases this
     have nr:r∉rs:=fun z=>by
      have:H4 r=none:=hr'
      rw[em r z] at this;cases this
     have hr0:H r=none:=zA0.none s4 hr'
     refine⟨sr _ _ hD4,hq,zAz (s4.trans sr) hD,zJ,rs++[r],by rw[zX];rfl,by rw[zC,hl];rfl,?_,fun x hx=>?_,fun x hx=>?_⟩
     . rw[zAP]
       exact⟨nd,by simp,fun x hx y hy=>by rw[zn.mp hy];exact fun z=>nr (z ▸ hx)⟩
     . rcases zK.mp hx with hx | hx
       . exact fr x hx
       . rw[zn.mp hx];exact⟨hr0,nrD⟩
     . rcases zK.mp hx with hx | hx
       . rw[zb (fr x hx).2];exact sr _ _ (em x hx)
       . rw[zn.mp hx,zb nrD];exact zJ
   . obtain⟨_,s4,hD4,rs,rfl,hl,nd,fr,em⟩:=z
     have R0:zCY H4 rs (zGl (ts.take 0) n):=⟨by rw[hl,zD,zBc],fun i r row e1 e2=>by
      have hi:i<n.toNat:=by rw[<-hl];exact (zL.mp e1).1
      rw[zC8 hi] at e2
      cases e2
      exact em r (zW e1)⟩
     refine⟨_,rfl,wa,_,_,_,rfl,rfl,SqT.of (s4 _ _ hwa),rfl,ta,rfl,⟨_,SqT.of (s4 _ _ hta)⟩,zDL (K:=K) (a:=ta) (xs:=tys) (fun i σ H5=>∃(va vb vl:Option V),σ=[some (.ref wa),some (.ref D),va,vb,vl]/\zA0 H H5/\H5 D=some (.lst (rs.map V.ref))/\zCY H5 rs (zGl (ts.take i) n))
      ⟨_,_,_,rfl,s4,hD4,R0⟩ (fun i σ H5 _ ⟨_,_,_,_,s5,_⟩=>SqT.of (s5 _ _ hta)) ?turn ?after⟩
     case after=>
      rintro σ H5 ⟨va,vb,vl,rfl,s5,h5,R5⟩
      rw[TA.length,zD,za (zH _)] at R5
      exact⟨_,rfl,k D H5 s5 ⟨rs,h5,R5⟩⟩
     case turn=>
      rintro i y σ H5 hi ⟨va,vb,vl,rfl,s5,h5,R5⟩
      obtain⟨ya,ky,rfl,hky,hya,_⟩:=TA.get hi
      rw[zQ] at hky
      obtain⟨⟨a,b,c⟩,hti,rfl⟩:∃t:T3,ts[i]? = some t/\tl t=ky:=by
       cases e:ts[i]? with
       | none=>rw[e] at hky;cases hky
       | some t=>rw[e] at hky;exact⟨t,rfl,zf hky⟩
      obtain⟨a0,a1,b0,b1,nab,_⟩:=G.adj (.inl (zW hti):Adj ts a b c)
      obtain⟨a,rfl⟩:=zBM a0
      obtain⟨b,rfl⟩:=zBM b0
      have ha:a<rs.length:=by omega
      have hb:b<rs.length:=by omega
      have ea:rs[a]? = some rs[a]:=zE ha
      have eb:rs[b]? = some rs[b]:=zE hb
      have nrr:rs[a]≠rs[b]:=fun z=>by
       have hp:=zu.mp (zAR.mp nd)
       by_cases cc:a<b
       . exact hp a b ha hb cc z
       . exact hp b a hb ha (by omega) z.symm
      have hra:=R5.2 a _ _ ea (zC8 (by omega))
      have hrb:=R5.2 b _ _ eb (zC8 (by omega))
      have la:=zGm G i (a:Int)
      have lb:=zGm G i (b:Int)
      have lt:=G.len
      have fa:=fr _ (zW ea)
      have fb:=fr _ (zW eb)
      refine⟨ya,_,rfl,SqT.of (s5 _ _ hya),rfl,_,_,rfl,_,_,rfl,_,_,rfl,rfl,?_⟩
      refine⟨_,rfl,_,rfl,D,_,_,.ref rs[a],rfl,rfl,SqL.of h5,zCD (by rw[zQ,ea];rfl),.inl ⟨rfl,_,SqL.of hra⟩,_,rfl,rs[a],_,.int b,rfl,rfl,hra,by rw[zD];exact zo (by omega),?_⟩
      have h6:(upd H5 rs[a] (.lst ((zD5 (ts.take i) a).map V.int++[.int b]))) D=some (.lst (rs.map V.ref)):=by rw[zb fa.2.symm];exact h5
      have hrb6:(upd H5 rs[a] (.lst ((zD5 (ts.take i) a).map V.int++[.int b]))) rs[b]=some (.lst ((zD5 (ts.take i) b).map V.int)):=by rw[zb nrr.symm];exact hrb
      refine⟨_,rfl,_,rfl,D,_,_,.ref rs[b],rfl,rfl,SqL.of h6,zCD (by rw[zQ,eb];rfl),.inl ⟨rfl,_,SqL.of hrb6⟩,_,rfl,rs[b],_,.int a,rfl,rfl,hrb6,by rw[zD];exact zo (by omega),?_⟩
      refine⟨_,_,_,rfl,zAz (zAz s5 fa.1) fb.1,by rw[zb fb.2.symm];exact h6,?_⟩
      refine⟨by rw[zD,zBc,hl],fun j r row e1 e2=>?_⟩
      have hj:j<n.toNat:=by rw[<-hl];exact (zL.mp e1).1
      rw[zC8 hj] at e2
      cases e2
      have e0:=R5.2 j r _ e1 (zC8 hj)
      rw[zKI hti]
      by_cases c1:j=b
      . subst c1
        rw[eb] at e1
        cases e1
        rw[zJ,if_neg (fun z=>nab z),if_pos rfl,zX];rfl
      . have n1:r≠rs[b]:=fun z=>by
         have hp:=zu.mp (zAR.mp nd)
         obtain⟨hj',e⟩:=zL.mp e1
         by_cases cc:j<b
         . exact hp j b hj' hb cc (by rw[e,z])
         . exact hp b j hb hj' (by omega) (by rw[e,z])
        rw[zb n1]
        by_cases c2:j=a
        . subst c2
          rw[ea] at e1
          cases e1
          rw[zJ,if_pos rfl,if_neg (fun z=>nab z.symm),zX];rfl
        . have n2:r≠rs[a]:=fun z=>by
           have hp:=zu.mp (zAR.mp nd)
           obtain⟨hj',e⟩:=zL.mp e1
           by_cases cc:j<a
           . exact hp j a hj' ha cc (by rw[e,z])
           . exact hp a j ha hj' (by omega) (by rw[e,z])
          rw[zb n2,if_neg (fun z=>c2 (by omega)),if_neg (fun z=>c1 (by omega))]
          simpa using e0
end
end K40
namespace K40
open PySem L2 WM
theorem zDy (fs:List (List Int))(f:List Int):(fs++[f]).flatten=fs.flatten++f:=by simp
structure PtI (ts:List T3)(le pt:List Int)(at':Nat):Prop where
 nd:pt.Nodup
 sub:∀x∈pt,x∈le
 ne:pt≠[]
 at_le:at'<=pt.length
 done:∀(i:Nat)(a:Int),i<at'->pt[i]? = some a->∀b l,Adj ts a b l->b∈le->b∈pt
theorem PtI.step {n:Int}{ts:List T3}{le pt:List Int}{at':Nat}{x:Int}(G:GW n ts)(h:PtI ts le pt at')(hx:pt[at']? = some x):PtI ts le (pt++(zD5 ts x).filter fun y=>decide (y∈le) && !decide (y∈pt)) (at'+1):=by
 have ha:=(zL.mp hx).1
 have fm:∀y,y∈(zD5 ts x).filter (fun y=>decide (y∈le) && !decide (y∈pt))↔y∈zD5 ts x/\y∈le/\y∉pt:=fun y=>by
  rw[zA2,zA8,decide_eq_true_iff,Bool.not_eq_true',decide_eq_false_iff_not]
 refine⟨?_,fun y hy=>?_,fun z=>h.ne (List.append_eq_nil_iff.mp z).1,by rw[zC];omega,fun i a hi e b l A hb=>?_⟩
 . rw[zAP]
   exact⟨h.nd,(zHZ G x).filter _,fun y hy z hz e=>((fm z).mp hz).2.2 (e ▸ hy)⟩
 . rcases zK.mp hy with hy | hy
   . exact h.sub y hy
   . exact ((fm y).mp hy).2.1
 . by_cases c:i<at'
   . rw[zj (by omega)] at e
     exact zK.mpr (.inl (h.done i a c e b l A hb))
   . have hi':i=at':=by omega
     subst hi'
     rw[zj ha,hx] at e
     cases e
     by_cases cb:b∈pt
     . exact zK.mpr (.inl cb)
     . exact zK.mpr (.inr ((fm b).mpr ⟨zL1.mpr ⟨l,A⟩,hb,cb⟩))
structure PsI (ts:List T3)(xs le:List Int)(fs:List (List Int)):Prop where
 pm:(fs.flatten++le).Perm xs
 ok:zCZ ts xs fs
theorem PsI.step {ts:List T3}{xs le pt pt':List Int}{fs:List (List Int)}(h:PsI ts xs le fs)(nd:xs.Nodup)(p:PtI ts le pt pt.length)(pm:pt'.Perm pt):PsI ts xs (le.filter fun x=>!decide (x∈pt)) (fs++[pt']):=by
 have ndl:=h.pm.nodup_iff.mpr nd
 obtain⟨n1,n2,n3⟩:=zAP.mp ndl
 have mem:∀x,x∈xs↔x∈fs.flatten\/x∈le:=fun x=>by rw[<-h.pm.mem_iff,zK]
 refine⟨?_,⟨fun f hf=>?_,fun f hf a ha b l A hb=>?_⟩⟩
 . rw[zDy,zAd]
   refine List.Perm.trans ?_ h.pm
   refine List.Perm.append_left _ ?_
   refine (pm.append_right _).trans ?_
   refine (List.perm_ext_iff_of_nodup ?_ n2).mpr fun x=>?_
   . rw[zAP]
     refine⟨p.nd,n2.filter _,fun x hx y hy e=>?_⟩
     rw[zA2,Bool.not_eq_true',decide_eq_false_iff_not] at hy
     exact hy.2 (e ▸ hx)
   . rw[zK,zA2,Bool.not_eq_true',decide_eq_false_iff_not]
     constructor
     . rintro (z | z)
       . exact p.sub x z
       . exact z.1
     . intro z
       by_cases c:x∈pt
       . exact .inl c
       . exact .inr ⟨z,c⟩
 . rcases zK.mp hf with hf | hf
   . exact h.ok.ne f hf
   . rw[zn.mp hf]
     intro z
     exact p.ne (List.perm_nil.mp (z ▸ pm.symm))
 . rcases zK.mp hf with hf | hf
   . exact h.ok.cl f hf a ha b l A hb
   . rw[zn.mp hf] at ha ⊢
     have ha':=pm.mem_iff.mp ha
     rw[pm.mem_iff]
     rcases (mem b).mp hb with z | z
     . obtain⟨g,hg,hbg⟩:=List.mem_flatten.mp z
       have hag:=h.ok.cl g hg b hbg a l A.symm ((mem a).mpr (.inr (p.sub a ha')))
       exact (n3 a (List.mem_flatten.mpr ⟨g,hg,hag⟩) a (p.sub a ha') rfl).elim
     . obtain⟨i,hi,e⟩:=zx ha'
       exact p.done i a hi (by rw[zE hi,e]) b l A z
section
variable {P:Program}{w:World}{K:PySem.W.Frag}{mg:Str->Option Value}{base:Heap}
section
variable {X:Cx}{pl:Option ComprehensionPlan}{N':List Str}{sc:Scope}{fp:Option Addr}{s3:Shared}{H3:Hp}
end
theorem zFp:zAH ["_law_beside_each", "_law_places", "_law_found", "_law_left", "_law_part", "_law_at"] ["_law_beside_each", "_law_places"] (defScope sPar):=⟨rfl,rfl,rfl,by decide +kernel,rfl,by decide +kernel,by decide +kernel⟩
theorem ok_par {f:Addr}{fd':FuncData}(F:Fun K "_law_parts" "_law_parts" sPar f fd') (mSorted:mg "sorted" = none) (mLen:mg "len" = none):zAi P w K mg base CX0 1 f fd' ["_law_beside_each", "_law_places"] spPar:=by
 refine F.ok zFp (fun vs H Q E h=>?_) (fun cdv A outer s H vs Q E hr h=>?_)
 . obtain⟨bl,la,n,ts,xs,rfl,_⟩:=h
   rfl
 . obtain⟨bl,la,n,ts,xs,rfl,⟨rs,hbl,RB⟩,G,hla,nd,rng,h64,k⟩:=h
   have hu0:=hr.units0
   have hrs:rs.length=n.toNat:=by rw[RB.1,zD,zBc]
   refine⟨_,zV (zAW (i:=2) zFp.nd rfl (Or.inl rfl) (zCN zO))
    (zV (zAW (i:=3) zFp.nd rfl (Or.inr rfl) (zAD zCL (by rfl) mSorted (by decide +kernel) (zG (pv 1) zO)))
    (zV (zD6 PassesOwn.never (zAG (zIy hu0) (pv 3) (zCN zO) (zAZ _))
     (zV (zAW (i:=4) zFp.nd rfl (Or.inr rfl) (zCP zGf (pv 3) zCq (zCp ze)))
     (zV (zAW (i:=5) zFp.nd rfl (Or.inl rfl) ze)
     (zV (zD6 PassesOwn.never (zAG zIz (pv 5) (zAD zAQ (by rfl) mLen PySem.boot_len (zG (pv 4) zO)) (zAZ _))
      (zV (zAW (i:=4) zFp.nd rfl (Or.inr rfl) (zBD zF3 (pv 4) (zBK (own:=["_law_one"]) (cn:=["_law_left", "_law_part"]) (ci:=[3,4]) rfl (csc rfl rfl) ⟨rfl,rfl,rfl,rfl,rfl,rfl,trivial⟩ rfl (zC1 (zAC zAx (pv 0) (zAC zAx (pv 4) (pv 5) (fun _ _=>rfl)) (fun _ _=>rfl))) (fun _ _ _ _=>zAI (i:=0) (zCK rfl) rfl (Or.inl rfl))
       (fun _ _ _ _=>zCo (PW.pt (zDG (zAG zK3 (pv 0) (pv 1) (by with_unfolding_all rfl)) (zCg (zAG zC3 (pv 0) (pv 2) (by with_unfolding_all rfl)))))) (fun _ _ _ _=>pv 0))))
      (zm (zAW (i:=5) zFp.nd rfl (Or.inl rfl) (zBD zCe (pv 5) ze)))))
     (zV (zCS (zF0 PySem.F.plainAttrs_list PySem.F.slot_list_append PySem.F.type_list_append zCU (pv 2) (zG (zAD zCL (by rfl) mSorted (by decide +kernel) (zG (pv 4) zO)) zO)))
     (zm (zAW (i:=3) zFp.nd rfl (Or.inr rfl) (zBK (own:=["_law_one"]) (cn:=["_law_part"]) (ci:=[4]) rfl (csc rfl rfl) ⟨rfl,rfl,rfl,trivial⟩ rfl (zC1 (pv 3)) (fun _ _ _ _=>zAI (i:=0) (zCK rfl) rfl (Or.inl rfl))
      (fun _ _ _ _=>zCo (zAG zC3 (pv 0) (pv 1) (by with_unfolding_all rfl))) (fun _ _ _ _=>pv 0)))))))))
    (zm (zAK (pv 2))))),?_⟩
   refine⟨zi _,fun fo hfo=>?_⟩
   have s0:=zI (o:=.lst []) hfo
   refine⟨_,rfl,la,xs,rfl,SqL.of (s0 _ _ hla),h64,fun l0 ms hl0 pm0 so0=>?_⟩
   have s1:=s0.trans (zI (o:=.lst (ms.map V.int)) hl0)
   have nl0:l0≠fo:=fun z=>by rw[z,zJ] at hl0;cases hl0
   have hfo1:(upd (upd H fo (.lst [])) l0 (.lst (ms.map V.int))) fo=some (.lst (([]:List Addr).map V.ref)):=by rw[zb nl0.symm,zJ];rfl
   have hl1:(upd (upd H fo (.lst [])) l0 (.lst (ms.map V.int))) l0=some (.lst (ms.map V.int)):=zJ
   generalize upd (upd H fo (.lst [])) l0 (.lst (ms.map V.int))=H1 at s1 hfo1 hl1 ⊢
   refine⟨fun m σ H2=>∃(v4 v5:Option V)(ll:Addr)(le:List Int)(as:List Addr)(fs:List (List Int)),σ=[some (.ref bl),some (.ref la),some (.ref fo),some (.ref ll),v4,v5]/\m=le.length/\zA0 H H2/\H2 ll=some (.lst (le.map V.int))/\H2 fo=some (.lst (as.map V.ref))/\fo∉as/\zCY H2 as fs/\as.length<=64/\fs.length+le.length<=xs.length/\PsI ts xs le fs,
    ⟨ms.length,none,none,l0,ms,[],[],rfl,rfl,s1,hl1,hfo1,by simp,⟨rfl,fun i r row e=>by simp at e⟩,by simp,by rw[List.length_nil,Nat.zero_add,pm0.length_eq];exact zH _,⟨pm0,⟨(fun f hf=>by cases hf),(fun f hf=>by cases hf)⟩⟩⟩,fun m σ H2 z=>?_⟩
   obtain⟨v4,v5,ll,le,as,fs,rfl,rfl,s2,hll,hfo2,nfo,RF,has,hcnt,PS⟩:=z
   have ndl:le.Nodup:=(zAP.mp (PS.pm.nodup_iff.mpr nd)).2.1
   have lex:∀x∈le,x∈xs:=fun x hx=>PS.pm.mem_iff.mp (zK.mpr (.inr hx))
   have lel:le.length<=xs.length:=by omega
   refine⟨_,rfl,zi _,fun b hb=>?_⟩
   have sb:=zI (o:=.lst []) hb
   refine⟨ll,b,le.map V.int,rfl,rfl,SqL.of (sb _ _ hll),SqL.of zJ,_,rfl,?_⟩
   have s3:=s2.trans sb
   have hll3:=sb _ _ hll
   have hfo3:=sb _ _ hfo2
   have RF3:=RF.same sb
   generalize upd H2 b (.lst [])=H3 at s3 hll3 hfo3 RF3 ⊢
   clear hb sb hll hfo2 RF s2 b H2
   cases le with
   | nil=>
    refine zCm ?_
    refine⟨_,rfl,k fo fs H3 hfo s3 ⟨as,hfo3,RF3⟩ ?_ PS.ok⟩
    have:=PS.pm
    rw[zq] at this
    exact this
   | cons x0 le'=>
   refine zDb ⟨fun σ' H'=>∃(v4 v5:Option V)(ll:Addr)(le1:List Int)(as:List Addr)(fs:List (List Int)),σ'=[some (.ref bl),some (.ref la),some (.ref fo),some (.ref ll),v4,v5]/\le1.length<(x0::le').length/\zA0 H H'/\H' ll=some (.lst (le1.map V.int))/\H' fo=some (.lst (as.map V.ref))/\fo∉as/\zCY H' as fs/\as.length<=64/\fs.length+le1.length<=xs.length/\PsI ts xs le1 fs,?_,?_⟩
   . rintro σ' H' ⟨v4,v5,ll,le1,as,fs,rfl,hlt,r⟩
     exact⟨le1.length,hlt,v4,v5,ll,le1,as,fs,rfl,rfl,r⟩
   . refine⟨_,rfl,_,rfl,ll,_,rfl,SqL.of hll3,fun p0 hp0=>?_⟩
     rw[cut1]
     have sp:=zI (o:=.lst (((x0::le').map V.int).take 1)) hp0
     have s4:=s3.trans sp
     have hp4:(upd H3 p0 (.lst (((x0::le').map V.int).take 1))) p0=some (.lst ([x0].map V.int)):=zJ
     have hll4:=sp _ _ hll3
     have hfo4:=sp _ _ hfo3
     have RF4:=RF3.same sp
     generalize upd H3 p0 (.lst (((x0::le').map V.int).take 1))=H4 at s4 hp4 hll4 hfo4 RF4 ⊢
     clear sp hll3 hfo3 RF3 s3 hp0
     obtain⟨le,ele⟩:∃le,le=x0::le':=⟨_,rfl⟩
     rw[<-ele] at hll4 ndl lex lel PS hcnt ⊢
     have P0:PtI ts le [x0] 0:=⟨by simp,fun x hx=>by rw[zn.mp hx,ele];exact zY,by simp,zi _,fun i a hi=>absurd hi (zBw _)⟩
     refine⟨fun m σ H5=>∃(pp:Addr)(pt:List Int)(a':Nat),σ=[some (.ref bl),some (.ref la),some (.ref fo),some (.ref ll),some (.ref pp),some (.int a')]/\m=le.length-a'/\zA0 H4 H5/\H5 pp=some (.lst (pt.map V.int))/\PtI ts le pt a',⟨_,p0,[x0],0,rfl,rfl,zA0.refl _,hp4,P0⟩,fun m σ H5 z=>?_⟩
     obtain⟨pp,pt,a',rfl,rfl,s5,hpp,PI⟩:=z
     have ptl:pt.length<=le.length:=zE2 PI.nd PI.sub
     refine⟨_,rfl,_,rfl,pp,_,rfl,.inl (SqL.of hpp),_,_,rfl,rfl,_,rfl,?_⟩
     rw[zD]
     by_cases c:a'<pt.length
     . refine ifT (zP (by omega)) ⟨fun σ' H'=>∃(pp:Addr)(pt:List Int),σ'=[some (.ref bl),some (.ref la),some (.ref fo),some (.ref ll),some (.ref pp),some (.int ((a'+1:Nat):Int))]/\zA0 H4 H'/\H' pp=some (.lst (pt.map V.int))/\PtI ts le pt (a'+1),?_,?_⟩
       . rintro σ' H' ⟨pp,pt',rfl,s',hp',P'⟩
         exact⟨_,by omega,pp,pt',a'+1,rfl,rfl,s',hp',P'⟩
       . have ex:pt[a']? = some pt[a']:=zE c
         have hxm:=PI.sub _ (zBH c)
         generalize pt[a']=x at ex hxm
         have rx:=rng x (lex x hxm)
         obtain⟨xn,rfl⟩:=zBM rx.1
         have hxr:xn<rs.length:=by omega
         have hrow:=RB.2 xn rs[xn] _ (zE hxr) (zC8 (by omega))
         have s05:=s4.trans s5
         have hrow5:=s05 _ _ hrow
         have hrl:(zD5 ts xn).length<=100:=by
          have:=zGm G ts.length (xn:Int)
          rw[za (zH _)] at this
          have:=G.len
          omega
         refine⟨_,rfl,_,rfl,_,rfl,_,rfl,pp,_,_,.int xn,rfl,rfl,SqL.of hpp,zCD (by rw[zQ,ex];rfl),bl,_,_,.ref rs[xn],rfl,rfl,SqL.of (s05 _ _ hbl),zCD (by rw[zQ,zE hxr];rfl),rs[xn],rfl,⟨_,SqL.of hrow5⟩,[.ref ll,.ref pp],rfl,fun D hD=>?_⟩
         have hll5:=s5 _ _ hll4
         refine zCX (a:=rs[xn]) (xs:=(zD5 ts xn).map V.int) (fun i ys H6=>ys=(((zD5 ts xn).take i).filter fun y=>decide (y∈le) && !decide (y∈pt)).map V.int/\H6=upd H5 D (.lst ys)) ⟨rfl,rfl⟩ (fun i ys H6 z=>?_) (fun i ys H6 z=>?_) (fun i v ys H6 hv z=>?_) (fun ys H6 z=>?_)
         . obtain⟨_,rfl⟩:=z
           exact SqL.of (by rw[zb (zl hrow5 hD)];exact hrow5)
         . obtain⟨rfl,_⟩:=z
           rw[zD]
           refine zAo (zAg _ _) ?_
           rw[zt]
           exact zo (by omega)
         . obtain⟨rfl,rfl⟩:=z
           obtain⟨y,hy,rfl⟩:∃y,(zD5 ts xn)[i]? = some y/\V.int y=v:=by
            rw[zQ] at hv
            cases e:(zD5 ts xn)[i]? with
            | none=>rw[e] at hv;cases hv
            | some y=>rw[e] at hv;exact⟨y,rfl,zf hv⟩
           have st:((zD5 ts xn).take (i+1)).filter (fun y=>decide (y∈le) && !decide (y∈pt))=((zD5 ts xn).take i).filter (fun y=>decide (y∈le) && !decide (y∈pt))++[y].filter (fun y=>decide (y∈le) && !decide (y∈pt)):=by rw[zAF,hy,zBh];rfl
           refine⟨⟨rfl,rfl⟩,?_⟩
           refine⟨_,rfl,_,rfl,ll,_,rfl,.inl (SqL.of (by rw[zb (zl hll5 hD)];exact hll5)),rfl,zBZ _,_,rfl,?_⟩
           show (if inV (.int y) (le.map V.int)=true then _ else _)
           rw[zB0]
           by_cases c1:y∈le
           . rw[zP c1]
             refine zDb ?_
             refine⟨_,rfl,_,rfl,pp,_,rfl,.inl (SqL.of (by rw[zb (zl hpp hD)];exact hpp)),rfl,zBZ _,_,rfl,?_⟩
             show (if (!inV (.int y) (pt.map V.int))=true then _ else _)
             rw[zB0]
             by_cases c2:y∈pt
             . rw[zP c2]
               refine zCm ⟨?_,rfl⟩
               rw[st,zA4 (by rw[zP c2,Bool.not_true,Bool.and_false];decide),zBX,zq]
             . rw[zZ c2]
               refine zDb ⟨_,rfl,zJ,?_,zB8⟩
               rw[st,zBL (by rw[zP c1,zZ c2];rfl),zBX,zX];rfl
           . rw[zZ c1]
             refine zCm (zCm ⟨?_,rfl⟩)
             rw[st,zA4 (by rw[zZ c1,Bool.false_and];decide),zBX,zq]
         . obtain⟨rfl,rfl⟩:=z
           rw[zD,za (zH _)]
           have sD:=zI (o:=.lst (((zD5 ts xn).filter fun y=>decide (y∈le) && !decide (y∈pt)).map V.int)) hD
           have PI':=PI.step G ex
           have l1:(pt++(zD5 ts xn).filter fun y=>decide (y∈le) && !decide (y∈pt)).length<=le.length:=zE2 PI'.nd PI'.sub
           rw[zC] at l1
           refine⟨pp,D,_,_,rfl,rfl,sD _ _ hpp,zJ,by rw[zD,zD];exact zAl (zo (by omega)),fun pq hpq=>?_⟩
           refine⟨_,rfl,_,_,rfl,rfl,?_⟩
           refine⟨pq,_,?_,(s5.trans sD).trans (zI hpq),by rw[zJ,<-zX],PI'⟩
           rfl
     . refine ifF (zZ (by omega)) ?_
       have ea:a'=pt.length:=by have:=PI.at_le;omega
       subst ea
       have s05:=s4.trans s5
       have hfo5:=s5 _ _ hfo4
       have RF5:=RF4.same s5
       have hll5:=s5 _ _ hll4
       refine⟨_,rfl,.inl ⟨rfl,_,SqL.of hfo5⟩,_,rfl,pp,pt,rfl,SqL.of hpp,by omega,fun sp ms' hsp pm' so'=>?_⟩
       have s6:=zI (o:=.lst (ms'.map V.int)) hsp
       have nsp:sp≠fo:=fun z=>by
        have:H5 sp=none:=hsp
        rw[z,hfo5] at this;cases this
       refine⟨fo,_,.ref sp,rfl,rfl,s6 _ _ hfo5,by rw[zD];exact zo (by omega),?_⟩
       have RF7:zCY (upd (upd H5 sp (.lst (ms'.map V.int))) fo (.lst (as.map V.ref++[.ref sp]))) (as++[sp]) (fs++[ms']):=by
        refine zCY.off (zCY.snoc (RF5.same s6) zJ) fun z=>?_
        rcases zK.mp z with z | z
        . exact nfo z
        . exact nsp (zn.mp z).symm
       have s7:zA0 H (upd (upd H5 sp (.lst (ms'.map V.int))) fo (.lst (as.map V.ref++[.ref sp]))):=zAz (s05.trans s6) hfo
       have hfo7:(upd (upd H5 sp (.lst (ms'.map V.int))) fo (.lst (as.map V.ref++[.ref sp]))) fo=some (.lst ((as++[sp]).map V.ref)):=by rw[zJ,zX];rfl
       have hk:∀q zs,q≠fo->H5 q=some (.lst zs)->(upd (upd H5 sp (.lst (ms'.map V.int))) fo (.lst (as.map V.ref++[.ref sp]))) q=some (.lst zs):=fun q zs nq e=>by rw[zb nq];exact s6 _ _ e
       have nllf:ll≠fo:=fun z=>by
        rw[z,hfo5] at hll5
        rw[ele] at hll5
        cases as with
        | nil=>cases hll5
        | cons u v=>cases hll5
       have nppf:pp≠fo:=fun z=>by
        rw[z,hfo5] at hpp
        cases pt with
        | nil=>exact PI.ne rfl
        | cons x l=>cases as with
         | nil=>cases hpp
         | cons u v=>cases hpp
       have hll7:=hk ll _ nllf hll5
       have hpp7:=hk pp _ nppf hpp
       generalize upd (upd H5 sp (.lst (ms'.map V.int))) fo (.lst (as.map V.ref++[.ref sp]))=H7 at RF7 s7 hfo7 hll7 hpp7 ⊢
       refine⟨_,rfl,ll,rfl,⟨_,SqL.of hll7⟩,[.ref pp],rfl,fun D hD=>?_⟩
       refine zCX (a:=ll) (xs:=le.map V.int) (fun i ys H8=>ys=((le.take i).filter fun y=>!decide (y∈pt)).map V.int/\H8=upd H7 D (.lst ys)) ⟨rfl,rfl⟩ (fun i ys H8 z=>?_) (fun i ys H8 z=>?_) (fun i v ys H8 hv z=>?_) (fun ys H8 z=>?_)
       . obtain⟨_,rfl⟩:=z
         exact SqL.of (by rw[zb (zl hll7 hD)];exact hll7)
       . obtain⟨rfl,_⟩:=z
         rw[zD]
         refine zAo (zAg _ _) ?_
         rw[zt]
         exact zo (by omega)
       . obtain⟨rfl,rfl⟩:=z
         obtain⟨y,hy,rfl⟩:∃y,le[i]? = some y/\V.int y=v:=by
          rw[zQ] at hv
          cases e:le[i]? with
          | none=>rw[e] at hv;cases hv
          | some y=>rw[e] at hv;exact⟨y,rfl,zf hv⟩
         have st:(le.take (i+1)).filter (fun y=>!decide (y∈pt))=(le.take i).filter (fun y=>!decide (y∈pt))++[y].filter (fun y=>!decide (y∈pt)):=by rw[zAF,hy,zBh];rfl
         refine⟨⟨rfl,rfl⟩,?_⟩
         refine⟨_,rfl,_,rfl,pp,_,rfl,.inl (SqL.of (by rw[zb (zl hpp7 hD)];exact hpp7)),rfl,zBZ _,_,rfl,?_⟩
         show (if (!inV (.int y) (pt.map V.int))=true then _ else _)
         rw[zB0]
         by_cases c2:y∈pt
         . rw[zP c2]
           refine zCm ⟨?_,rfl⟩
           rw[st,zA4 (by rw[zP c2];decide),zBX,zq]
         . rw[zZ c2]
           refine zDb ⟨_,rfl,zJ,?_,zB8⟩
           rw[st,zBL (by rw[zZ c2];rfl),zBX,zX];rfl
       . obtain⟨rfl,rfl⟩:=z
         rw[zD,za (zH _)]
         have sD:=zI (o:=.lst ((le.filter fun y=>!decide (y∈pt)).map V.int)) hD
         have PS':=PS.step nd PI pm'
         have flen:(le.filter fun y=>!decide (y∈pt)).length<le.length:=by
          refine Nat.lt_of_le_of_ne (zAg _ _) fun z=>?_
          have:=List.length_filter_eq_length_iff.mp z
          obtain⟨x,hx⟩:=List.exists_mem_of_ne_nil pt PI.ne
          have:=this x (PI.sub x hx)
          rw[zP hx] at this
          cases this
         refine⟨_,_,D,_,as++[sp],fs++[ms'],rfl,flen,s7.trans sD,zJ,sD _ _ hfo7,fun z=>?_,RF7.same sD,?_,?_,PS'⟩
         . rcases zK.mp z with z | z
           . exact nfo z
           . exact nsp (zn.mp z).symm
         . have:=RF7.1
           rw[zC,zC] at this
           rw[zC,List.length_singleton]
           have:=RF5.1
           omega
         . rw[zC,List.length_singleton]
           omega
end
end K40
namespace K40
open PySem L2 WM
theorem zGI:∀(l:List Int)(k:Nat),(l.map V.int).eraseIdx k=(l.eraseIdx k).map V.int
 | [],_=>rfl
 | _::_,0=>rfl
 | x::r,k+1=>by
  show V.int x::(r.map V.int).eraseIdx k=V.int x::(r.eraseIdx k).map V.int
  rw[zGI r k]
theorem zE9:∀{l:List Int}{k:Nat}(h:k<l.length),(l[k]::l.eraseIdx k).Perm l
 | [],_,h=>absurd h (zBw _)
 | _::_,0,_=>List.Perm.refl _
 | x::r,k+1,h=>by
  have hk:k<r.length:=by simpa using h
  show (r[k]::x::r.eraseIdx k).Perm (x::r)
  exact (List.Perm.swap x r[k] _).trans ((zE9 hk).cons x)
structure PlR (ts:List T3)(xs:List Int)(p:Pln):Prop where
 pm:(zAL p).Perm xs
 gd:zIA p
 rs:zIo p
 ht:hgt p<=xs.length
 tie:zGZ ts p
 k1:zCy p
inductive zJ0 (ts:List T3):List (List Int)->List Pln->Prop
 | nil:zJ0 ts [] []
 | cons {f:List Int}{k:Pln}{fs:List (List Int)}{ks:List Pln}(h:PlR ts f k)(t:zJ0 ts fs ks):zJ0 ts (f::fs) (k::ks)
theorem zJ0.snoc {ts:List T3}{f:List Int}{k:Pln}{fs:List (List Int)}{ks:List Pln}(h:zJ0 ts fs ks)(x:PlR ts f k):zJ0 ts (fs++[f]) (ks++[k]):=by
 induction h with
 | nil=>exact .cons x .nil
 | cons a _ ih=>exact .cons a ih
theorem zJ0.all {ts:List T3}{fs:List (List Int)}{ks:List Pln}(h:zJ0 ts fs ks):(zAJ ks).Perm fs.flatten/\zCz ks/\zFr ks/\zDP ks<=fs.flatten.length/\ks1 ks/\ks.length=fs.length/\∀k∈ks,∃f∈fs,PlR ts f k:=by
 induction h with
 | nil=>exact⟨.nil,trivial,trivial,zH _,trivial,rfl,fun k hk=>by cases hk⟩
 | cons x _ ih=>
  obtain⟨a,b,c,d,e,g,i⟩:=ih
  refine⟨?_,⟨x.gd,b⟩,⟨x.rs,c⟩,?_,⟨x.k1,e⟩,by rw[zd,zd,g],fun k hk=>?_⟩
  . rw[zAJ,zAc];exact x.pm.append a
  . rw[zDP,zAc,zC]
    have:=x.ht
    omega
  . rcases zT.mp hk with rfl | hk
    . exact⟨_,zY,x⟩
    . obtain⟨f,h1,h2⟩:=i k hk
      exact⟨f,zR _ h1,h2⟩
theorem zEK {fs:List (List Int)}(h:∀f∈fs,f≠[]):fs.length<=fs.flatten.length:=by
 induction fs with
 | nil=>exact zH _
 | cons f fs ih=>
  have:=ih fun g hg=>h g (zR _ hg)
  have:0<f.length:=zBW.mpr (h f zY)
  rw[zd,zAc,zC]
  omega
theorem PlR.build {ts:List T3}{xs ow so le:List Int}{fs:List (List Int)}{ks:List Pln}(pm:(ow++le).Perm xs)(nd:xs.Nodup)(ps:so.Perm ow)(st:so.Pairwise (· <= ·))(ne:ow≠[])(pf:fs.flatten.Perm le)(ok:zCZ ts le fs)(R:zJ0 ts fs ks)(h64:xs.length<64):PlR ts xs (.mk so ks):=by
 obtain⟨a,b,c,d,e,g,i⟩:=R.all
 have pl:(zAJ ks).Perm le:=a.trans pf
 have pmA:(so++zAJ ks).Perm xs:=(ps.append pl).trans pm
 have ndA:(zAL (.mk so ks)).Nodup:=by rw[zAL];exact pmA.nodup_iff.mpr nd
 have ndA':=ndA
 rw[zAL] at ndA'
 have ll:ow.length+le.length=xs.length:=by rw[<-zC];exact pm.length_eq
 have ol:0<ow.length:=zBW.mpr ne
 have fl:=zEK ok.ne
 have fl':=pf.length_eq
 refine⟨by rw[zAL];exact pmA,⟨fun z=>ne (List.perm_nil.mp (z ▸ ps.symm)),b⟩,⟨?_,c⟩,by rw[hgt];omega,?_,⟨by omega,e⟩⟩
 . exact (st.and (zAP.mp ndA').1).imp fun h=>by
    have:=h.1
    have:=h.2
    omega
 . intro x y l A hx hy
   rw[zAL] at hx hy
   have kid:∀z,z∈so++zAJ ks->z∉so->∃k∈ks,z∈zAL k:=fun z hz nz=>zDf ((zK.mp hz).resolve_left nz)
   have up:∀u v,u∈so->v∈so++zAJ ks->∃r,chO v (.mk so ks)=some r/\u∈r:=fun u v hu hv=>by
    by_cases cv:v∈so
    . exact⟨so,zJl cv,hu⟩
    . obtain⟨k,hk,hvk⟩:=kid v hv cv
      obtain⟨r,hr⟩:=zFA hvk
      exact⟨so++r,by rw[zDM ndA hk hvk,hr];rfl,zK.mpr (.inl hu)⟩
   by_cases cx:x∈so
   . exact .inl (up x y cx hy)
   . by_cases cy:y∈so
     . exact .inr (up y x cy hx)
     . obtain⟨k,hk,hxk⟩:=kid x hx cx
       obtain⟨f,hf,Rf⟩:=i k hk
       have hyl:y∈le:=pl.mem_iff.mp ((zK.mp hy).resolve_left cy)
       have hyk:y∈zAL k:=Rf.pm.mem_iff.mpr (ok.cl f hf x (Rf.pm.mem_iff.mp hxk) y l A hyl)
       have dn:∀u v,v∈zAL k->(∃r,chO v k=some r/\u∈r)->∃r,chO v (.mk so ks)=some r/\u∈r:=fun u v hv ⟨r,hr,hu⟩=>⟨so++r,by rw[zDM ndA hk hv,hr];rfl,zK.mpr (.inr hu)⟩
       exact (Rf.tie x y l A hxk hyk).imp (dn x y hyk) (dn y x hxk)
theorem zCZ.join {ts:List T3}{xs f g:List Int}{fs:List (List Int)}(h:zCZ ts xs (f::g::fs)):zCZ ts xs ((f++g)::fs):=by
 refine⟨fun a ha=>?_,fun a ha x hx y l A hy=>?_⟩
 . rcases zT.mp ha with rfl | ha
   . exact fun z=>h.ne f zY (List.append_eq_nil_iff.mp z).1
   . exact h.ne a (zR _ (zR _ ha))
 . rcases zT.mp ha with rfl | ha
   . rcases zK.mp hx with hx | hx
     . exact zK.mpr (.inl (h.cl f zY x hx y l A hy))
     . exact zK.mpr (.inr (h.cl g (zR _ zY) x hx y l A hy))
   . exact h.cl a (zR _ (zR _ ha)) x hx y l A hy
theorem zCZ.rev {ts:List T3}{xs:List Int}{fs:List (List Int)}(h:zCZ ts xs fs):zCZ ts xs fs.reverse:=⟨fun f hf=>h.ne f (List.mem_reverse.mp hf),fun f hf=>h.cl f (List.mem_reverse.mp hf)⟩
theorem zG0 (fs:List (List Int)):fs.reverse.flatten.Perm fs.flatten:=(List.reverse_perm fs).flatten
theorem zFi {H:Hp}{t a:Addr}{N:Nat}{ns:List Int}(T:zAN H t N)(h:H a=some (.lst (ns.map V.int))):a≠t:=fun z=>by
 obtain⟨p,ms,sp,re,e,_⟩:=T
 rw[z,e] at h
 cases ns with
 | nil=>cases h
 | cons x l=>cases h
theorem zIQ {H:Hp}{t a:Addr}{N:Nat}{rs:List Addr}(T:zAN H t N)(h:H a=some (.lst (rs.map V.ref))):a≠t:=fun z=>by
 obtain⟨p,ms,sp,re,e,_⟩:=T
 rw[z,e] at h
 cases rs with
 | nil=>cases h
 | cons x l=>cases l with
  | nil=>cases h
  | cons y l=>cases h
theorem zBq {H:Hp}{t b:Addr}{N:Nat}{ys:List V}(T:zAN H t N)(h:H b=some (.tup ys)):b≠t:=by
 obtain⟨p,ns,sp,re,e1,_⟩:=T
 exact zB1 h e1 (by intro z;cases z)
theorem zCY.sm {H H':Hp}{t:Addr}{N:Nat}{rs:List Addr}{R:List (List Int)}(h:zCY H rs R)(T:zAN H t N)(k:Sm t H H'):zCY H' rs R:=⟨h.1,fun i r row a b=>k _ _ (zFi T (h.2 i r row a b)) (h.2 i r row a b)⟩
theorem zDI.sm {H H':Hp}{sl t:Addr}{N:Nat}{R:List (List Int)}(h:zDI H sl R)(T:zAN H t N)(k:Sm t H H'):zDI H' sl R:=by
 obtain⟨rs,a,b⟩:=h
 exact⟨rs,k _ _ (zIQ T a) a,b.sm T k⟩
theorem pl_sm {H H':Hp}{t:Addr}{N:Nat}(T:zAN H t N)(k:Sm t H H'){p:Pln}{v:V}(S:zAy H v (plD p)):zAy H' v (plD p):=zC0 (fun b ys e=>k _ _ (zBq T e) e) p S
theorem zHM {H H':Hp}{t:Addr}{N:Nat}(T:zAN H t N)(k:Sm t H H'){ks:List Pln}{zs:List V}(S:zAT H zs (zDO ks)):zAT H' zs (zDO ks):=zBT (fun b ys e=>k _ _ (zBq T e) e) ks S
theorem zHG {H:Hp}:∀{zs:List V}{ds:List PyData}{z:V}{d:PyData},zAT H zs ds->zAy H z d->zAT H (zs++[z]) (ds++[d]):=by
 intro zs
 induction zs with
 | nil=>intro ds z d h s;cases h;exact .cons s .nil
 | cons y ys ih=>
  intro ds z d h s
  cases h with
  | cons a b=>exact .cons a (ih b s)
theorem zCE.ne2 {H:Hp}{t p b:Addr}{N:Nat}(h:zCE H t p N)(hb:H b=none):b≠t/\b≠p:=by
 obtain⟨ns,spot,rest,h1,h2,_⟩:=h
 exact⟨(zl h1 hb).symm,(zl h2 hb).symm⟩
theorem zHw {t b:Addr}{H H':Hp}(s:Sm t H H')(n:b≠t)(h:H' b=none):H b=none:=by
 cases e:H b with
 | none=>rfl
 | some o=>rw[s _ _ n e] at h;cases h
noncomputable def spRpl (m:Nat):Sp:=fun vs H Q _=>∃(t tp bl la:Addr)(n:Int)(ts:List T3)(N:Nat)(xs:List Int),vs=[.ref t,.ref bl,.ref la]/\zCE H t tp N/\N+4*xs.length<900000/\zDI H bl (zGl ts n)/\GW n ts/\H la=some (.lst (xs.map V.int))/\xs.Nodup/\(∀x∈xs,0<=x/\x<n)/\1<=xs.length/\xs.length<=m/\xs.length<64 /\
 ∀(v:V)(p:Pln)(H':Hp),Sm t H H'->zCE H' t tp (N+4*xs.length)->zAy H' v (plD p)->PlR ts xs p->Q v H'
structure RpI (H0 H:Hp)(t tp pl:Addr)(N:Nat)(fs:List (List Int)):Prop where
 sm:Sm t H0 H
 tape:zCE H t tp N
 fr:H0 pl=none
 nt:pl≠t
 np:pl≠tp
 at':∃as:List Addr,H pl=some (.lst (as.map V.ref))/\pl∉as/\zCY H as fs
noncomputable def tRp:TS:=fun D σ H=>∃(H0:Hp)(ts:List T3)(xs:List Int)(t tp bl la lf ow:Addr)(N:Nat)(v5:Option V)(pl:Addr)(fs:List (List Int)),σ=[some (.ref t),some (.ref bl),some (.ref la),some (.ref lf),some (.ref ow),v5,some (.ref pl)]/\RpI H0 H t tp pl N fs/\N<950000/\xs.length<64/\fs.flatten.Perm xs/\zCZ ts xs fs /\
 ∀(pl:Addr)(fs:List (List Int))(H':Hp),RpI H0 H' t tp pl (N+1) fs->fs.flatten.Perm xs->zCZ ts xs fs->D.nx [some (.ref t),some (.ref bl),some (.ref la),some (.ref lf),some (.ref ow),v5,some (.ref pl)] H'
end K40
namespace K40
open PySem L2 WM
theorem zKH {H:Hp}{as:List Addr}{fs:List (List Int)}(h:zCY H as fs):zCY H as.reverse fs.reverse:=by
 refine⟨by rw[List.length_reverse,List.length_reverse,h.1],fun i r row e1 e2=>?_⟩
 have hi:i<as.length:=by have:=(zL.mp e1).1;rwa [List.length_reverse] at this
 rw[List.getElem?_reverse hi] at e1
 rw[List.getElem?_reverse (by rw[<-h.1];exact hi),<-h.1] at e2
 exact h.2 _ r row e1 e2
section
variable {P:Program}{w:World}{K:PySem.W.Frag}{mg:Str->Option Value}{base:Heap}
theorem zGi:zAH ["_law_tape_here", "_law_beside_each", "_law_places", "_law_left", "_law_own", "_law_turn", "_law_parts_here"] ["_law_tape_here", "_law_beside_each", "_law_places"] (defScope sRpl):=⟨rfl,rfl,rfl,by decide +kernel,rfl,by decide +kernel,by decide +kernel⟩
theorem zK5 {f fD fP:Addr}{fd' fdD fdP:FuncData}(F:Fun K "_law_right_plan" "_law_right_plan" sRpl f fd') (bF:zAA K fd' ["_law_tape_here", "_law_beside_each", "_law_places"] []) (mF:mg "_law_right_plan" = some (.ref f)) (FD:Fun K "_law_draw" "_law_draw" zFH fD fdD) (bD:zAA K fdD ["_law_tape_here", "_law_many"] []) (mD:mg "_law_draw" = some (.ref fD))
 (FP:Fun K "_law_parts" "_law_parts" sPar fP fdP) (bP:zAA K fdP ["_law_beside_each", "_law_places"] []) (mP:mg "_law_parts" = some (.ref fP)) (mLen:mg "len" = none) (mRange:mg "range" = none) (mTuple:mg "tuple" = none) (mList:mg "list" = none) (mSorted:mg "sorted" = none) (mMin:mg "min" = none):∀m:Nat,zAi P w K mg base CX0 (m+2) f fd' ["_law_tape_here", "_law_beside_each", "_law_places"] (spRpl m)
 | 0=>F.ok zGi (fun vs H Q E h=>by obtain⟨t,tp,bl,la,n,ts,N,xs,rfl,_⟩:=h;rfl) (fun cdv A outer s H vs Q E hr h=>by
  obtain⟨t,tp,bl,la,n,ts,N,xs,rfl,_,_,_,_,_,_,_,h1,h0,_⟩:=h
  omega)
 | m+1=>by
  have GR:=zK5 F bF mF FD bD mD FP bP mP mLen mRange mTuple mList mSorted mMin m
  have GD:zAi P w K mg base CX0 (m+2) fD fdD ["_law_tape_here", "_law_many"] zGd:=(zFQ FD mLen).mono (by omega)
  have GP:zAi P w K mg base CX0 (m+2) fP fdP ["_law_beside_each", "_law_places"] spPar:=(ok_par FP mSorted mLen).mono (by omega)
  refine F.ok zGi (fun vs H Q E h=>?_) (fun cdv A outer s H vs Q E hr h=>?_)
  . obtain⟨t,tp,bl,la,n,ts,N,xs,rfl,_⟩:=h
    rfl
  . obtain⟨t,tp,bl,la,n,ts,N,xs,rfl,TP,hN,SB,G,hla,nd,rng,h1,hm,h64,k⟩:=h
    refine⟨_,zV (zAW (i:=3) zGi.nd rfl (Or.inl rfl) (zAu zCf (by rfl) mList (by decide +kernel) (zG (pv 2) zO)))
     (zV (zAW (i:=4) zGi.nd rfl (Or.inl rfl) (zCN zO))
     (zV (zCc PassesOwn.never rfl (zBJ rfl mRange (zG (zBD zCe ze (zp GD hr rfl mD FD.kp bD .nil zAX (zG (pv 0) (zG (zAD (zGT rfl) (by rfl) mMin (by decide +kernel) (zG ze (zG (zAD zAQ (by rfl) mLen PySem.boot_len (zG (pv 2) zO)) zO))) zO)))) zO)) (zAI (i:=5) zGi.nd rfl (Or.inl rfl))
      (zm (zCS (zF0 PySem.F.plainAttrs_list PySem.F.slot_list_append PySem.F.type_list_append zCU (pv 4)
       (zG (zF0 PySem.F.plainAttrs_list PySem.F.slot_list_pop PySem.F.type_list_pop zKV (pv 3)
        (zG (zp GD hr rfl mD FD.kp bD .nil zAX (zG (pv 0) (zG (zAD zAQ (by rfl) mLen PySem.boot_len (zG (pv 3) zO)) zO))) zO)) zO)))))
     (zV (zAW (i:=6) zGi.nd rfl (Or.inl rfl) (zp GP hr rfl mP FP.kp bP .nil zAX (zG (pv 1) (zG (pv 3) zO))))
     (zV (zGn (u':=tRp) (zBr (PW.pt (zDG (zAG zFN (zAD zAQ (by rfl) mLen PySem.boot_len (zG (pv 6) zO)) ze (zAZ _)) (zCg (zAG zDC (zp GD hr rfl mD FD.kp bD .nil zAX (zG (pv 0) (zCd zO))) ze (zAZ _)))))
      (zm (zAW (i:=6) zGi.nd rfl (Or.inl rfl) (zBD zF3 (zCN (zG (zBD zF3 (zAC zAx (pv 6) ze (fun _ _=>rfl)) (zAC zAx (pv 6) ze (fun _ _=>rfl))) zO)) (zCP zGf (pv 6) (zCp ze) zCq)))) zAh) ?i1)
     (zV (zGn (u':=tRp) (zBr (zAG zDC (zp GD hr rfl mD FD.kp bD .nil zAX (zG (pv 0) (zCd zO))) ze (zAZ _))
      (zm (zCS (pe_bm0 PySem.F.plainAttrs_list PySem.F.slot_list_reverse PySem.F.type_list_reverse zHx (pv 6)))) zAh) ?i2)
     (zm (zAK (zBk (zG (zAu zAe (by rfl) mTuple (by decide +kernel) (zG (zAD zCL (by rfl) mSorted (by decide +kernel) (zG (pv 4) zO)) zO))
      (zG (zAu zAe (by rfl) mTuple (by decide +kernel) (zG (zBK (own:=["_law_part"]) (cn:=["_law_tape_here", "_law_beside_each"]) (ci:=[0,1]) rfl (csc rfl rfl) ⟨rfl,rfl,rfl,rfl,rfl,rfl,trivial⟩ rfl (zC1 (pv 6)) (fun _ _ _ _=>zAI (i:=0) (zCK rfl) rfl (Or.inl rfl)) (fun _ _ _ _=>zBv)
       (fun _ _ _ _=>zp GR hr rfl mF F.kp bF .nil zAX (zG (pv 1) (zG (pv 2) (zG (pv 0) zO))))) zO)) zO)))))))))),?_⟩
    case i1=>
     rintro D σ H1 ⟨H0,ts,xs,t,tp,bl,la,lf,ow,N,v5,pl,fs,rfl,I,hN,hx,pf,ok,kk⟩
     obtain⟨as,hpl,npl,RF⟩:=I.at'
     have fl:=zEK ok.ne
     have fl':=pf.length_eq
     refine⟨_,rfl,pl,_,rfl,.inl (SqL.of hpl),_,_,rfl,rfl,_,rfl,?_⟩
     rw[zD]
     by_cases c:1<as.length
     . refine ifT (zP (by omega)) ?_
       refine⟨_,rfl,t,tp,N,4,rfl,I.tape,by omega,by decide,by decide,fun r H2 r0 r4 T2 e2=>?_⟩
       have sm2:Sm t H1 H2:=fun b o nb e=>by rw[e2 b nb];exact e
       have RF2:=RF.sm ⟨tp,I.tape⟩ sm2
       have hpl2:=sm2 _ _ I.nt hpl
       have I2:RpI H0 H2 t tp pl (N+1) fs:=⟨I.sm.trans sm2,T2,I.fr,I.nt,I.np,as,hpl2,npl,RF2⟩
       refine⟨rfl,_,rfl,zD9 (fun _=>?_) (fun _=>?_)⟩
       . cases as with
         | nil=>exact absurd c (by simp)
         | cons a0 as=>cases as with
          | nil=>exact absurd c (by simp)
          | cons a1 as=>cases fs with
           | nil=>exact absurd RF.1 (by simp)
           | cons f0 fs=>cases fs with
            | nil=>exact absurd RF.1 (by simp)
            | cons f1 fs=>
            have h0:=RF2.2 0 a0 f0 rfl rfl
            have h1':=RF2.2 1 a1 f1 rfl rfl
            have hxl:f0.length+(f1.length+fs.flatten.length)=xs.length:=by
             rw[zAc,zAc,zC,zC] at fl'
             exact fl'
            refine⟨_,rfl,pl,_,_,.ref a0,rfl,rfl,SqL.of hpl2,(show atI _ ((0:Nat):Int)=_ from zCD rfl),_,rfl,pl,_,_,.ref a1,rfl,rfl,SqL.of hpl2,(show atI _ ((1:Nat):Int)=_ from zCD rfl),a0,a1,_,_,rfl,rfl,h0,h1',by rw[zD,zD];exact zAl (zo (by omega)),fun a2 ha2=>?_⟩
            refine⟨by show 1<=sizeLine;decide,fun a3 ha3=>?_⟩
            have s3:=(zI (o:=.lst (f0.map V.int++f1.map V.int)) ha2).trans (zI (o:=.lst [.ref a2]) ha3)
            refine⟨_,rfl,_,rfl,pl,_,rfl,SqL.of (s3 _ _ hpl2),fun a4 ha4=>?_⟩
            rw[show zEl ((a0::a1::as).map V.ref) (some 2) none=((a0::a1::as).map V.ref).drop 2 from zDi _ 2]
            have s4:=s3.trans (zI (o:=.lst (((a0::a1::as).map V.ref).drop 2)) ha4)
            have l1:=RF.1
            rw[zd,zd,zd,zd] at l1
            rw[zd,zd] at fl
            refine⟨a3,a4,_,_,rfl,rfl,zI ha4 _ _ zJ,zJ,by show [V.ref a2].length+(as.map V.ref).length<=_;rw[zD,List.length_singleton];exact zAl (zo (by omega)),fun a5 ha5=>?_⟩
            have s5:=s4.trans (zI (o:=.lst ([.ref a2]++as.map V.ref)) ha5)
            have n2:H2 a2=none:=ha2
            have n5:H2 a5=none:=zA0.none s4 ha5
            have h2':(upd (upd (upd (upd H2 a2 (.lst (f0.map V.int++f1.map V.int))) a3 (.lst [.ref a2])) a4 (.lst (((a0::a1::as).map V.ref).drop 2))) a5 (.lst ([.ref a2]++as.map V.ref))) a2=some (.lst ((f0++f1).map V.int)):=by
             rw[zX]
             exact zI ha5 _ _ (zI ha4 _ _ (zI ha3 _ _ zJ))
            have n52:a5≠a2:=fun z=>by
             have h2'':(upd (upd (upd H2 a2 (.lst (f0.map V.int++f1.map V.int))) a3 (.lst [.ref a2])) a4 (.lst (((a0::a1::as).map V.ref).drop 2))) a2=some (.lst (f0.map V.int++f1.map V.int)):=zI ha4 _ _ (zI ha3 _ _ zJ)
             rw[z,h2''] at ha5;cases ha5
            have hr5:=RF2.same s5
            refine kk a5 ((f0++f1)::fs) _ ⟨I2.sm.trans (Sm.of s5),T2.keepF (fun o e=>s5 _ _ e) (fun o e=>s5 _ _ e) (zH _),zHw I2.sm (zAN.ne ⟨tp,T2⟩ n5) n5,zAN.ne ⟨tp,T2⟩ n5,(zCE.ne2 T2 n5).2,a2::as,zJ,fun z=>?_,⟨?_,fun i r row e1 e2=>?_⟩⟩ ?_ ok.join
            . rcases zT.mp z with z | z
              . exact n52 z
              . obtain⟨i,hi,e⟩:=zx z
                have hif:i<fs.length:=by omega
                have:=RF2.2 (i+2) a5 fs[i] (by rw[List.getElem?_cons_succ,List.getElem?_cons_succ,zE hi,e]) (by rw[List.getElem?_cons_succ,List.getElem?_cons_succ,zE hif])
                rw[n5] at this;cases this
            . rw[zd,zd];omega
            . cases i with
              | zero=>cases e1;cases e2;exact h2'
              | succ i=>exact hr5.2 (i+2) r row (by simpa using e1) (by simpa using e2)
            . rw[zAc,zAd]
              rw[zAc,zAc] at pf
              exact pf
       . exact kk pl fs H2 I2 pf ok
     . refine ifF (zZ (by omega)) (zCm ?_)
       exact kk pl fs H1 ⟨I.sm,I.tape.keepF (fun o e=>e) (fun o e=>e) (by omega),I.fr,I.nt,I.np,I.at'⟩ pf ok
    case i2=>
     rintro D σ H1 ⟨H0,ts,xs,t,tp,bl,la,lf,ow,N,v5,pl,fs,rfl,I,hN,hx,pf,ok,kk⟩
     obtain⟨as,hpl,npl,RF⟩:=I.at'
     refine⟨_,rfl,t,tp,N,2,rfl,I.tape,by omega,by decide,by decide,fun r H2 r0 r4 T2 e2=>?_⟩
     have sm2:Sm t H1 H2:=fun b o nb e=>by rw[e2 b nb];exact e
     have RF2:=RF.sm ⟨tp,I.tape⟩ sm2
     have hpl2:=sm2 _ _ I.nt hpl
     refine⟨rfl,_,rfl,zD9 (fun _=>?_) (fun _=>?_)⟩
     . refine⟨_,rfl,.inl ⟨rfl,_,SqL.of hpl2⟩,pl,_,rfl,rfl,hpl2,?_⟩
       rw[<-List.map_reverse]
       exact kk pl fs.reverse _ ⟨(I.sm.trans sm2).chg I.fr,T2.keepF (fun o e=>by rw[zb I.nt.symm];exact e) (fun o e=>by rw[zb I.np.symm];exact e) (zH _),I.fr,I.nt,I.np,as.reverse,zJ,fun z=>npl (List.mem_reverse.mp z),(zKH RF2).off fun z=>npl (List.mem_reverse.mp z)⟩ ((zG0 fs).trans pf) ok.rev
     . exact kk pl fs H2 ⟨I.sm.trans sm2,T2,I.fr,I.nt,I.np,as,hpl2,npl,RF2⟩ pf ok
    obtain⟨ns0,sp0,re0,ht0,hp0,_⟩:=id TP
    have TA:zAN H t N:=⟨tp,TP⟩
    refine⟨_,rfl,la,_,rfl,.inl (SqL.of hla),fun lf hlf=>?_⟩
    have nlt:lf≠t:=(zl ht0 hlf).symm
    have nlp:lf≠tp:=(zl hp0 hlf).symm
    refine⟨zi _,fun D hD=>?_⟩
    have nDl:D≠lf:=fun z=>by rw[z,zJ] at hD;cases hD
    have hD0:H D=none:=by rw[zb nDl] at hD;exact hD
    have nDt:D≠t:=(zl ht0 hD0).symm
    have nDp:D≠tp:=(zl hp0 hD0).symm
    have s1:zA0 H (upd (upd H lf (.lst (xs.map V.int))) D (.lst [])):=(zI hlf).trans (zI hD)
    have hlf1:(upd (upd H lf (.lst (xs.map V.int))) D (.lst [])) lf=some (.lst (xs.map V.int)):=by rw[zb nDl.symm,zJ]
    have hD1:(upd (upd H lf (.lst (xs.map V.int))) D (.lst [])) D=some (.lst (([]:List Int).map V.int)):=zJ
    have T1:zCE (upd (upd H lf (.lst (xs.map V.int))) D (.lst [])) t tp N:=TP.keepF (fun o e=>s1 _ _ e) (fun o e=>s1 _ _ e) (zH _)
    generalize upd (upd H lf (.lst (xs.map V.int))) D (.lst [])=H1 at s1 hlf1 hD1 T1 ⊢
    refine⟨_,rfl,_,rfl,la,_,rfl,.inl (SqL.of (s1 _ _ hla)),3,_,rfl,?_⟩
    rw[zD]
    obtain⟨mn,emn⟩:∃mn:Int,(if (xs.length:Int)<3 then (xs.length:Int) else 3)=mn:=⟨_,rfl⟩
    rw[emn]
    have hmn:1<=mn/\mn<=3/\mn<=xs.length:=by
     rw[<-emn]
     split <;> omega
    refine⟨t,tp,N,mn,rfl,T1,by omega,by omega,by omega,fun r H2 r0 r1 T2 e2=>?_⟩
    have sm2:Sm t H H2:=fun b o nb e=>by rw[e2 b nb];exact s1 _ _ e
    have hlf2:H2 lf=some (.lst (xs.map V.int)):=by rw[e2 lf nlt];exact hlf1
    have hD2:H2 D=some (.lst (([]:List Int).map V.int)):=by rw[e2 D nDt];exact hD1
    clear hlf1 hD1 T1 s1
    refine⟨_,_,rfl,rfl,1+r,rfl,by omega,by omega,zCl (lo:=0) (n:=(1+r).toNat) (fun q σ H3=>∃(v5:Option V)(ow left:List Int),σ=[some (.ref t),some (.ref bl),some (.ref la),some (.ref lf),some (.ref D),v5,none]/\ow.length=q/\(ow++left).Perm xs/\H3 lf=some (.lst (left.map V.int))/\H3 D=some (.lst (ow.map V.int))/\zCE H3 t tp (N+1+q)/\Sm t H H3)
     ⟨none,[],xs,rfl,rfl,List.Perm.refl _,hlf2,hD2,T2,sm2⟩ ?turn ?after⟩
    case turn=>
     rintro q σ H3 hq ⟨v5,ow,left,rfl,hl,hp,hlf3,hD3,TP3,s3⟩
     have hll:ow.length+left.length=xs.length:=by
      have:=hp.length_eq
      rw[zC] at this
      exact this
     refine⟨_,rfl,.inl ⟨rfl,_,SqL.of hD3⟩,_,rfl,.inl ⟨rfl,_,SqL.of hlf3⟩,?_⟩
     refine⟨_,rfl,_,rfl,lf,_,rfl,.inl (SqL.of hlf3),t,tp,N+1+q,_,rfl,TP3,by omega,by rw[zD];omega,by rw[zD];omega,fun rr H4 h0 h1 TP4 e4=>?_⟩
     rw[zD] at h1
     have hlt:rr.toNat<left.length:=by omega
     refine⟨lf,left.map V.int,rr,rr.toNat,.int left[rr.toNat],rfl,rfl,by rw[e4 lf nlt];exact hlf3,by omega,by omega,PySem.StrLaws.seqIndex_nonneg h0 (by rw[zD];omega),by rw[zQ,zE hlt];rfl,?_⟩
     rw[zGI left rr.toNat]
     have s4:Sm t H H4:=fun b o nb e=>by rw[e4 b nb];exact s3 b o nb e
     refine⟨D,_,_,rfl,rfl,by rw[zb nDl,e4 D nDt];exact hD3,by rw[zD];exact zo (by omega),?_⟩
     refine⟨_,ow++[left[rr.toNat]],left.eraseIdx rr.toNat,rfl,by rw[zC,hl];rfl,?_,by rw[zb nDl.symm,zJ],by rw[zX];exact zJ,TP4.keepF (fun o e=>by rw[zb nDt.symm,zb nlt.symm];exact e) (fun o e=>by rw[zb nDp.symm,zb nlp.symm];exact e) (by omega),(s4.chg hlf).chg hD0⟩
     refine List.Perm.trans ?_ hp
     rw[zAd]
     exact (zE9 hlt).append_left ow
    case after=>
     rintro σ H3 ⟨v5,ow,left,rfl,hl,hp,hlf3,hD3,TP3,s3⟩
     have hll:ow.length+left.length=xs.length:=by
      have:=hp.length_eq
      rw[zC] at this
      exact this
     have ndp:=hp.nodup_iff.mpr nd
     obtain⟨ndo,ndl,_⟩:=zAP.mp ndp
     have ol:1<=ow.length:=by omega
     have TA3:zAN H3 t _:=⟨tp,TP3⟩
     have SB3:=SB.sm TA s3
     refine⟨_,rfl,_,rfl,bl,lf,n,ts,left,rfl,SB3,G,hlf3,ndl,fun x hx=>rng x (hp.mem_iff.mp (zK.mpr (.inr hx))),by omega,fun pl fs H4 hpl s4 ⟨as,hpl4,RF⟩ pf ok=>?_⟩
     have nplt:pl≠t:=zAN.ne TA3 hpl
     have nplas:pl∉as:=fun z=>by
      obtain⟨i,hi,e⟩:=zx z
      have hif:i<fs.length:=by rw[<-RF.1];exact hi
      have h:=RF.2 i pl fs[i] (by rw[zE hi,e]) (zE hif)
      rw[hpl4] at h
      have hne:=ok.ne _ (zBH hif)
      cases as with
      | nil=>cases z
      | cons u v=>generalize fs[i]=g at h hne;cases g with
       | nil=>exact hne rfl
       | cons x l=>cases h
     have I4:RpI H3 H4 t tp pl (N+1+(1+r).toNat) fs:=⟨Sm.of s4,TP3.keepF (fun o e=>s4 _ _ e) (fun o e=>s4 _ _ e) (zH _),hpl,nplt,(zCE.ne2 TP3 hpl).2,as,hpl4,nplas,RF⟩
     refine⟨H3,ts,left,t,tp,bl,la,lf,D,_,v5,pl,fs,rfl,I4,by omega,by omega,pf,ok,fun pl fs H5 I5 pf ok=>?_⟩
     refine⟨H3,ts,left,t,tp,bl,la,lf,D,_,v5,pl,fs,rfl,I5,by omega,by omega,pf,ok,fun pl fs H6 I6 pf ok=>?_⟩
     clear I4 I5 hpl4 nplas RF s4 hpl nplt
     obtain⟨as,hpl6,npl,RF⟩:=I6.at'
     have hD6:=I6.sm _ _ nDt hD3
     have SB6:=SB3.sm TA3 I6.sm
     refine⟨_,rfl,D,ow,rfl,SqL.of hD6,by omega,fun so ms hso pms sos=>?_⟩
     have s7:=zI (o:=.lst (ms.map V.int)) hso
     refine⟨so,_,rfl,.inl ⟨SqL.of zJ,fun b hb=>?_⟩⟩
     have s8:=s7.trans (zI (o:=.tup (ms.map V.int)) hb)
     have hb8:(upd (upd H6 so (.lst (ms.map V.int))) b (.tup (ms.map V.int))) b=some (.tup (ms.map V.int)):=zJ
     generalize upd (upd H6 so (.lst (ms.map V.int))) b (.tup (ms.map V.int))=H8 at s8 hb8 ⊢
     have T8:zCE H8 t tp (N+1+(1+r).toNat+1+1):=I6.tape.keepF (fun o e=>s8 _ _ e) (fun o e=>s8 _ _ e) (zH _)
     have SB8:=SB6.same s8
     have RF8:=RF.same s8
     have hpl8:=s8 _ _ hpl6
     have fl:=zEK ok.ne
     have fl':=pf.length_eq
     have sm08:Sm t H H8:=(s3.trans I6.sm).trans (Sm.of s8)
     refine⟨_,rfl,pl,rfl,⟨_,SqL.of hpl8⟩,[.ref t,.ref bl],rfl,fun D2 hD2=>?_⟩
     have nD2t:D2≠t:=zAN.ne ⟨tp,T8⟩ hD2
     have nD2p:D2≠tp:=(zCE.ne2 T8 hD2).2
     have sD:=zI (o:=.lst []) hD2
     refine zCX (a:=pl) (xs:=as.map V.ref) (fun i ys H9=>∃ks:List Pln,zJ0 ts (fs.take i) ks/\zAT H9 ys (zDO ks)/\Sm t H8 H9/\zCE H9 t tp (N+1+(1+r).toNat+1+1+4*(fs.take i).flatten.length)/\H9 D2=some (.lst ys)/\i<=fs.length)
      ⟨[],by rw[zBp];exact .nil,.nil,Sm.of sD,T8.keepF (fun o e=>sD _ _ e) (fun o e=>sD _ _ e) (by omega),zJ,zi _⟩ (fun i ys H9 z=>?_) (fun i ys H9 z=>?_) (fun i x ys H9 hx z=>?_) (fun ys H9 z=>?_)
     . obtain⟨_,_,_,sm9,_⟩:=z
       exact SqL.of (sm9 _ _ I6.nt hpl8)
     . obtain⟨ks,R,S9,_,_,_,hi⟩:=z
       have:=(R.all).2.2.2.2.2.1
       rw[zBj S9,zBz,this,zt]
       exact zo (by omega)
     . obtain⟨ks,R,S9,sm9,T9,hD9,hi⟩:=z
       obtain⟨a,ha,rfl⟩:∃a,as[i]? = some a/\V.ref a=x:=by
        rw[zQ] at hx
        cases e:as[i]? with
        | none=>rw[e] at hx;cases hx
        | some a=>rw[e] at hx;exact⟨a,rfl,zf hx⟩
       have hif:i<fs.length:=by rw[<-RF.1];exact (zL.mp ha).1
       have ef:fs[i]? = some fs[i]:=zE hif
       have hfm:fs[i]∈fs:=zBH hif
       have hrow:=RF8.2 i a _ ha ef
       generalize fs[i]=g at ef hfm hrow
       have etk:fs.take (i+1)=fs.take i++[g]:=by rw[zAF,ef];rfl
       have efl:(fs.take (i+1)).flatten.length=(fs.take i).flatten.length+g.length:=by rw[etk,zDy,zC]
       have ele:(fs.take (i+1)).flatten.length<=fs.flatten.length:=by
        have e:=zBf (i+1) fs
        conv=>rhs;rw[<-e]
        rw[List.flatten_append,zC]
        omega
       have gsub:g.Sublist fs.flatten:=List.sublist_flatten_of_mem hfm
       have gnd:g.Nodup:=(pf.nodup_iff.mpr ndl).sublist gsub
       have TA8:zAN H8 t _:=⟨tp,T8⟩
       have TA9:zAN H9 t _:=⟨tp,T9⟩
       refine⟨⟨rfl,rfl⟩,?_⟩
       refine zGc ?_
       refine⟨_,rfl,_,rfl,_,rfl,t,tp,bl,a,n,ts,_,g,rfl,T9,by omega,SB8.sm TA8 sm9,G,sm9 _ _ (zFi TA8 hrow) hrow,gnd,fun x hx=>rng x (hp.mem_iff.mp (zK.mpr (.inr (pf.mem_iff.mp (gsub.subset hx))))),zBW.mpr (ok.ne g hfm),by omega,by omega,fun v p H10 sm10 T10 S10 R10=>?_⟩
       have hD10:=sm10 _ _ nD2t hD9
       have kT:∀b zs,H10 b=some (.tup zs)->upd H10 D2 (.lst (ys++[v])) b=some (.tup zs):=fun b zs e=>by rw[zb (zB1 e hD10 (by intro z;cases z))];exact e
       refine⟨hD10,ks++[p],by rw[etk];exact R.snoc R10,?_,(sm9.trans sm10).chg hD2,T10.keepF (fun o e=>by rw[zb nD2t.symm];exact e) (fun o e=>by rw[zb nD2p.symm];exact e) (by omega),zJ,hif⟩
       rw[zDV]
       exact zHG (zBT kT ks (zHM TA9 sm10 S9)) (zC0 kT p S10)
     . obtain⟨ks,R,S9,sm9,T9,hD9,hi⟩:=z
       rw[zD,RF.1,za (zH _)] at R T9
       refine⟨D2,_,rfl,.inl ⟨SqL.of hD9,fun c hc=>⟨by show 2<=sizeLine;decide,fun e he=>?_⟩⟩⟩
       have s10:=(zI (o:=.tup ys) hc).trans (zI (o:=.tup [.ref b,.ref c]) he)
       have hb10:=s10 _ _ (sm9 _ _ (zBq ⟨tp,T8⟩ hb8) hb8)
       refine k (.ref e) (.mk ms ks) _ ((sm08.trans sm9).trans (Sm.of s10)) (T9.keepF (fun o e=>s10 _ _ e) (fun o e=>s10 _ _ e) (by omega)) ?_ (PlR.build hp nd pms sos (fun z=>by rw[z] at ol;exact absurd ol (by simp)) pf ok R h64)
       rw[plD]
       exact .tup zJ (.cons (.tup hb10 (zCn _)) (.cons (.tup (zI he _ _ zJ) (zBT (fun b zs e=>s10 _ _ e) ks S9)) .nil))
end
end K40
namespace K40
open PySem L2 WM
section
variable {X:Cx}
noncomputable def rCatV:R2:=fun x y H Q=>∃(a b:Addr)(xs ys:List V),x = .ref a/\y = .ref b/\H a=some (.tup xs)/\H b=some (.tup ys)/\xs.length+ys.length<=sizeLine/\∀(p:Addr)(H':Hp),zA0 H H'->H' p=some (.tup (xs++ys))->Q (.ref p) H'
theorem zFP:OpR X (binaryOp .Add) rCatV:=fun pins s σ H x y v u Q I rx ry h=>by
 obtain⟨a,b,xs,ys,rfl,rfl,ha,hb,hz,q⟩:=h
 refine zI2 pins s σ H _ _ v u Q I rx ry ⟨a,b,xs,ys,rfl,rfl,SqT.of ha,SqT.of hb,hz,fun e=>?_,fun _ e=>?_,fun _ _ p hp=>q p _ (zI hp) zJ⟩
 . subst e;exact q b H (zA0.refl _) hb
 . subst e;exact q a H (zA0.refl _) (by rw[zq];exact ha)
noncomputable def rSlV:V->Option Int->Option Int->Hp->VK->Prop:=fun x lo hi H Q=>∃(a:Addr)(xs:List V),x = .ref a/\H a=some (.tup xs)/\∀(p:Addr)(H':Hp),zA0 H H'->H' p=some (.tup (zEl xs lo hi))->Q (.ref p) H'
theorem zDp:SlR X rSlV:=fun pins s σ H x v vl vu lo hi sl Q I rx hs pl pu h=>by
 obtain⟨a,xs,rfl,ha,q⟩:=h
 refine zLd pins s σ H _ v vl vu lo hi sl Q I rx hs pl pu ⟨a,xs,rfl,SqT.of ha,fun e=>?_,fun _ p hp=>q p _ (zI hp) zJ⟩
 refine q a H (zA0.refl _) ?_
 have:zEl xs lo hi=xs:=by
  unfold zEl
  rw[e.1,e.2,List.drop_zero,Nat.sub_zero,za (zH _)]
 rw[this]
 exact ha
end
structure PlT (h m:Nat)(p:Pln):Prop where
 ht:hgt p<=h
 ln:(zAL p).length<=m
 gd:zIA p
 nn:∀x∈zAL p,0<=x
mutual
theorem zJT:∀(p:Pln),zIA p->(zAL p).length<=1000->zCy p/\1<=(zAL p).length
 | .mk ps ks,g,hl=>by
  rw[zIA] at g
  rw[zAL,zC] at hl
  have h1:=zDd ks g.2 (by omega)
  have h2:0<ps.length:=zBW.mpr g.1
  exact⟨⟨by omega,h1.1⟩,by rw[zAL,zC];omega⟩
theorem zDd:∀(ks:List Pln),zCz ks->(zAJ ks).length<=1000->ks1 ks/\ks.length<=(zAJ ks).length
 | [],_,_=>⟨trivial,zH _⟩
 | k::ks,g,hl=>by
  rw[zCz] at g
  rw[zAJ,zC] at hl
  have a:=zJT k g.1 (by omega)
  have b:=zDd ks g.2 (by omega)
  refine⟨⟨a.1,b.1⟩,?_⟩
  rw[zAJ,zC,zd]
  omega
end
theorem PlT.kid {h m:Nat}{ps:List Int}{ks:List Pln}{k:Pln}(g:PlT h m (.mk ps ks))(hk:k∈ks):PlT (h-1) (zAL k).length k:=by
 obtain⟨a,b,c,d⟩:=g
 rw[hgt] at a
 rw[zIA] at c
 rw[zAL] at d
 have:=zCH hk
 exact⟨by omega,zH _,zEY c.2 hk,fun x hx=>d x (zK.mpr (.inr (zBl hx hk)))⟩
theorem PlT.g {h m:Nat}{p:Pln}(g:PlT h m p)(hm:m<64):PlG p:=⟨g.gd,g.nn,zAo g.ln hm,(zJT p g.gd (by have:=g.ln;omega)).1⟩
noncomputable def zKr (kvs:List (Key×V)):Prop:=∀(x:Int)(v:V),zCQ kvs (Sum.inl x)=some v->∃y:Int,v = .int y/\0<=y
noncomputable def spCal (h:Nat):Sp:=fun vs H Q _=>∃(v:V)(d:Addr)(p:Pln)(kvs:List (Key×V))(m:Nat),vs=[v,.ref d]/\zAy H v (plD p)/\PlT h m p/\m<64/\H d=some (.dK kvs)/\zKr kvs/\∀(v':V)(p':Pln)(H':Hp),zA0 H H'->zAy H' v' (plD p')->PlT h m p'->(zAL p').length=(zAL p).length->hgt p'=hgt p->Q v' H'
noncomputable def nmI (kvs:List (Key×V))(x:Int):Int:=match zCQ kvs (Sum.inl x) with
 | some (.int y)=>y
 | _=>x
theorem zK9 {kvs:List (Key×V)}(ok:zKr kvs)(x:Int):(zCQ kvs (Sum.inl x)).getD (.int x) = .int (nmI kvs x)/\(0<=x->0<=nmI kvs x):=by
 unfold nmI
 cases e:zCQ kvs (Sum.inl x) with
 | none=>exact⟨rfl,id⟩
 | some v=>
  obtain⟨y,rfl,hy⟩:=ok x v e
  exact⟨rfl,fun _=>hy⟩
section
variable {P:Program}{w:World}{K:PySem.W.Frag}{mg:Str->Option Value}{base:Heap}
theorem zLg:zAH ["_law_plan", "_law_names", "_law_places"] ["_law_plan", "_law_names"] (defScope sCal):=⟨rfl,rfl,rfl,by decide +kernel,rfl,by decide +kernel,by decide +kernel⟩
theorem zK7 {f:Addr}{fd':FuncData}(F:Fun K "_law_called" "_law_called" sCal f fd') (bF:zAA K fd' ["_law_plan", "_law_names"] []) (mF:mg "_law_called" = some (.ref f)) (mTuple:mg "tuple" = none) (mSorted:mg "sorted" = none):∀h:Nat,zAi P w K mg base CX0 (h+1) f fd' ["_law_plan", "_law_names"] (spCal h)
 | 0=>F.ok zLg (fun vs H Q E h=>by obtain⟨v,d,p,kvs,m,rfl,_⟩:=h;rfl) (fun cdv A outer s H vs Q E hr h=>by
  obtain⟨v,d,⟨ps,ks⟩,kvs,m,rfl,_,g,_⟩:=h
  have:=g.ht
  rw[hgt] at this
  omega)
 | h+1=>by
  have GC:=zK7 F bF mF mTuple mSorted h
  refine F.ok zLg (fun vs H Q E h=>?_) (fun cdv A outer s H vs Q E hr h=>?_)
  . obtain⟨v,d,p,kvs,m,rfl,_⟩:=h
    rfl
  . obtain⟨v,d,⟨ps,ks⟩,kvs,m,rfl,S,g,hm,hd,ok,k⟩:=h
    have hu:=zGz hr
    obtain⟨a,b,c,zs,rfl,ha,hb,hc,al⟩:=zDU S
    have hzl:=zBj al
    rw[zBz] at hzl
    have gl:=g.ln
    rw[zAL,zC] at gl
    have gg:=g.gd
    rw[zIA] at gg
    have gk:=zDd ks gg.2 (by omega)
    refine⟨_,zV (zAW (i:=2) zLg.nd rfl (Or.inl rfl) (zAu zAe (by rfl) mTuple (by decide +kernel) (zG (zAD zCL (by rfl) mSorted (by decide +kernel) (zG (zBK (own:=["_law_one"]) (cn:=["_law_names"]) (ci:=[1]) rfl (csc rfl rfl) ⟨rfl,rfl,rfl,trivial⟩ rfl (zCM (zAC zAE (pv 0) ze (fun _ _=>rfl))) (fun _ _ _ _=>zAI (i:=0) (zCK rfl) rfl (Or.inl rfl)) (fun _ _ _ _=>zBv)
     (fun _ _ _ _=>zHP hu (pv 1) (pv 0) (pv 0) ⟨rfl,rfl,rfl,rfl⟩)) zO)) zO)))
     (zm (zAK (zBk (zG (pv 2) (zG (zAu zAe (by rfl) mTuple (by decide +kernel) (zG (zBK (own:=["_law_one"]) (cn:=["_law_names"]) (ci:=[1]) rfl (csc rfl rfl) ⟨rfl,rfl,rfl,trivial⟩ rfl (zCM (zAC zAE (pv 0) ze (fun _ _=>rfl))) (fun _ _ _ _=>zAI (i:=0) (zCK rfl) rfl (Or.inl rfl)) (fun _ _ _ _=>zBv)
      (fun _ _ _ _=>zp GC hr rfl mF F.kp bF .nil zAX (zG (pv 0) (zG (pv 1) zO)))) zO)) zO))))),?_⟩
    refine⟨_,rfl,a,_,_,.ref b,rfl,rfl,SqT.of ha,rfl,b,rfl,⟨_,SqT.of hb⟩,[.ref d],rfl,fun D hD=>?_⟩
    refine zCI (a:=b) (xs:=ps.map V.int) (fun i ys H4=>ys=((ps.take i).map (nmI kvs)).map V.int/\H4=upd H D (.lst ys)) ⟨rfl,rfl⟩ (fun i ys H4 z=>?_) (fun i ys H4 z=>?_) (fun i v ys H4 hv z=>?_) (fun ys H4 z=>?_)
    . obtain⟨_,rfl⟩:=z
      exact SqT.of (by rw[zb (zl hb hD)];exact hb)
    . obtain⟨rfl,_⟩:=z
      rw[zD,zD,zt]
      exact zo (by omega)
    . obtain⟨rfl,rfl⟩:=z
      obtain⟨y,hy,rfl⟩:∃y,ps[i]? = some y/\V.int y=v:=by
       rw[zQ] at hv
       cases e:ps[i]? with
       | none=>rw[e] at hv;cases hv
       | some y=>rw[e] at hv;exact⟨y,rfl,zf hv⟩
      have hd4:(upd H D (.lst (((ps.take i).map (nmI kvs)).map V.int))) d=some (.dK kvs):=by rw[zb (zl hd hD)];exact hd
      refine⟨⟨rfl,rfl⟩,?_⟩
      refine zGc ?_
      refine⟨_,rfl,d,rfl,.inl ⟨kvs,.inl hd4⟩,_,rfl,_,rfl,_,zG9.k (k:=Sum.inl y) hd4,?_⟩
      rw[(zK9 ok y).1]
      refine⟨zJ,?_,zB8⟩
      rw[zAF,hy,zX,zX];rfl
    . obtain⟨rfl,rfl⟩:=z
      rw[zD,za (zH _)]
      have s1:=zI (o:=.lst ((ps.map (nmI kvs)).map V.int)) hD
      refine⟨D,ps.map (nmI kvs),rfl,SqL.of zJ,by rw[zD];omega,fun so ms hso pms sos=>?_⟩
      refine⟨so,_,rfl,.inl ⟨SqL.of zJ,fun q hq=>?_⟩⟩
      have s2:=(s1.trans (zI (o:=.lst (ms.map V.int)) hso)).trans (zI (o:=.tup (ms.map V.int)) hq)
      have hq2:(upd (upd (upd H D (.lst ((ps.map (nmI kvs)).map V.int))) so (.lst (ms.map V.int))) q (.tup (ms.map V.int))) q=some (.tup (ms.map V.int)):=zJ
      generalize upd (upd (upd H D (.lst ((ps.map (nmI kvs)).map V.int))) so (.lst (ms.map V.int))) q (.tup (ms.map V.int))=H2 at s2 hq2 ⊢
      have ml:ms.length=ps.length:=by rw[pms.length_eq,zD]
      have mnn:∀x∈ms,0<=x:=fun x hx=>by
       obtain⟨y,hy,rfl⟩:=zAM.mp (pms.mem_iff.mp hx)
       exact (zK9 ok y).2 (g.nn y (by rw[zAL];exact zK.mpr (.inl hy)))
      refine⟨_,rfl,_,rfl,a,_,_,.ref c,rfl,rfl,SqT.of (s2 _ _ ha),rfl,c,rfl,⟨_,SqT.of (s2 _ _ hc)⟩,[.ref d],rfl,fun D2 hD2=>?_⟩
      refine zCI (a:=c) (xs:=zs) (fun i ys H4=>∃js:List Pln,js.length=i/\zAT H4 ys (zDO js)/\zA0 H2 H4/\H4 D2=some (.lst ys)/\i<=ks.length/\zCz js/\(∀x∈zAJ js,0<=x)/\(zAJ js).length=(zAJ (ks.take i)).length/\zDP js=zDP (ks.take i))
       ⟨[],rfl,.nil,zI hD2,zJ,zi _,trivial,(fun x hx=>by rw[zAJ] at hx;cases hx),by rw[zBp],by rw[zBp]⟩ (fun i ys H4 z=>?_) (fun i ys H4 z=>?_) (fun i v ys H4 hv z=>?_) (fun ys H4 z=>?_)
      . obtain⟨_,_,_,s4,_⟩:=z
        exact SqT.of (s4 _ _ (s2 _ _ hc))
      . obtain⟨js,hj,S4,_,_,hi,_⟩:=z
        rw[zBj S4,zBz,hj]
        exact zo (by omega)
      . obtain⟨js,hj,S4,s4,h4,hi,gj,nj,lj,tj⟩:=z
        obtain⟨kd,hk,Sk⟩:=zDS al hv
        have hkm:=zW hk
        have s24:=s2.trans s4
        have gkid:=g.kid hkm
        have etk:ks.take (i+1)=ks.take i++[kd]:=by rw[zAF,hk];rfl
        refine⟨⟨rfl,rfl⟩,?_⟩
        refine zGc ?_
        refine⟨_,rfl,_,rfl,v,d,kd,kvs,(zAL kd).length,rfl,zAY s24 Sk,gkid,by have:=zBx hkm;omega,s24 _ _ hd,ok,fun v' p' H5 s5 S5 g5 l5 t5=>?_⟩
        have h5:=s5 _ _ h4
        have kT:∀b zs,H5 b=some (.tup zs)->upd H5 D2 (.lst (ys++[v'])) b=some (.tup zs):=fun b zs e=>by rw[zb (zB1 e h5 (by intro z;cases z))];exact e
        refine⟨h5,js++[p'],by rw[zC,hj];rfl,?_,zAz (s4.trans s5) hD2,zJ,(zL.mp hk).1,?_,fun x hx=>?_,?_,?_⟩
        . rw[zDV]
          exact zHG (zBT kT js (zBT (fun b zs e=>s5 _ _ e) js S4)) (zC0 kT p' S5)
        . exact zDe gj ⟨g5.gd,trivial⟩
        . rw[zBy,zK] at hx
          rcases hx with hx | hx
          . exact nj x hx
          . rw[zAJ,zAJ,zq] at hx
            exact g5.nn x hx
        . rw[etk,zBy,zBy,zC,zC,lj]
          show _+(zAL p'++zAJ []).length=_+(zAL kd++zAJ []).length
          rw[zC,zC,l5]
        . rw[etk,zDA,zDA,tj]
          show max _ (max (hgt p') (zDP []))=max _ (max (hgt kd) (zDP []))
          rw[t5]
      . obtain⟨js,hj,S4,s4,h4,hi,gj,nj,lj,tj⟩:=z
        rw[hzl,za (zH _)] at lj tj
        refine⟨D2,_,rfl,.inl ⟨SqL.of h4,fun c2 hc2=>⟨by show 2<=sizeLine;decide,fun e he=>?_⟩⟩⟩
        have s5:=(zI (o:=.tup ys) hc2).trans (zI (o:=.tup [.ref q,.ref c2]) he)
        have el:(zAL (.mk ms js)).length=(zAL (.mk ps ks)).length:=by rw[zAL,zAL,zC,zC,ml,lj]
        have eh:hgt (.mk ms js)=hgt (.mk ps ks):=by rw[hgt,hgt,tj]
        refine k (.ref e) (.mk ms js) _ ((s2.trans s4).trans s5) ?_ ⟨by rw[eh];exact g.ht,by rw[el];exact g.ln,⟨fun z=>gg.1 (zA3.mp (by rw[<-ml,z];rfl)),gj⟩,fun x hx=>?_⟩ el eh
        . rw[plD]
          exact .tup zJ (.cons (.tup (s5 _ _ (s4 _ _ hq2)) (zCn _)) (.cons (.tup (zI he _ _ zJ) (zBT (fun b zs e=>s5 _ _ e) js S4)) .nil))
        . rw[zAL,zK] at hx
          exact hx.elim (mnn x) (nj x)
end
end K40
namespace K40
open PySem L2 WM
noncomputable def spPtu (h:Nat):Sp:=fun vs H Q _=>∃(t tp:Addr)(v:V)(p:Pln)(n:Int)(N m:Nat),vs=[.ref t,v,.int n]/\zCE H t tp N/\N+5*(h+1)<900000/\1<=n/\n<=24/\zAy H v (plD p)/\PlT h m p/\m<64 /\
 ∀(v':V)(p':Pln)(H':Hp),Sm t H H'->zCE H' t tp (N+5*(h+1))->zAy H' v' (plD p')->PlT (hgt p+1) (2*(zAL p).length) p'->Q v' H'
theorem dic2 {a b:Int}(ha:0<=a)(hb:0<=b):zKr (zCj [] [((Sum.inl a:Key),V.int b),((Sum.inl b:Key),V.int a)]):=fun x v h=>by
 show ∃y:Int,v = .int y/\0<=y
 have e:zCj [] [((Sum.inl a:Key),V.int b),((Sum.inl b:Key),V.int a)]=zDH (zDH [] (Sum.inl a) (V.int b)) (Sum.inl b) (V.int a):=rfl
 rw[e,zDR,zDR] at h
 split at h
 . cases h;exact⟨a,rfl,ha⟩
 . split at h
   . cases h;exact⟨b,rfl,hb⟩
   . cases h
theorem dic1 {a b:Int}(hb:0<=b):zKr (zCj [] [((Sum.inl a:Key),V.int b)]):=fun x v h=>by
 have e:zCj [] [((Sum.inl a:Key),V.int b)]=zDH [] (Sum.inl a) (V.int b):=rfl
 rw[e,zDR] at h
 split at h
 . cases h;exact⟨b,rfl,hb⟩
 . cases h
theorem zDT {H:Hp}:∀{zs:List V}{ks:List Pln}(i:Nat),zAT H zs (zDO ks)->zAT H (zs.take i) (zDO (ks.take i))/\zAT H (zs.drop i) (zDO (ks.drop i))
 | zs,ks,0,S=>by rw[zBp,zBp,List.drop_zero,List.drop_zero];exact⟨.nil,S⟩
 | [],[],i+1,_=>⟨.nil,.nil⟩
 | [],k::ks,_+1,S=>by cases S
 | z::zs,[],_+1,S=>by cases S
 | z::zs,k::ks,i+1,S=>by
  rw[zDO] at S
  cases S with
  | cons a b=>
   obtain⟨h1,h2⟩:=zDT i b
   exact⟨.cons a h1,h2⟩
theorem zId {H:Hp}:∀{zs:List V}{ds:List PyData}{ys:List V}{es:List PyData},zAT H zs ds->zAT H ys es->zAT H (zs++ys) (ds++es):=by
 intro zs
 induction zs with
 | nil=>intro ds ys es h s;cases h;exact s
 | cons y ys' ih=>
  intro ds ys es h s
  cases h with
  | cons a b=>exact .cons a (ih b s)
theorem zCk:∀{ks:List Pln}(i:Nat),zCz ks->zCz (ks.take i)/\zCz (ks.drop i)
 | ks,0,g=>by rw[zBp,List.drop_zero];exact⟨trivial,g⟩
 | [],i+1,_=>⟨trivial,trivial⟩
 | k::ks,i+1,g=>by
  rw[zCz] at g
  obtain⟨a,b⟩:=zCk i g.2
  exact⟨⟨g.1,a⟩,b⟩
theorem zC6 (ks:List Pln)(i:Nat):zAJ ks=zAJ (ks.take i)++zAJ (ks.drop i):=by rw[<-zBy,zBf]
theorem zFU (ks:List Pln)(i:Nat):zDP ks=max (zDP (ks.take i)) (zDP (ks.drop i)):=by rw[<-zDA,zBf]
theorem zGq {H:Hp}{e b c:Addr}{ps:List Int}{ks:List Pln}{zs:List V}(he:H e=some (.tup [.ref b,.ref c]))(hb:H b=some (.tup (ps.map V.int)))(hc:H c=some (.tup zs))(al:zAT H zs (zDO ks)):zAy H (.ref e) (plD (.mk ps ks)):=by
 rw[plD]
 exact .tup he (.cons (.tup hb (zCn _)) (.cons (.tup hc al) .nil))
structure TuI (h:Nat)(H:Hp)(t tp a b c:Addr)(n:Int)(N m:Nat)(ps:List Int)(ks:List Pln)(zs:List V):Prop where
 tape:zCE H t tp N
 hN:N+1+5*(h+1)<900000
 ha:H a=some (.tup [.ref b,.ref c])
 hb:H b=some (.tup (ps.map V.int))
 hc:H c=some (.tup zs)
 al:zAT H zs (zDO ks)
 g:PlT (h+1) m (.mk ps ks)
 hm:m<64
 n1:1<=n
 n24:n<=24
theorem TuI.nums {h:Nat}{H:Hp}{t tp a b c:Addr}{n:Int}{N m:Nat}{ps:List Int}{ks:List Pln}{zs:List V}(I:TuI h H t tp a b c n N m ps ks zs):zs.length=ks.length/\ps.length+(zAJ ks).length<=m/\ks.length<=(zAJ ks).length/\0<ps.length/\zDP ks<=h/\ps≠[]/\zCz ks/\(∀x∈ps,0<=x)/\∀x∈zAJ ks,0<=x:=by
 have hzl:=zBj I.al
 rw[zBz] at hzl
 have gl:=I.g.ln
 have gg:=I.g.gd
 have gn:=I.g.nn
 have gh:=I.g.ht
 rw[zAL,zC] at gl
 rw[zAL] at gn
 rw[hgt] at gh
 rw[zIA] at gg
 have hm:=I.hm
 have gk:=zDd ks gg.2 (by omega)
 exact⟨hzl,gl,gk.2,zBW.mpr gg.1,by omega,gg.1,gg.2,fun x hx=>gn x (zK.mpr (.inl hx)),fun x hx=>gn x (zK.mpr (.inr hx))⟩
noncomputable def tTur (h:Nat):TS:=fun D σ H=>∃(t tp a b c:Addr)(n:Int)(N m:Nat)(ps:List Int)(ks:List Pln)(zs:List V)(way:Int)(v4 v5 v6:Option V),σ=[some (.ref t),some (.ref a),some (.int n),some (.int way),v4,v5,v6]/\TuI h H t tp a b c n N m ps ks zs /\
 (∀(v':V)(p':Pln)(H':Hp),Sm t H H'->zCE H' t tp (N+1+5*(h+1))->zAy H' v' (plD p')->PlT (zDP ks+1+1) (2*(ps.length+(zAJ ks).length)) p'->D.rt v' H')/\D.nx σ H
section
variable {P:Program}{w:World}{K:PySem.W.Frag}{mg:Str->Option Value}{base:Heap}
theorem zHr:zAH ["_law_tape_here", "_law_plan", "_law_n_here", "_law_way", "_law_one", "_law_other", "_law_at"] ["_law_tape_here", "_law_plan", "_law_n_here"] (defScope sPtu):=⟨rfl,rfl,rfl,by decide +kernel,rfl,by decide +kernel,by decide +kernel⟩
theorem zK6 {f fD fC:Addr}{fd' fdD fdC:FuncData}(F:Fun K "_law_plan_turned" "_law_plan_turned" sPtu f fd') (bF:zAA K fd' ["_law_tape_here", "_law_plan", "_law_n_here"] []) (mF:mg "_law_plan_turned" = some (.ref f)) (FD:Fun K "_law_draw" "_law_draw" zFH fD fdD) (bD:zAA K fdD ["_law_tape_here", "_law_many"] []) (mD:mg "_law_draw" = some (.ref fD))
 (FC:Fun K "_law_called" "_law_called" sCal fC fdC) (bC:zAA K fdC ["_law_plan", "_law_names"] []) (mC:mg "_law_called" = some (.ref fC)) (mLen:mg "len" = none) (mTuple:mg "tuple" = none) (mSorted:mg "sorted" = none):∀h:Nat,zAi P w K mg base CX0 (h+2) f fd' ["_law_tape_here", "_law_plan", "_law_n_here"] (spPtu h)
 | 0=>F.ok zHr (fun vs H Q E h=>by obtain⟨t,tp,v,p,n,N,m,rfl,_⟩:=h;rfl) (fun cdv A outer s H vs Q E hr h=>by
  obtain⟨t,tp,v,⟨ps,ks⟩,n,N,m,rfl,_,_,_,_,_,g,_⟩:=h
  have:=g.ht
  rw[hgt] at this
  omega)
 | h+1=>by
  have GT:=zK6 F bF mF FD bD mD FC bC mC mLen mTuple mSorted h
  have GD:zAi P w K mg base CX0 (h+2) fD fdD ["_law_tape_here", "_law_many"] zGd:=(zFQ FD mLen).mono (by omega)
  have GC:zAi P w K mg base CX0 (h+2) fC fdC ["_law_plan", "_law_names"] (spCal (h+1)):=zK7 FC bC mC mTuple mSorted (h+1)
  refine F.ok zHr (fun vs H Q E h=>?_) (fun cdv A outer s H vs Q E hr h=>?_)
  . obtain⟨t,tp,v,p,n,N,m,rfl,_⟩:=h
    rfl
  . obtain⟨t,tp,v,⟨ps,ks⟩,n,N,m,rfl,TP,hN,n1,n24,S,g,hm,k⟩:=h
    obtain⟨a,b,c,zs,rfl,ha,hb,hc,al⟩:=zDU S
    have hzl:=zBj al
    rw[zBz] at hzl
    have gl:=g.ln
    have gg:=g.gd
    have gn:=g.nn
    have gh:=g.ht
    rw[zAL,zC] at gl
    rw[zAL] at gn
    rw[hgt] at gh
    rw[zIA] at gg
    have gk:=zDd ks gg.2 (by omega)
    have pl1:0<ps.length:=zBW.mpr gg.1
    rw[hgt,zAL,zC] at k
    refine⟨_,zV (zAW (i:=3) zHr.nd rfl (Or.inl rfl) (zp GD hr rfl mD FD.kp bD .nil zAX (zG (pv 0) (zCd zO))))
     (zV (zAW (i:=4) zHr.nd rfl (Or.inl rfl) (zp GD hr rfl mD FD.kp bD .nil zAX (zG (pv 0) (zG (pv 2) zO))))
     (zV (zAW (i:=5) zHr.nd rfl (Or.inl rfl) (zp GD hr rfl mD FD.kp bD .nil zAX (zG (pv 0) (zG (pv 2) zO))))
     (zV (zBr (zAG zIz (pv 3) ze (zAZ _)) (zm (zAK (zp GC hr rfl mC FC.kp bC .nil zAX (zG (pv 1) (zG (zGs (zD7 (pv 4) (pv 5) (zD7 (pv 5) (pv 4) zGp)) rfl rfl (by decide) (by decide)) zO))))) zAh)
     (zV (zBr (zAG zDC (pv 3) ze (zAZ _)) (zm (zAK (zp GC hr rfl mC FC.kp bC .nil zAX (zG (pv 1) (zG (zGs (zD7 (pv 4) (zAC zAx (zCN (zG (pv 2) (zG (zBD zCe (pv 2) ze) (zG (pv 5) zO)))) (zp GD hr rfl mD FD.kp bD .nil zAX (zG (pv 0) (zCd zO))) (fun _ _=>rfl)) zGp) rfl rfl (by decide) (by decide)) zO))))) zAh)
     (zV (zGn (u':=tTur h) (zBr (PW.pt (zDG (zAG zDC (pv 3) ze (zAZ _)) (zCg (zAG zFN (zAD zAQ (by rfl) mLen PySem.boot_len (zG (zAC zAE (pv 1) ze (fun _ _=>rfl)) zO)) ze (zAZ _)))))
      (zV (zAW (i:=6) zHr.nd rfl (Or.inl rfl) (zp GD hr rfl mD FD.kp bD .nil zAX (zG (pv 0) (zG (zAD zAQ (by rfl) mLen PySem.boot_len (zG (zAC zAE (pv 1) ze (fun _ _=>rfl)) zO)) zO))))
      (zm (zAK (zBk (zG (zAC zAE (pv 1) ze (fun _ _=>rfl)) (zG (zBD zFP (zBD zFP (zCP zDp (zAC zAE (pv 1) ze (fun _ _=>rfl)) zCq (zCp (pv 6))) (zBk (zG (zp GT hr rfl mF F.kp bF .nil zAX (zG (pv 0) (zG (zAC zAE (zAC zAE (pv 1) ze (fun _ _=>rfl)) (pv 6) (fun _ _=>rfl)) (zG (pv 2) zO)))) zO))) (zCP zDp (zAC zAE (pv 1) ze (fun _ _=>rfl)) (zCp (zBD zCe (pv 6) ze)) zCq)) zO)))))) zAh) ?w4)
     (zV (zGn (u':=tTur h) (zBr (PW.pt (zDG (zAG zDC (pv 3) ze (zAZ _)) (zCg (zAG zFN (zAD zAQ (by rfl) mLen PySem.boot_len (zG (zAC zAE (pv 1) ze (fun _ _=>rfl)) zO)) ze (zAZ _)))))
      (zm (zAK (zBk (zG (zAC zAE (pv 1) ze (fun _ _=>rfl)) (zG (zCP zDp (zAC zAE (pv 1) ze (fun _ _=>rfl)) (zCp ze) zCq) zO))))) zAh) ?w5)
     (zV (zGn (u':=tTur h) (zBr (PW.pt (zDG (zAG zDC (pv 3) ze (zAZ _)) (zCg (zAG zFN (zAD zAQ (by rfl) mLen PySem.boot_len (zG (zAC zAE (pv 1) ze (fun _ _=>rfl)) zO)) ze (zAZ _)))))
      (zm (zAK (zBk (zG (zCP zDp (zAC zAE (pv 1) ze (fun _ _=>rfl)) (zCp ze) zCq) (zG (zBD zFP (zBk (zG (zBk (zG (zCP zDp (zAC zAE (pv 1) ze (fun _ _=>rfl)) zCq (zCp ze)) (zG (zBk zO) zO))) zO)) (zAC zAE (pv 1) ze (fun _ _=>rfl))) zO))))) zAh) ?w6)
     (zV (zGn (u':=tTur h) (zBr (PW.pt (zDG (zAG zDC (pv 3) ze (zAZ _)) (zCg (zAG zFN (zAD zAQ (by rfl) mLen PySem.boot_len (zG (zAC zAE (pv 1) ze (fun _ _=>rfl)) zO)) ze (zAZ _)))))
      (zm (zAK (zBk (zG (zAC zAE (pv 1) ze (fun _ _=>rfl)) (zG (zBD zFP (zAC zAE (pv 1) ze (fun _ _=>rfl)) (zCP zDp (zAC zAE (pv 1) ze (fun _ _=>rfl)) zCq (zCp ze))) zO))))) zAh) ?w7)
     (zm (zAK (zBk (zG (zAC zAE (pv 1) ze (fun _ _=>rfl)) (zG (zBk (zG (zBk (zG (zAC zAE (pv 1) ze (fun _ _=>rfl)) (zG (zAC zAE (pv 1) ze (fun _ _=>rfl)) zO))) zO)) zO))))))))))))),?_⟩
    case w4=>
     rintro D σ H1 ⟨t,tp,a,b,c,n,N,m,ps,ks,zs,way,v4,v5,v6,rfl,I,ret,nx⟩
     obtain⟨hzl,gl,gk,pl1,gh,gne,gg,gp,gf⟩:=I.nums
     have hm:=I.hm
     have hN:=I.hN
     refine⟨_,rfl,rfl,_,rfl,zD9 (fun _=>?_) (fun _=>zCm nx)⟩
     refine⟨_,rfl,a,_,_,.ref c,rfl,rfl,SqT.of I.ha,rfl,c,_,rfl,.inr (SqT.of I.hc),_,_,rfl,rfl,_,rfl,zD9 (fun cl=>?_) (fun _=>nx)⟩
     have cl:=of_decide_eq_true cl
     refine⟨_,rfl,_,rfl,a,_,_,.ref c,rfl,rfl,SqT.of I.ha,rfl,c,_,rfl,.inr (SqT.of I.hc),t,tp,N,_,rfl,I.tape,by omega,by omega,by omega,fun r H2 r0 r1 T2 e2=>?_⟩
     have s2:Sm t H1 H2:=fun z o nb e=>by rw[e2 z nb];exact e
     have TA:zAN H1 t N:=⟨tp,I.tape⟩
     have TA2:zAN H2 t _:=⟨tp,T2⟩
     have ha2:=s2 _ _ (zBq TA I.ha) I.ha
     have hb2:=s2 _ _ (zBq TA I.hb) I.hb
     have hc2:=s2 _ _ (zBq TA I.hc) I.hc
     have al2:=zHM TA s2 I.al
     obtain⟨j,rfl⟩:∃j:Nat,r=j:=⟨r.toNat,by omega⟩
     have hj:j<zs.length:=by omega
     have ez:zs[j]? = some zs[j]:=zE hj
     obtain⟨kd,hk,Sk⟩:=zDS al2 ez
     have hkm:=zW hk
     have gkid:=I.g.kid hkm
     have kl:=zBx hkm
     refine⟨_,rfl,a,_,_,.ref b,rfl,rfl,SqT.of ha2,rfl,_,rfl,a,_,_,.ref c,rfl,rfl,SqT.of ha2,rfl,_,rfl,_,rfl,c,_,rfl,hc2,fun p1 H3 s3 h3=>?_⟩
     rw[zDh] at h3
     have TA3:zAN H3 t _:=TA2.keep s3
     refine⟨_,rfl,_,rfl,a,_,_,.ref c,rfl,rfl,SqT.of (s3 _ _ ha2),rfl,_,rfl,c,_,_,zs[j],rfl,rfl,SqT.of (s3 _ _ hc2),zCD ez,_,rfl,t,tp,zs[j],kd,n,N+1,(zAL kd).length,rfl,T2.keepF (fun o e=>s3 _ _ e) (fun o e=>s3 _ _ e) (zH _),by omega,I.n1,I.n24,zC0 (fun z ys e=>s3 _ _ e) kd Sk,gkid,by omega,fun v' p' H4 s4 T4 S4 g4=>?_⟩
     refine⟨by show 1<=sizeLine;decide,fun p2 hp2=>?_⟩
     have s5:=zI (o:=.tup [v']) hp2
     have sm35:Sm t H3 (upd H4 p2 (.tup [v'])):=s4.trans (Sm.of s5)
     have h5:=sm35 _ _ (zBq TA3 h3) h3
     refine⟨p1,p2,_,_,rfl,rfl,h5,zJ,by rw[zt];exact zAl (zo (by show min _ _+1<=_;omega)),fun p3 H6 s6 h6=>?_⟩
     have smH26:Sm t H2 H6:=((Sm.of s3).trans sm35).trans (Sm.of s6)
     have ha6:=smH26 _ _ (zBq TA2 ha2) ha2
     have hb6:=smH26 _ _ (zBq TA2 hb2) hb2
     have hc6:=smH26 _ _ (zBq TA2 hc2) hc2
     have al6:=zHM TA2 smH26 al2
     refine⟨_,rfl,a,_,_,.ref c,rfl,rfl,SqT.of ha6,rfl,_,rfl,_,_,rfl,rfl,((j+1:Nat):Int),rfl,c,_,rfl,hc6,fun p4 H7 s7 h7=>?_⟩
     rw[zDi] at h7
     refine⟨p3,p4,_,_,rfl,rfl,s7 _ _ h6,h7,by rw[zC,zt,List.length_drop];exact zAl (zo (by show min _ _+1+_<=_;omega)),fun p5 H8 s8 h8=>⟨by show 2<=sizeLine;decide,fun p6 hp6=>?_⟩⟩
     have s9:=(s7.trans s8).trans (zI (o:=.tup [.ref b,.ref p5]) hp6)
     have T9:zCE (upd H8 p6 (.tup [.ref b,.ref p5])) t tp (N+1+5*(h+1)):=T4.keepF (fun o e=>s9 _ _ (s6 _ _ (s5 _ _ e))) (fun o e=>s9 _ _ (s6 _ _ (s5 _ _ e))) (zH _)
     have sA:zA0 H4 (upd H8 p6 (.tup [.ref b,.ref p5])):=(s5.trans s6).trans s9
     have cut:=zDT j al6
     have cut1:=zDT (j+1) al6
     have ed:ks.drop j=kd::ks.drop (j+1):=by
      obtain⟨hjk,e⟩:=zL.mp hk
      rw[List.drop_eq_getElem_cons hjk,e]
     have ef:=zC6 ks j
     have eh:=zFU ks j
     rw[ed,zAJ] at ef
     rw[ed,zDP] at eh
     have gt:=zCk j gg
     have gd:=zCk (j+1) gg
     have el:=congrArg List.length ef
     rw[zC,zC] at el
     have g4l:=g4.ln
     have g4h:=g4.ht
     refine ret (.ref p6) (.mk ps (ks.take j++(p'::ks.drop (j+1)))) _ ((s2.trans smH26).trans (Sm.of s9)) T9 (zGq zJ (s9 _ _ hb6) (zI hp6 _ _ h8) ?_) ⟨?_,?_,?_,?_⟩
     . rw[zDV,zDO]
       rw[zAd]
       exact zId (zBT (fun z ys e=>s9 _ _ e) _ cut.1) (.cons (zC0 (fun z ys e=>sA _ _ e) p' S4) (zBT (fun z ys e=>s9 _ _ e) _ cut1.2))
     . rw[hgt,zDA,zDP];omega
     . rw[zAL,zBy,zAJ,zC,zC,zC];omega
     . exact⟨gne,zDe gt.1 ⟨g4.gd,gd.2⟩⟩
     . intro x hx
       rw[zAL,zBy,zAJ] at hx
       rcases zK.mp hx with hx | hx
       . exact gp x hx
       rcases zK.mp hx with hx | hx
       . exact gf x (by rw[ef];exact zK.mpr (.inl hx))
       rcases zK.mp hx with hx | hx
       . exact g4.nn x hx
       . exact gf x (by rw[ef];exact zK.mpr (.inr (zK.mpr (.inr hx))))
    case w5=>
     rintro D σ H1 ⟨t,tp,a,b,c,n,N,m,ps,ks,zs,way,v4,v5,v6,rfl,I,ret,nx⟩
     obtain⟨hzl,gl,gk,pl1,gh,gne,gg,gp,gf⟩:=I.nums
     refine⟨_,rfl,rfl,_,rfl,zD9 (fun _=>?_) (fun _=>zCm nx)⟩
     refine⟨_,rfl,a,_,_,.ref c,rfl,rfl,SqT.of I.ha,rfl,c,_,rfl,.inr (SqT.of I.hc),_,_,rfl,rfl,_,rfl,zD9 (fun cl=>?_) (fun _=>nx)⟩
     refine⟨_,rfl,a,_,_,.ref b,rfl,rfl,SqT.of I.ha,rfl,_,rfl,a,_,_,.ref c,rfl,rfl,SqT.of I.ha,rfl,_,rfl,c,_,rfl,I.hc,fun p1 H2 s2 h2=>⟨by show 2<=sizeLine;decide,fun p2 hp2=>?_⟩⟩
     rw[show zEl zs (some 1) none=zs.drop 1 from zDi zs 1] at h2
     have s3:=s2.trans (zI (o:=.tup [.ref b,.ref p1]) hp2)
     have ef:=congrArg List.length (zC6 ks 1)
     have eh:=zFU ks 1
     rw[zC] at ef
     refine ret (.ref p2) (.mk ps (ks.drop 1)) _ (Sm.of s3) (I.tape.keepF (fun o e=>s3 _ _ e) (fun o e=>s3 _ _ e) (by omega)) (zGq zJ (s3 _ _ I.hb) (zI hp2 _ _ h2) (zBT (fun z ys e=>s3 _ _ e) _ (zDT 1 I.al).2)) ⟨by rw[hgt];omega,by rw[zAL,zC];omega,⟨gne,(zCk 1 gg).2⟩,fun x hx=>?_⟩
     rw[zAL,zK] at hx
     rcases hx with hx | hx
     . exact gp x hx
     . exact gf x (by rw[zC6 ks 1];exact zK.mpr (.inr hx))
    case w6=>
     rintro D σ H1 ⟨t,tp,a,b,c,n,N,m,ps,ks,zs,way,v4,v5,v6,rfl,I,ret,nx⟩
     obtain⟨hzl,gl,gk,pl1,gh,gne,gg,gp,gf⟩:=I.nums
     have hm:=I.hm
     refine⟨_,rfl,rfl,_,rfl,zD9 (fun _=>?_) (fun _=>zCm nx)⟩
     refine⟨_,rfl,a,_,_,.ref b,rfl,rfl,SqT.of I.ha,rfl,b,_,rfl,.inr (SqT.of I.hb),_,_,rfl,rfl,_,rfl,zD9 (fun cl=>?_) (fun _=>nx)⟩
     have cl:=of_decide_eq_true cl
     rw[zD] at cl
     refine⟨_,rfl,a,_,_,.ref b,rfl,rfl,SqT.of I.ha,rfl,_,rfl,b,_,rfl,I.hb,fun p1 H2 s2 h2=>?_⟩
     rw[show zEl (ps.map V.int) (some 1) none=(ps.map V.int).drop 1 from zDi _ 1,<-List.map_drop] at h2
     refine⟨_,rfl,a,_,_,.ref b,rfl,rfl,SqT.of (s2 _ _ I.ha),rfl,_,rfl,b,_,rfl,s2 _ _ I.hb,fun p3 H3 s3 h3=>?_⟩
     rw[show zEl (ps.map V.int) none (some 1)=(ps.map V.int).take 1 from zDh _ 1,<-List.map_take] at h3
     refine⟨by show 0<=sizeLine;decide,fun p4 hp4=>⟨by show 2<=sizeLine;decide,fun p5 hp5=>⟨by show 1<=sizeLine;decide,fun p6 hp6=>?_⟩⟩⟩
     have s4:=zI (o:=.tup []) hp4
     have s5:=s4.trans (zI (o:=.tup [.ref p3,.ref p4]) hp5)
     have s6:=s5.trans (zI (o:=.tup [.ref p5]) hp6)
     have s16:=(s2.trans s3).trans s6
     refine⟨_,rfl,a,_,_,.ref c,rfl,rfl,SqT.of (s16 _ _ I.ha),rfl,p6,c,_,_,rfl,rfl,zJ,s16 _ _ I.hc,zAl (zo (by show 1+_<=_;omega)),fun p7 H7 s7 h7=>⟨by show 2<=sizeLine;decide,fun p8 hp8=>?_⟩⟩
     have s8:=s7.trans (zI (o:=.tup [.ref p1,.ref p7]) hp8)
     have s18:=s16.trans s8
     have s38:=s6.trans s8
     have et:ps.take 1++ps.drop 1=ps:=zBf 1 ps
     have etl:(ps.take 1).length=1:=by rw[zt];omega
     have edl:(ps.drop 1).length=ps.length-1:=List.length_drop
     refine ret (.ref p8) (.mk (ps.drop 1) (.mk (ps.take 1) []::ks)) _ (Sm.of s18) (I.tape.keepF (fun o e=>s18 _ _ e) (fun o e=>s18 _ _ e) (by omega)) (zGq zJ (s38 _ _ (s3 _ _ h2)) (zI hp8 _ _ h7) ?_) ⟨?_,?_,?_,?_⟩
     . rw[zDO]
       refine .cons (zGq (ks:=[]) (zs:=[]) (s8 _ _ (zI hp6 _ _ zJ)) (s38 _ _ h3) (s8 _ _ (zI hp6 _ _ (zI hp5 _ _ zJ))) .nil) (zBT (fun z ys e=>s18 _ _ e) ks I.al)
     . rw[hgt,zDP,hgt,zDP];omega
     . rw[zAL,zAJ,zAL,zAJ,zq,zC,zC];omega
     . refine⟨fun z=>?_,⟨fun z=>?_,trivial⟩,gg⟩
       . rw[z] at edl;simp at edl;omega
       . rw[z] at etl;simp at etl
     . intro x hx
       rw[zAL,zAJ,zAL,zAJ,zq] at hx
       rcases zK.mp hx with hx | hx
       . exact gp x (List.mem_of_mem_drop hx)
       rcases zK.mp hx with hx | hx
       . exact gp x (List.mem_of_mem_take hx)
       . exact gf x hx
    case w7=>
     rintro D σ H1 ⟨t,tp,a,b,c,n,N,m,ps,ks,zs,way,v4,v5,v6,rfl,I,ret,nx⟩
     obtain⟨hzl,gl,gk,pl1,gh,gne,gg,gp,gf⟩:=I.nums
     have hm:=I.hm
     refine⟨_,rfl,rfl,_,rfl,zD9 (fun _=>?_) (fun _=>zCm nx)⟩
     refine⟨_,rfl,a,_,_,.ref c,rfl,rfl,SqT.of I.ha,rfl,c,_,rfl,.inr (SqT.of I.hc),_,_,rfl,rfl,_,rfl,zD9 (fun cl=>?_) (fun _=>nx)⟩
     refine⟨_,rfl,a,_,_,.ref b,rfl,rfl,SqT.of I.ha,rfl,_,rfl,a,_,_,.ref c,rfl,rfl,SqT.of I.ha,rfl,_,rfl,a,_,_,.ref c,rfl,rfl,SqT.of I.ha,rfl,_,rfl,c,_,rfl,I.hc,fun p1 H2 s2 h2=>?_⟩
     rw[show zEl zs none (some 1)=zs.take 1 from zDh zs 1] at h2
     refine⟨c,p1,_,_,rfl,rfl,s2 _ _ I.hc,h2,by rw[zt];exact zAl (zo (by omega)),fun p2 H3 s3 h3=>⟨by show 2<=sizeLine;decide,fun p3 hp3=>?_⟩⟩
     have s4:=(s2.trans s3).trans (zI (o:=.tup [.ref b,.ref p2]) hp3)
     have ef:=congrArg List.length (zC6 ks 1)
     have eh:=zFU ks 1
     rw[zC] at ef
     refine ret (.ref p3) (.mk ps (ks++ks.take 1)) _ (Sm.of s4) (I.tape.keepF (fun o e=>s4 _ _ e) (fun o e=>s4 _ _ e) (by omega)) (zGq zJ (s4 _ _ I.hb) (zI hp3 _ _ h3) ?_) ⟨by rw[hgt,zDA];omega,by rw[zAL,zBy,zC,zC];omega,⟨gne,zDe gg (zCk 1 gg).1⟩,fun x hx=>?_⟩
     . rw[zDV]
       exact zId (zBT (fun z ys e=>s4 _ _ e) _ I.al) (zBT (fun z ys e=>s4 _ _ e) _ (zDT 1 I.al).1)
     . rw[zAL,zBy] at hx
       rcases zK.mp hx with hx | hx
       . exact gp x hx
       rcases zK.mp hx with hx | hx
       . exact gf x hx
       . exact gf x (by rw[zC6 ks 1];exact zK.mpr (.inl hx))
    refine⟨_,rfl,t,tp,N,8,rfl,TP,by omega,by decide,by decide,fun way H1 w0 w8 T1 e1=>?_⟩
    refine⟨_,rfl,_,rfl,t,tp,N+1,n,rfl,T1,by omega,by omega,by omega,fun one H2 o0 o1 T2 e2=>?_⟩
    refine⟨_,rfl,_,rfl,t,tp,N+1+1,n,rfl,T2,by omega,by omega,by omega,fun oth H3 q0 q1 T3 e3=>?_⟩
    have s3:Sm t H H3:=fun z o nb e=>by rw[e3 z nb,e2 z nb,e1 z nb];exact e
    have TA:zAN H t N:=⟨tp,TP⟩
    have TA3:zAN H3 t _:=⟨tp,T3⟩
    have S3:=pl_sm TA s3 S
    have ha3:=s3 _ _ (zBq TA ha) ha
    have hb3:=s3 _ _ (zBq TA hb) hb
    have hc3:=s3 _ _ (zBq TA hc) hc
    have al3:=zHM TA s3 al
    clear e1 e2 e3 T1 T2
    have sz:∀q:Nat,q<=1000->q<=sizeLine:=fun q hq=>zAl (zo (by omega))
    have fin:∀{v':V}{p':Pln}{H':Hp},zA0 H3 H'->zAy H' v' (plD p')->PlT (zDP ks+1+1) (2*(ps.length+(zAJ ks).length)) p'->Q v' H':=fun s' S' g'=>k _ _ _ (s3.trans (Sm.of s')) (T3.keepF (fun o e=>s' _ _ e) (fun o e=>s' _ _ e) (by omega)) S' g'
    refine⟨_,rfl,_,_,rfl,rfl,_,rfl,zD9 (fun _=>?_) (fun _=>?_)⟩
    . refine⟨_,rfl,fun d hd=>?_⟩
      have sd:=zI (o:=.dK []) hd
      refine⟨_,rfl,_,rfl,_,rfl,_,rfl,zJ,[(Sum.inl one,.int oth),(Sum.inl oth,.int one)],rfl,by show 2<=15;decide,?_⟩
      rw[zB8]
      have sd2:=zI (o:=.dK (zCj [] [((Sum.inl one:Key),V.int oth),((Sum.inl oth:Key),V.int one)])) hd
      refine⟨.ref a,d,.mk ps ks,_,m,rfl,zC0 (fun z ys e=>sd2 _ _ e) _ S3,g,hm,zJ,dic2 o0 q0,fun v' p' H' s' S' g' l' t'=>?_⟩
      refine fin (sd2.trans s') S' ⟨by rw[t',hgt];omega,by rw[l',zAL,zC];omega,g'.gd,g'.nn⟩
    refine⟨_,rfl,rfl,_,rfl,zD9 (fun _=>?_) (fun _=>?_)⟩
    . refine⟨_,rfl,fun d hd=>?_⟩
      have sd:=zI (o:=.dK []) hd
      have ndt:d≠t:=zAN.ne TA3 hd
      refine⟨_,rfl,_,rfl,_,rfl,_,_,rfl,rfl,_,rfl,by show 3<=sizeLine;decide,fun l hl=>?_⟩
      have sl:=sd.trans (zI (o:=.lst [.int n,.int (n+1),.int oth]) hl)
      have T4:zCE (upd (upd H3 d (.dK [])) l (.lst [.int n,.int (n+1),.int oth])) t tp _:=T3.keepF (fun o e=>sl _ _ e) (fun o e=>sl _ _ e) (zH _)
      have nlt:l≠t:=zAN.ne ⟨tp,T3.keepF (fun o e=>sd _ _ e) (fun o e=>sd _ _ e) (zH _)⟩ hl
      have hd4:(upd (upd H3 d (.dK [])) l (.lst [.int n,.int (n+1),.int oth])) d=some (.dK []):=zI hl _ _ zJ
      refine⟨_,rfl,t,tp,_,3,rfl,T4,by omega,by decide,by decide,fun r H5 r0 r3 T5 e5=>?_⟩
      obtain⟨x,hx,ex⟩:=zGw (L:=[n,n+1,oth]) r0 r3
      have x0:0<=x:=by
       rcases zT.mp hx with rfl | hx
       . omega
       rcases zT.mp hx with rfl | hx
       . omega
       rw[zn.mp hx];exact q0
      refine⟨l,_,_,_,rfl,rfl,SqL.of (by rw[e5 _ nlt];exact zJ),ex,?_⟩
      have hd5:H5 d=some (.dK []):=by rw[e5 _ ndt];exact hd4
      refine⟨hd5,[(Sum.inl one,.int x)],rfl,by show 1<=15;decide,?_⟩
      have sm5:Sm t H3 (upd H5 d (.dK (zCj [] [((Sum.inl one:Key),V.int x)]))):=Sm.chg (fun z o nb e=>by rw[e5 z nb];exact sl _ _ e) hd
      have T6:zCE (upd H5 d (.dK (zCj [] [((Sum.inl one:Key),V.int x)]))) t tp _:=T5.keepF (fun o e=>by rw[zb ndt.symm];exact e) (fun o e=>by rw[zb (zCE.ne2 T3 hd).2.symm];exact e) (zH _)
      refine⟨.ref a,d,.mk ps ks,_,m,rfl,pl_sm TA3 sm5 S3,g,hm,zJ,dic1 x0,fun v' p' H' s' S' g' l' t'=>?_⟩
      exact k v' p' H' ((s3.trans sm5).trans (Sm.of s')) (T6.keepF (fun o e=>s' _ _ e) (fun o e=>s' _ _ e) (by omega)) S' ⟨by rw[t',hgt];omega,by rw[l',zAL,zC];omega,g'.gd,g'.nn⟩
    have TI:TuI h H3 t tp a b c n (N+1+1+1) m ps ks zs:=⟨T3,by omega,ha3,hb3,hc3,al3,g,hm,n1,n24⟩
    have ret:∀(v':V)(p':Pln)(H':Hp),Sm t H3 H'->zCE H' t tp (N+1+1+1+1+5*(h+1))->zAy H' v' (plD p')->PlT (zDP ks+1+1) (2*(ps.length+(zAJ ks).length)) p'->Q v' H':=fun v' p' H' s' T' S' g'=>k v' p' H' (s3.trans s') (T'.keepF (fun o e=>e) (fun o e=>e) (by omega)) S' g'
    refine⟨t,tp,a,b,c,n,_,m,ps,ks,zs,way,_,_,_,rfl,TI,ret,?_⟩
    refine⟨t,tp,a,b,c,n,_,m,ps,ks,zs,way,_,_,_,rfl,TI,ret,?_⟩
    refine⟨t,tp,a,b,c,n,_,m,ps,ks,zs,way,_,_,_,rfl,TI,ret,?_⟩
    refine⟨t,tp,a,b,c,n,_,m,ps,ks,zs,way,_,_,_,rfl,TI,ret,?_⟩
    refine⟨_,rfl,a,_,_,.ref b,rfl,rfl,SqT.of ha3,rfl,_,rfl,a,_,_,.ref b,rfl,rfl,SqT.of ha3,rfl,_,rfl,a,_,_,.ref c,rfl,rfl,SqT.of ha3,rfl,by show 2<=sizeLine;decide,fun p1 hp1=>⟨by show 1<=sizeLine;decide,fun p2 hp2=>⟨by show 2<=sizeLine;decide,fun p3 hp3=>?_⟩⟩⟩
    have s1':=zI (o:=.tup [.ref b,.ref c]) hp1
    have s2':=s1'.trans (zI (o:=.tup [.ref p1]) hp2)
    have s3':=s2'.trans (zI (o:=.tup [.ref b,.ref p2]) hp3)
    refine fin (p':=.mk ps [.mk ps ks]) s3' (zGq zJ (s3' _ _ hb3) (zI hp3 _ _ zJ) ?_) ⟨?_,?_,?_,?_⟩
    . rw[zDO,zDO]
      exact .cons (zGq (zI hp3 _ _ (zI hp2 _ _ zJ)) (s3' _ _ hb3) (s3' _ _ hc3) (zBT (fun z ys e=>s3' _ _ e) ks al3)) .nil
    . rw[hgt,zDP,zDP,hgt];omega
    . rw[zAL,zAJ,zAJ,zAL,zq,zC,zC];omega
    . exact⟨gg.1,gg,trivial⟩
    . intro x hx
      rw[zAL,zAJ,zAJ,zAL,zq,zK] at hx
      rcases hx with hx | hx
      . exact gn x (zK.mpr (.inl hx))
      . exact gn x hx
end
end K40
namespace K40
open PySem L2 WM
theorem zMF {l:List Int}(hl:l.length<=100)(hb:∀x∈l,x.natAbs<1000000000):Fn 1048576 50 (.tuple (l.map PyData.int)):=
 (fn_tup (n:=30) (p:=0) (L:=100) (fun d hd=>by
  obtain⟨x,hx,rfl⟩:=zAM.mp hd
  exact fn_int (hb x hx)) (by rw[zD];exact hl)).mono (by decide) (by decide)
section
variable {X:Cx}
theorem zI1:OpR X (compareOp .IsNot) (fun x y H Q=>∃c d,x = .bl c/\y = .bl d/\Q (.bl (c != d)) H):=by
 intro pins s σ H x y v u Q I rx ry h
 obtain⟨c,d,rfl,rfl,q⟩:=h
 cases rx
 cases ry
 exact PyProof.Rows.isnot_bool (zA6 I q rfl)
end
theorem zK1 {H H':Hp}(k:SmT H H'){p:Pln}{v:V}(S:zAy H v (plD p)):zAy H' v (plD p):=zC0 (fun b ys e=>k.get e (by intro ps z;cases z)) p S
noncomputable def spHub (PT:Addr)(h:Nat):Sp:=fun vs H Q _=>∃(wa:Addr)(v:V)(n:Int)(ts:List T3)(p:Pln),vs=[.ref wa,v]/\zB3 H wa n ts/\zAy H v (plD p)/\PlG p/\hgt p<=h/\zIO n ts p/\Tb H PT/\∀H',SmT H H'->Tb H' PT->Q (.bl true) H'
section
variable {P:Program}{w:World}{K:PySem.W.Frag}{mg:Str->Option Value}{base:Heap}{PT:Addr}
theorem zIh:zAH ["_law_web_here", "_law_plan", "_law_order", "_law_labels", "_law_place", "_law_there"] ["_law_web_here", "_law_plan"] (defScope sHub):=⟨rfl,rfl,rfl,by decide +kernel,rfl,by decide +kernel,by decide +kernel⟩
theorem ok_hub {f fO fI fB fC fL fD:Addr}{fd' fdO fdI fdB fdC fdL fdD:FuncData}{h m:Nat}(F:Fun K "_law_hubs_right" "_law_hubs_right" sHub f fd')
 (FO:Fun K "plan_order" "plan_order" sPo fO fdO) (bO:zAA K fdO ["plan"] []) (mO:mg "plan_order" = some (.ref fO)) (GO:zAi P w K mg base CX0 m fO fdO ["plan"] (spPo h))
 (FI:Fun K "is_order" "is_order" sOrd fI fdI) (bI:zAA K fdI ["web", "thing"] []) (mI:mg "is_order" = some (.ref fI)) (GI:zAi P w K mg base CX0 m fI fdI ["web", "thing"] zJ8)
 (FB:Fun K "by_order" "by_order" sByo fB fdB) (bB:zAA K fdB ["web", "order"] []) (mB:mg "by_order" = some (.ref fB)) (GB:zAi P w K mg base CX0 m fB fdB ["web", "order"] (zLa PT))
 (FC:Fun K "chain" "chain" sCh fC fdC) (bC:zAA K fdC ["plan", "place"] []) (mC:mg "chain" = some (.ref fC)) (GC:zAi P w K mg base CX0 m fC fdC ["plan", "place"] (spCh h))
 (FL:Fun K "_law_chain" "_law_chain" sLc fL fdL) (bL:zAA K fdL ["_law_plan", "_law_place"] []) (mL:mg "_law_chain" = some (.ref fL)) (GL:zAi P w K mg base CX0 m fL fdL ["_law_plan", "_law_place"] (spLc h))
 (FD:Fun K "deepest" "deepest" sDe fD fdD) (bD:zAA K fdD ["plan"] []) (mD:mg "deepest" = some (.ref fD)) (GD:zAi P w K mg base CX0 m fD fdD ["plan"] (spDe h))
 (mRange:mg "range" = none) (mRepr:mg "repr" = none) (mLen:mg "len" = none):zAi P w K mg base CX0 (m+1) f fd' ["_law_web_here", "_law_plan"] (spHub PT h):=by
 refine F.ok zIh (fun vs H Q E h=>?_) (fun cdv A outer s H vs Q E hr h=>?_)
 . obtain⟨wa,v,n,ts,p,rfl,_⟩:=h
   rfl
 . obtain⟨wa,v,n,ts,p,rfl,W,S,g,hh,L,T,k⟩:=h
   have hu0:=hr.units0
   obtain⟨ta,tys,hwa,_,_,G⟩:=id W
   have hn1:=G.n1
   have hn24:=G.n24
   have hlen:=g.ln
   refine⟨_,zV (zAW (i:=2) zIh.nd rfl (Or.inl rfl) (zp GO hr rfl mO FO.kp bO .nil zAX (zG (pv 1) zO)))
    (zV (zBr (zAG zI1 (zp GI hr rfl mI FI.kp bI .nil zAX (zG (pv 0) (zG (pv 2) zO))) zEJ (zAZ _)) zDw zAh)
    (zV (zAW (i:=3) zIh.nd rfl (Or.inl rfl) (zp GB hr rfl mB FB.kp bB .nil zAX (zG (pv 0) (zG (pv 2) zO))))
    (zV (zCc PassesOwn.never rfl (zBJ rfl mRange (zG (zAC zAE (pv 0) ze (fun _ _=>rfl)) zO)) (zAI (i:=4) zIh.nd rfl (Or.inl rfl))
     (zV (zAW (i:=5) zIh.nd rfl (Or.inr rfl) (zp GL hr rfl mL FL.kp bL .nil zAX (zG (pv 1) (zG (pv 4) zO))))
     (zV (zBr (PW.pt (zFt (zAG op_ne (zAD (zGR hr) (by rfl) mRepr (by decide +kernel) (zG (zp GC hr rfl mC FC.kp bC .nil zAX (zG (pv 1) (zG (pv 4) zO))) zO)) (zAD (zGR hr) (by rfl) mRepr (by decide +kernel) (zG (pv 5) zO)) (zAZ _))
      (zEz (zAG zFN (zAD zAQ (by rfl) mLen PySem.boot_len (zG (zAC zAE (pv 3) (pv 4) (fun _ _=>rfl)) zO)) (zp GD hr rfl mD FD.kp bD .nil zAX (zG (pv 1) zO)) (zAZ _))))) zDw zAh)
     (zm (zBr (zAG (zIy hu0) (zBK (own:=["_law_entry"]) (cn:=["_law_there"]) (ci:=[5]) rfl (csc rfl rfl) ⟨rfl,rfl,rfl,trivial⟩ rfl (zCM (zAC zAE (pv 3) (pv 4) (fun _ _=>rfl))) (fun _ _ _ _=>zAI (i:=0) (zCK rfl) rfl (Or.inl rfl))
      (fun _ _ _ _=>zCo (zAG zC3 (zAC zCB (pv 0) ze (fun _ _=>rfl)) (pv 1) (by with_unfolding_all rfl))) (fun _ _ _ _=>zAC zCB (pv 0) ze (fun _ _=>rfl))) (zCN zO) (zAZ _)) zDw zAh)))))
    (zm (zAK zEJ))))),?_⟩
   refine⟨_,rfl,v,p,rfl,S,hh,by omega,fun o H1 s1 ho=>?_⟩
   refine⟨_,rfl,_,rfl,wa,o,n,ts,zAL p,rfl,W.keep s1,ho,L.ordr,fun H2 s2=>?_⟩
   refine⟨_,_,rfl,rfl,_,rfl,ifF (by rfl) ?_⟩
   have s02:=s1.trans s2
   refine⟨_,rfl,_,rfl,wa,o,n,ts,zAL p,rfl,W.keep s02,s2 _ _ ho,L.ordr,T.same s02,fun l ess rk H3 sm3 T3 LA RK LO=>?_⟩
   have sm03:SmT H H3:=(SmT.of s02).trans sm3
   have hwa3:H3 wa=some (.tup [.int n,.ref ta]):=sm03.get hwa (by intro ps z;cases z)
   have S3:=zK1 sm03 S
   obtain⟨as,hl3,hal,hA⟩:=id LA
   refine⟨_,rfl,wa,_,_,_,rfl,rfl,SqT.of hwa3,rfl,n,rfl,by omega,by omega,zCl (lo:=0) (n:=n.toNat) (fun q σ H4=>∃v4 v5:Option V,σ=[some (.ref wa),some v,some (.ref o),some (.ref l),v4,v5]/\zA0 H3 H4) ⟨_,_,rfl,zA0.refl _⟩ (fun q σ H4 hq z=>?_) (fun σ H4 z=>?_)⟩
   . obtain⟨v4,v5,rfl,s4⟩:=z
     rw[zBQ]
     have hqf:=L.all (q:Int) (by omega) (by omega)
     obtain⟨r,hr'⟩:=zFA hqf
     obtain⟨rsub,_,rdeep⟩:=zFZ p hr'
     have rnd:r.Nodup:=L.nd.sublist rsub
     have S4:=zAY s4 S3
     refine⟨_,rfl,_,rfl,v,p,(q:Int),r,rfl,S4,hh,hlen,g.k1,hr',fun ms l1 H5 pms sos s5 h5=>?_⟩
     have SO1:=zLc pms sos rnd
     refine⟨_,rfl,_,rfl,v,p,(q:Int),r,rfl,zAY s5 S4,hh,hlen,hr',fun ms2 l2 H6 rise2 mem2 s6 h6=>?_⟩
     have em:ms2=ms:=zGa.uniq ⟨rise2,mem2⟩ SO1
     subst em
     have fI:Fn 1048576 50 (.tuple (ms2.map PyData.int)):=zMF (by rw[pms.length_eq];have:=rsub.length_le;omega) fun x hx=>by
      have:=L.rng x (rsub.subset (pms.mem_iff.mp hx))
      omega
     refine⟨_,_,rfl,.tup h6 (zCn _),fI,_,rfl,_,_,rfl,.tup (s6 _ _ h5) (zCn _),fI,rfl,_,rfl,ifF (by rw[zP rfl];rfl) ?_⟩
     have s46:=s4.trans (s5.trans s6)
     have hq':q<as.length:=by rw[hal,LO.1];exact hq
     have eas:as[q]? = some as[q]:=zE hq'
     obtain⟨es,hes,bs,hb,EA,_⟩:=hA q _ eas
     generalize as[q]=la at eas hb
     have LB:=LO.2 q es hes
     have hubs:∀e∈es,e.h∈r:=fun e he=>by
      have EO:=LB.ent e he
      obtain⟨r',e1,e2⟩:=L.hub G RK (EO.rng).1 (EO.rng).2 (by omega) (by omega) EO.hub
      rw[hr'] at e1
      cases e1
      exact e2
     have hel:es.length<=r.length:=by
      rw[<-zD (f:=fun e:En=>e.h)]
      refine zE2 ?_ fun x hx=>?_
      . rw[zAR,zBC]
        exact LB.hub.imp fun h=>by omega
      . obtain⟨e,he,rfl⟩:=zAM.mp hx
        exact hubs e he
     have ebs:(bs.map V.ref).length=es.length:=by rw[zD,EA.1]
     refine⟨_,rfl,_,rfl,l,_,_,.ref la,rfl,rfl,SqT.of (s46 _ _ hl3),zCD (by rw[zQ,eas];rfl),la,_,rfl,.inr (SqT.of (s46 _ _ hb)),?_⟩
     rw[ebs]
     refine⟨_,rfl,v,p,rfl,zAY (s5.trans s6) S4,hh,by omega,g.k1,fun H7 s7=>?_⟩
     refine⟨_,_,rfl,rfl,_,rfl,ifF (zZ (by omega)) ?_⟩
     have s47:=s46.trans s7
     have hb7:=s47 _ _ hb
     have h57:=s7 _ _ (s6 _ _ h5)
     refine⟨_,rfl,_,rfl,l,_,_,.ref la,rfl,rfl,SqT.of (s47 _ _ hl3),zCD (by rw[zQ,eas];rfl),la,rfl,⟨_,SqT.of hb7⟩,[.ref l1],rfl,fun D hD=>?_⟩
     have sD:=zI (o:=.lst []) hD
     refine zCI (a:=la) (xs:=bs.map V.ref) (fun i ys H8=>ys=[]/\H8=upd H7 D (.lst [])) ⟨rfl,rfl⟩ (fun i ys H8 z=>?_) (fun i ys H8 z=>?_) (fun i x ys H8 hx z=>?_) (fun ys H8 z=>?_)
     . obtain⟨rfl,rfl⟩:=z
       exact SqT.of (sD _ _ hb7)
     . obtain⟨rfl,_⟩:=z
       exact zo (zi _)
     . obtain⟨rfl,rfl⟩:=z
       obtain⟨ea,e,rfl,he,hea⟩:=EA.at hx
       have hmem:=hubs e (zW he)
       refine⟨⟨rfl,rfl⟩,?_⟩
       refine⟨_,rfl,ea,_,_,.int e.h,rfl,rfl,SqT.of (sD _ _ (s47 _ _ hea)),rfl,_,rfl,l1,_,rfl,.inr (SqT.of (sD _ _ h57)),rfl,zBZ _,_,rfl,?_⟩
       show (if (!inV (.int e.h) (ms2.map V.int))=true then _ else _)
       rw[zB0,zP (pms.mem_iff.mpr hmem)]
       exact zCm ⟨rfl,rfl⟩
     . obtain⟨rfl,rfl⟩:=z
       refine⟨zi _,fun b hb'=>?_⟩
       have sb:=sD.trans (zI (o:=.lst []) hb')
       refine⟨D,b,[],rfl,rfl,SqL.of (zI hb' _ _ zJ),SqL.of zJ,_,rfl,zCm ?_⟩
       exact⟨_,_,rfl,s47.trans sb⟩
   . obtain⟨v4,v5,rfl,s4⟩:=z
     exact k H4 (sm03.trans (SmT.of s4)) (T3.same s4)
end
end K40
namespace K40
open PySem L2 WM
theorem zAN.smT {H H':Hp}{t:Addr}{N:Nat}(h:zAN H t N)(k:SmT H H'):zAN H' t N:=by
 obtain⟨p,ns,spot,rest,a,b,c⟩:=h
 exact⟨p,ns,spot,rest,k.get a (by intro ps z;cases z),k.get b (by intro ps z;cases z),c⟩
theorem zD2 {H H':Hp}{t PT:Addr}{N:Nat}{pos:Pos}{q:Str}(T:zAN H t N)(k:Sm t H H')(h:zDE H PT pos q):zDE H' PT pos q:=by
 obtain⟨p,ns,spot,rest,a,_⟩:=T
 obtain⟨ps,hp,_⟩:=id h
 exact h.keep (fun o e=>k _ _ (zB1 hp a (by intro z;cases z)) e) fun c φ e=>k _ _ (zB1 e a (by intro z;cases z)) e
theorem PlR.letP {n:Int}{ts:List T3}{p:Pln}(R:PlR ts (lowTo n.toNat) p)(n0:0<=n):zIO n ts p:=by
 refine⟨R.pm.nodup_iff.mpr ((zDc _).imp fun h=>by omega),fun x hx=>?_,fun x x0 x1=>?_,R.tie⟩
 . have:=zCs.mp (R.pm.mem_iff.mp hx)
   omega
 . exact R.pm.mem_iff.mpr (zCs.mpr (by omega))
noncomputable def zKA (K:PySem.W.Frag)(PT:Addr):Sp:=fun vs H Q _=>∃(a:Addr)(ns:List Int),vs=[.ref a]/\SqL K H a (ns.map V.int)/\ns.length<=63/\H PT=some (.tbl #[])/\∀H',Q (.bl true) H'
noncomputable def tLk (PT:Addr):TS:=fun D σ H=>∃(wa:Addr)(v0 v1 v2 v5:Option V)(v:V)(n:Int)(ts:List T3)(p:Pln),σ=[v0,v1,v2,some (.ref wa),some v,v5]/\zB3 H wa n ts/\zAy H v (plD p)/\PlG p/\hgt p<=16/\Tb H PT/\∀H',SmT H H'->Tb H' PT->D.nx σ H'
section
variable {P:Program}{w:World}{K:PySem.W.Frag}{mg:Str->Option Value}{base:Heap}
theorem zGj:zAH ["_law_script", "_law_tape_here", "_law_k", "_law_web_here", "_law_plan", "_law_bends"] ["_law_script"] (defScope sLaw):=⟨rfl,rfl,rfl,by decide +kernel,rfl,by decide +kernel,by decide +kernel⟩
theorem ok_law {PT c C fI f fTa fD fN fW fT fNe fF fLe fBw fNb fNu fWi fPl fTo fRs fIo fBy fLb fIh fEb fIp fPw fPp fCh fCo fPo fDe fLt fRa fPf fLk fTf fLf fLc fBe fPa fRp fCa fPt fLv fHr:Addr}{tk:Tok}{fdI fd' fdTa fdD fdN fdW fdT fdNe fdF fdLe fdBw fdNb fdNu fdWi fdPl fdTo fdRs fdIo fdBy fdLb fdIh fdEb fdIp fdPw fdPp fdCh fdCo fdPo fdDe fdLt fdRa fdPf fdLk fdTf fdLf fdLc fdBe fdPa fdRp fdCa fdPt fdLv fdHr:FuncData}(F:Fun K "law" "law" sLaw f fd') (CH:PySem.W.CodeHd base c PT)(hbm:zJy mg base)
 (mC:mg "NoPlan" = some (.ref C)) (EI:zG8 K C fI)(sb:L2.subIn K C C=true)(FI:Fun K "__init__" "NoPlan.__init__" sI1 fI fdI) (bI:zAA K fdI ["self", "word", "at"] []) (mo:PySem.W.mroIn K C (.type "object")=some true) (i1:PySem.W.findIn K (.ref C) "word" = some none) (i2:PySem.W.findIn K (.ref C) "at" = some none) (mMW:mg "MOST_WITHIN" = some (.int 24 tk))
 (FTa:Fun K "_law_tape" "_law_tape" zKF fTa fdTa) (bTa:zAA K fdTa ["_law_script"] []) (mTa:mg "_law_tape" = some (.ref fTa))
 (FD:Fun K "_law_draw" "_law_draw" zFH fD fdD) (bD:zAA K fdD ["_law_tape_here", "_law_many"] []) (mD:mg "_law_draw" = some (.ref fD))
 (FN:Fun K "_law_n" "_law_n" sN fN fdN) (bN:zAA K fdN ["_law_tape_here"] []) (mN:mg "_law_n" = some (.ref fN))
 (FW:Fun K "_law_web" "_law_web" sWeb fW fdW) (bW:zAA K fdW ["_law_tape_here", "_law_n_here"] []) (mW:mg "_law_web" = some (.ref fW))
 (FT:Fun K "ties_at" "ties_at" zGk fT fdT) (bT:zAA K fdT ["web", "place"] []) (mT:mg "ties_at" = some (.ref fT))
 (FNe:zKq K "nearest" "nearest" zIk fNe fdNe c) (bNe:zAA K fdNe ["waiting"] []) (mNe:mg "nearest" = some (.ref fNe))
 (FF:Fun K "lengths_from" "lengths_from" zIn fF fdF) (bF:zAA K fdF ["web", "start"] []) (mF:mg "lengths_from" = some (.ref fF))
 (FLe:Fun K "lengths" "lengths" zIm fLe fdLe) (bLe:zAA K fdLe ["web"] []) (mLe:mg "lengths" = some (.ref fLe))
 (FBw:Fun K "between_rows" "between_rows" sBwr fBw fdBw) (bBw:zAA K fdBw ["here", "there", "other"] []) (mBw:mg "between_rows" = some (.ref fBw))
 (FNb:Fun K "next_by_row" "next_by_row" sNbr fNb fdNb) (bNb:zAA K fdNb ["web", "one", "there"] []) (mNb:mg "next_by_row" = some (.ref fNb))
 (FNu:Fun K "is_number" "is_number" zKG fNu fdNu) (bNu:zAA K fdNu ["thing"] []) (mNu:mg "is_number" = some (.ref fNu))
 (FWi:Fun K "is_within" "is_within" sWi fWi fdWi) (bWi:zAA K fdWi ["thing", "least", "most"] []) (mWi:mg "is_within" = some (.ref fWi))
 (FPl:Fun K "is_place" "is_place" sPl fPl fdPl) (bPl:zAA K fdPl ["n", "thing"] []) (mPl:mg "is_place" = some (.ref fPl))
 (FTo:Fun K "is_tuple_of" "is_tuple_of" sTof fTo fdTo) (bTo:zAA K fdTo ["thing", "count"] []) (mTo:mg "is_tuple_of" = some (.ref fTo))
 (FRs:Fun K "is_rising" "is_rising" sRis fRs fdRs) (bRs:zAA K fdRs ["things"] []) (mRs:mg "is_rising" = some (.ref fRs))
 (FIo:Fun K "is_order" "is_order" sOrd fIo fdIo) (bIo:zAA K fdIo ["web", "thing"] []) (mIo:mg "is_order" = some (.ref fIo))
 (FBy:Fun K "by_order" "by_order" sByo fBy fdBy) (bBy:zAA K fdBy ["web", "order"] []) (mBy:mg "by_order" = some (.ref fBy))
 (FLb:Fun K "label_by_ranks" "label_by_ranks" sLbr fLb fdLb) (bLb:zAA K fdLb ["web", "rows", "ranks", "place"] []) (mLb:mg "label_by_ranks" = some (.ref fLb))
 (FIh:Fun K "is_hub" "is_hub" sIsh fIh fdIh) (bIh:zAA K fdIh ["rows", "ranks", "hub", "place"] []) (mIh:mg "is_hub" = some (.ref fIh))
 (FEb:Fun K "entry_by_rows" "entry_by_rows" sEbr fEb fdEb) (bEb:zAA K fdEb ["web", "rows", "place", "hub"] []) (mEb:mg "entry_by_rows" = some (.ref fEb))
 (FIp:Fun K "is_plan" "is_plan" sIp fIp fdIp) (bIp:zAA K fdIp ["thing"] []) (mIp:mg "is_plan" = some (.ref fIp))
 (FPw:Fun K "is_plan_within" "is_plan_within" sPw fPw fdPw) (bPw:zAA K fdPw ["thing", "most"] []) (mPw:mg "is_plan_within" = some (.ref fPw))
 (FPp:Fun K "are_plan_places" "are_plan_places" sPp fPp fdPp) (bPp:zAA K fdPp ["thing"] []) (mPp:mg "are_plan_places" = some (.ref fPp))
 (FCh:Fun K "chain" "chain" sCh fCh fdCh) (bCh:zAA K fdCh ["plan", "place"] []) (mCh:mg "chain" = some (.ref fCh))
 (FCo:Fun K "chain_or_none" "chain_or_none" sCo fCo fdCo) (bCo:zAA K fdCo ["plan", "place"] []) (mCo:mg "chain_or_none" = some (.ref fCo))
 (FPo:Fun K "plan_order" "plan_order" sPo fPo fdPo) (bPo:zAA K fdPo ["plan"] []) (mPo:mg "plan_order" = some (.ref fPo))
 (FDe:Fun K "deepest" "deepest" sDe fDe fdDe) (bDe:zAA K fdDe ["plan"] []) (mDe:mg "deepest" = some (.ref fDe))
 (FLt:Fun K "lets_plan" "lets_plan" zIl fLt fdLt) (bLt:zAA K fdLt ["web", "thing"] []) (mLt:mg "lets_plan" = some (.ref fLt))
 (FRa:Fun K "refuse_at" "refuse_at" zIj fRa fdRa) (bRa:zAA K fdRa ["word", "at"] []) (mRa:mg "refuse_at" = some (.ref fRa))
 (FPf:Fun K "place_fault" "place_fault" sPf fPf fdPf) (bPf:zAA K fdPf ["web", "plan"] []) (mPf:mg "place_fault" = some (.ref fPf))
 (FLk:Fun K "lacks_fault" "lacks_fault" sLk fLk fdLk) (bLk:zAA K fdLk ["web", "plan"] []) (mLk:mg "lacks_fault" = some (.ref fLk))
 (FTf:Fun K "tie_fault" "tie_fault" sTf fTf fdTf) (bTf:zAA K fdTf ["web", "plan"] []) (mTf:mg "tie_fault" = some (.ref fTf))
 (FLf:Fun K "_law_flat" "_law_flat" sLf fLf fdLf) (bLf:zAA K fdLf ["_law_plan"] []) (mLf:mg "_law_flat" = some (.ref fLf))
 (FLc:Fun K "_law_chain" "_law_chain" sLc fLc fdLc) (bLc:zAA K fdLc ["_law_plan", "_law_place"] []) (mLc:mg "_law_chain" = some (.ref fLc))
 (FBe:Fun K "_law_beside" "_law_beside" sBes fBe fdBe) (bBe:zAA K fdBe ["_law_web_here"] []) (mBe:mg "_law_beside" = some (.ref fBe))
 (FPa:Fun K "_law_parts" "_law_parts" sPar fPa fdPa) (bPa:zAA K fdPa ["_law_beside_each", "_law_places"] []) (mPa:mg "_law_parts" = some (.ref fPa))
 (FRp:Fun K "_law_right_plan" "_law_right_plan" sRpl fRp fdRp) (bRp:zAA K fdRp ["_law_tape_here", "_law_beside_each", "_law_places"] []) (mRp:mg "_law_right_plan" = some (.ref fRp))
 (FCa:Fun K "_law_called" "_law_called" sCal fCa fdCa) (bCa:zAA K fdCa ["_law_plan", "_law_names"] []) (mCa:mg "_law_called" = some (.ref fCa))
 (FPt:Fun K "_law_plan_turned" "_law_plan_turned" sPtu fPt fdPt) (bPt:zAA K fdPt ["_law_tape_here", "_law_plan", "_law_n_here"] []) (mPt:mg "_law_plan_turned" = some (.ref fPt))
 (FLv:Fun K "_law_let" "_law_let" sLet fLv fdLv) (bLv:zAA K fdLv ["_law_web_here", "_law_plan"] []) (mLv:mg "_law_let" = some (.ref fLv))
 (FHr:Fun K "_law_hubs_right" "_law_hubs_right" sHub fHr fdHr) (bHr:zAA K fdHr ["_law_web_here", "_law_plan"] []) (mHr:mg "_law_hubs_right" = some (.ref fHr))
 (mLen:mg "len" = none) (mRange:mg "range" = none) (mTuple:mg "tuple" = none) (mSorted:mg "sorted" = none) (mMin:mg "min" = none) (mMax:mg "max" = none) (mRepr:mg "repr" = none) (mList:mg "list" = none) (mIsi:mg "isinstance" = none) (mInt:mg "int" = none) (mBool:mg "bool" = none) (mAll:mg "all" = none) (mSet:mg "set" = none):zAi P w K mg base CX0 40 f fd' ["_law_script"] (zKA K PT):=by
 have GTa:zAi P w K mg base CX0 39 fTa fdTa ["_law_script"] (zKx K):=(zLs FTa).mono (by decide)
 have GN:zAi P w K mg base CX0 39 fN fdN ["_law_tape_here"] spN:=(ok_n FN FD bD mD mLen).mono (by decide)
 have GW':zAi P w K mg base CX0 39 fW fdW ["_law_tape_here", "_law_n_here"] spWeb:=(ok_web FW FD bD mD mLen mRange mTuple mSorted).mono (by decide)
 have GF:zAi P w K mg base CX0 3 fF fdF ["web", "start"] (zIZ PT):=zLx FF FNe bNe mNe FT bT mT CH hbm mMin mSorted mTuple
 have GLe:zAi P w K mg base CX0 5 fLe fdLe ["web"] (zIY PT):=(zLw FLe FF bF mF GF mRange mTuple).mono (by decide)
 have GIo:zAi P w K mg base CX0 4 fIo fdIo ["web", "thing"] zJ8:=ok_ord FIo FTo bTo mTo FWi bWi mWi FPl bPl mPl FNu bNu mNu mIsi mInt mBool mTuple mLen mAll mSet
 have GLb:zAi P w K mg base CX0 5 fLb fdLb ["web", "rows", "ranks", "place"] zLZ:=ok_lbr FLb FIh bIh mIh ((ok_ish FIh FBw bBw mBw mRange mTuple mLen mAll).mono (by decide)) FEb bEb mEb (ok_ebr FEb FNb bNb mNb FT bT mT mSorted mTuple mMin) mRange mTuple
 have GBy:zAi P w K mg base CX0 38 fBy fdBy ["web", "order"] (zLa PT):=(ok_byo FBy FIo bIo mIo (GIo.mono (by decide)) FLe bLe mLe GLe FLb bLb mLb GLb mRange mTuple).mono (by decide)
 have GTo:∀m,zAi P w K mg base CX0 (m+2) fTo fdTo ["thing", "count"] zJ7:=fun m=>(zK4 FTo mIsi mTuple mLen).mono (by omega)
 have GPp:∀m,zAi P w K mg base CX0 (m+2) fPp fdPp ["thing"] spPp:=fun m=>(ok_pp FPp FNu bNu mNu FRs bRs mRs mIsi mInt mBool mTuple mLen mRange mAll).mono (by omega)
 have GPw:zAi P w K mg base CX0 27 fPw fdPw ["thing", "most"] (spPw 24):=ok_pw FPw bPw mPw FTo bTo mTo FPp bPp mPp GTo GPp mIsi mTuple mAll 24
 have GIp:zAi P w K mg base CX0 28 fIp fdIp ["thing"] spIp:=ok_ip FIp FPw bPw mPw GPw mMW
 have GPo:zAi P w K mg base CX0 17 fPo fdPo ["plan"] (spPo 16):=ok_po FPo bPo mPo mList mTuple 16
 have GCh:zAi P w K mg base CX0 18 fCh fdCh ["plan", "place"] (spCh 16):=ok_ch FCh FCo bCo mCo mTuple mSorted mSet
 have GLc:zAi P w K mg base CX0 18 fLc fdLc ["_law_plan", "_law_place"] (spLc 16):=ok_lc FLc FLf bLf mLf mList mTuple mSorted
 have GDe:zAi P w K mg base CX0 17 fDe fdDe ["plan"] (spDe 16):=ok_de FDe bDe mDe mLen mMax 16
 have GPf:zAi P w K mg base CX0 20 fPf fdPf ["web", "plan"] (spPf 16):=ok_pf FPf FPo bPo mPo (GPo.mono (by decide)) FPl bPl mPl ((ok_plB FPl FWi bWi mWi FNu bNu mNu mIsi mInt mBool).mono (by decide))
 have GLk:zAi P w K mg base CX0 20 fLk fdLk ["web", "plan"] (spLk 16):=ok_lk FLk FPo bPo mPo (GPo.mono (by decide)) mRange mMin
 have GTf:zAi P w K mg base CX0 20 fTf fdTf ["web", "plan"] (spTf 16):=ok_tf FTf FCh bCh mCh (GCh.mono (by decide)) mRange
 have GI:zAi P w K mg base CX0 1 fI fdI ["self", "word", "at"] (spXI C "word" "at"):=ok_I1 FI EI mo i1 i2
 have GRa:zAi P w K mg base (CXI P w) 3 fRa fdRa ["word", "at"] (zIW C):=zLt FRa mC EI bI GI
 have GLt:zAi P w K mg base (CXI P w) 38 fLt fdLt ["web", "thing"] (zIX C 16):=zLv FLt mC EI bI (GI.mono (by decide)) FIp bIp mIp (GIp.mono (by decide)) FRa bRa mRa (GRa.mono (by decide)) FPf bPf mPf (GPf.mono (by decide)) FLk bLk mLk (GLk.mono (by decide)) FTf bTf mTf (GTf.mono (by decide))
 have GLv:zAi P w K mg base CX0 39 fLv fdLv ["_law_web_here", "_law_plan"] (spLet 16):=ok_let FLv mC EI sb FLt bLt mLt GLt
 have GHr:zAi P w K mg base CX0 39 fHr fdHr ["_law_web_here", "_law_plan"] (spHub PT 16):=ok_hub FHr FPo bPo mPo (GPo.mono (by decide)) FIo bIo mIo (GIo.mono (by decide)) FBy bBy mBy GBy FCh bCh mCh (GCh.mono (by decide)) FLc bLc mLc (GLc.mono (by decide)) FDe bDe mDe (GDe.mono (by decide)) mRange mRepr mLen
 have GBe:zAi P w K mg base CX0 39 fBe fdBe ["_law_web_here"] spBes:=(ok_bes FBe mRange).mono (by decide)
 have GRp:zAi P w K mg base CX0 39 fRp fdRp ["_law_tape_here", "_law_beside_each", "_law_places"] (spRpl 24):=(zK5 FRp bRp mRp FD bD mD FPa bPa mPa mLen mRange mTuple mList mSorted mMin 24).mono (by decide)
 have GPt:zAi P w K mg base CX0 39 fPt fdPt ["_law_tape_here", "_law_plan", "_law_n_here"] (spPtu 16):=(zK6 FPt bPt mPt FD bD mD FCa bCa mCa mLen mTuple mSorted 16).mono (by decide)
 refine F.ok zGj (fun vs H Q E h=>?_) (fun cdv A outer s H vs Q E hr h=>?_)
 . obtain⟨a,ns,rfl,_⟩:=h
   rfl
 . obtain⟨a,ns,rfl,hS,hlen,hPT,k⟩:=h
   refine⟨_,zV (zAW (i:=1) zGj.nd rfl (Or.inl rfl) (zp GTa hr rfl mTa FTa.kp bTa .nil zAX (zG (pv 0) zO)))
    (zV (zCc PassesOwn.never rfl (zBJ rfl mRange (zCd zO)) (zAI (i:=2) zGj.nd rfl (Or.inl rfl))
     (zV (zAW (i:=3) zGj.nd rfl (Or.inl rfl) (zp GW' hr rfl mW FW.kp bW .nil zAX (zG (pv 1) (zG (zp GN hr rfl mN FN.kp bN .nil zAX (zG (pv 1) zO)) zO))))
     (zV (zAW (i:=4) zGj.nd rfl (Or.inl rfl) (zp GRp hr rfl mRp FRp.kp bRp .nil zAX (zG (pv 1) (zG (zp GBe hr rfl mBe FBe.kp bBe .nil zAX (zG (pv 3) zO)) (zG (zIw rfl rfl mList rfl mRange (zG (zAC zAE (pv 3) ze (fun _ _=>rfl)) zO)) zO)))))
     (zV (zBr (zCw (zCb (zp GLv hr rfl mLv FLv.kp bLv .nil zAX (zG (pv 3) (zG (pv 4) zO))))) zDw zAh)
     (zm (zCc PassesOwn.never rfl (zBJ rfl mRange (zCd zO)) (zAI (i:=5) zGj.nd rfl (Or.inl rfl))
      (zV (zGn (u':=tLk PT) (zBr (PW.pt (zDG (zCb (zp GLv hr rfl mLv FLv.kp bLv .nil zAX (zG (pv 3) (zG (pv 4) zO)))) (zCg (zCw (zCb (zp GHr hr rfl mHr FHr.kp bHr .nil zAX (zG (pv 3) (zG (pv 4) zO)))))))) zDw zAh) ?look)
      (zm (zAW (i:=4) zGj.nd rfl (Or.inl rfl) (zp GPt hr rfl mPt FPt.kp bPt .nil zAX (zG (pv 1) (zG (pv 4) (zG (zAC zAE (pv 3) ze (fun _ _=>rfl)) zO)))))))))))))
    (zm (zAK zEJ))),?_⟩
   case look=>
    rintro D σ H1 ⟨wa,v0,v1,v2,v5,v,n,ts,p,rfl,W,S,g,hh,B,nx⟩
    refine⟨_,rfl,_,rfl,wa,v,n,ts,p,rfl,W,S,g,hh,fun b H2 hb s2=>⟨_,rfl,?_⟩⟩
    cases b with
    | false=>exact zCm (zCm (nx H2 (SmT.of s2) (B.same s2)))
    | true=>
     refine zDb ?_
     refine⟨_,rfl,_,rfl,wa,v,n,ts,p,rfl,W.keep s2,zAY s2 S,g,hh,(hb.mp rfl).2,B.same s2,fun H3 sm3 B3=>⟨_,rfl,zCm (nx H3 ((SmT.of s2).trans sm3) B3)⟩⟩
   refine⟨_,rfl,a,ns,rfl,hS,hlen,fun t H1 ht T1 s1=>?_⟩
   have B1:Tb H1 PT:=⟨#[],s1 _ _ hPT,trivial,.inl rfl⟩
   refine⟨4,rfl,by decide,by decide,zCl (lo:=0) (n:=4) (fun q σ H2=>∃v2 v3 v4 v5:Option V,σ=[some (.ref a),some (.ref t),v2,v3,v4,v5]/\zAN H2 t (2000*q)/\Tb H2 PT) ⟨_,_,_,_,rfl,T1,B1⟩ (fun q σ H2 hq z=>?_) (fun σ H2 z=>?_)⟩
   . obtain⟨v2,v3,v4,v5,rfl,T2,B2⟩:=z
     rw[zBQ]
     refine⟨_,rfl,_,rfl,t,2000*q,rfl,T2,by omega,fun n H3 n1 n12 T3 s3=>?_⟩
     refine⟨t,2000*q+1,n,rfl,T3,by omega,n1,by omega,fun wa ts H4 _ W4 T4 s4=>?_⟩
     have B4:Tb H4 PT:=zD2 T3 s4 (zD2 T2 s3 B2)
     clear T2 B2 T3 s3 s4
     obtain⟨ta,tys,hwa,_,_,G⟩:=id W4
     refine⟨_,rfl,_,rfl,wa,n,ts,rfl,W4,fun bl H5 s5 SB=>?_⟩
     refine⟨_,rfl,wa,_,_,_,rfl,rfl,SqT.of (s5 _ _ hwa),rfl,n,rfl,by omega,by omega,fun la hla=>?_⟩
     have s6:=zI (o:=.lst ((lowTo n.toNat).map V.int)) hla
     have s46:=s5.trans s6
     obtain⟨tp,TP6⟩:=T4.keep s46
     have W6:=W4.keep s46
     have B6:=B4.same s46
     refine⟨t,tp,bl,la,n,ts,_,lowTo n.toNat,rfl,TP6,by rw[zBc];omega,SB.same s6,G,zJ,(zDc _).imp fun h=>by omega,fun x hx=>by have:=zCs.mp hx;omega,by rw[zBc];omega,by rw[zBc];omega,by rw[zBc];omega,fun v p H7 s7 T7 S7 R7=>?_⟩
     have TA6:zAN _ t _:=⟨tp,TP6⟩
     have W7:=W6.sm TA6 s7
     have B7:Tb H7 PT:=zD2 TA6 s7 B6
     rw[zBc] at T7
     have L7:=R7.letP (by omega)
     have hl7:(zAL p).length=n.toNat:=by rw[R7.pm.length_eq,zBc]
     have hh7:=R7.ht
     rw[zBc] at hh7
     have PT7:PlT 12 12 p:=⟨by omega,by omega,R7.gd,fun x hx=>(L7.rng x hx).1⟩
     have g7:=PT7.g (by decide)
     have pB:=zK2 24 p (by omega) R7.rs
     refine⟨_,rfl,_,rfl,wa,v,n,ts,p,rfl,W7,S7,g7,by omega,fun b H8 hb s8=>?_⟩
     obtain rfl:b=true:=hb.mpr ⟨pB,L7⟩
     refine⟨_,rfl,zCm ?_⟩
     have T8:zAN H8 t (2000*q+400):=zAN.mono (zAN.keep ⟨tp,T7⟩ s8) (by omega)
     refine⟨3,rfl,by decide,by decide,zCl (lo:=0) (n:=3) (fun j σ H9=>∃(v4 v5:Option V)(v:V)(p:Pln),σ=[some (.ref a),some (.ref t),some (.int q),some (.ref wa),some v,v5]/\zAN H9 t (2000*q+400+100*j)/\Tb H9 PT/\zB3 H9 wa n ts/\zAy H9 v (plD p)/\PlT (12+j) (12*2 ^ j) p)
      ⟨none,_,v,p,rfl,T8,B7.same s8,W7.keep s8,zAY s8 S7,PT7⟩ (fun j σ H9 hj z=>?_) (fun σ H9 z=>?_)⟩
     . obtain⟨_,v5',v',p',rfl,T9,B9,W9,S9,g9⟩:=z
       rw[zBQ]
       have hp:12*2 ^ j<=48:=by
        have:2 ^ j<=2 ^ 2:=Nat.pow_le_pow_right (by decide) (by omega)
        have:(2:Nat) ^ 2=4:=rfl
        omega
       have gg:=g9.g (by omega)
       have hh:=g9.ht
       refine⟨wa,_,_,_,_,v',n,ts,p',rfl,W9,S9,gg,by omega,B9,fun H10 sm B10=>?_⟩
       obtain⟨tp,TP⟩:=T9.smT sm
       have W10:zB3 H10 wa n ts:=W9.keepT fun b ys e=>sm.get e (by intro ps z;cases z)
       obtain⟨ta',tys',hwa',_,_,_⟩:=id W10
       have S10:=zK1 sm S9
       refine⟨_,rfl,_,rfl,_,rfl,wa,_,_,_,rfl,rfl,SqT.of hwa',rfl,t,tp,v',p',n,_,12*2 ^ j,rfl,TP,by omega,n1,by omega,S10,⟨by omega,g9.ln,g9.gd,g9.nn⟩,by omega,fun v'' p'' H11 s11 T11 S11 g11=>?_⟩
       have TA10:zAN H10 t _:=⟨tp,TP⟩
       have gl:=g9.ln
       exact⟨none,_,v'',p'',rfl,zAN.mono ⟨tp,T11⟩ (by omega),zD2 TA10 s11 B10,W10.sm TA10 s11,S11,⟨by have:=g11.ht;omega,by have:=g11.ln;rw[Nat.pow_succ];omega,g11.gd,g11.nn⟩⟩
     . obtain⟨_,v5',v',p',rfl,T9,B9,W9,S9,g9⟩:=z
       exact⟨_,_,_,_,rfl,T9.mono (by omega),B9⟩
   . obtain⟨v2,v3,v4,v5,rfl,_⟩:=z
     exact k H2
end
end K40
namespace K40
open PySem L2 WM
noncomputable abbrev sT:String->Str:=Str.ofString
noncomputable abbrev kH:=PyData.keyHash
noncomputable abbrev dE:=DictEntry.mk
noncomputable abbrev vS:=Value.str
noncomputable abbrev vI:=Value.int
noncomputable abbrev vR:=Value.ref
noncomputable abbrev vB:=Value.bool
noncomputable abbrev vN:Value:=Value.none
noncomputable abbrev vT:=Value.type
noncomputable abbrev oM:=Obj.mk
noncomputable abbrev cQ (x:Array Value):Obj:=oM (vT "code") .none (.fields x) #[]
noncomputable abbrev fQ (x:FuncData):Obj:=oM (vT "function") .none (.func x) #[]
noncomputable abbrev fT (x:String)(i:Nat)(m:Value)(c:Nat):Obj:=fQ (.mk (sT x) (sT x) (L2.defArgs (top i)) (FuncBody.stmts (L2.defBody (top i))) (L2.defScope (top i)) 3 [] vN vN vN m .none (vR c) vN 0)
noncomputable abbrev qS (x:String)(n:Nat):Value:=vS (sT x) n
noncomputable abbrev kE (P:Params)(x:String)(n:Nat):Value->DictEntry:=dE (kH P (sT x)) (qS x n)
noncomputable def Kf:Params->PySem.W.Frag:=fun P=>[
(2,oM vN .none (Data.dict #[]) #[]),
(3,oM (vT "dict") .none (Data.dict #[kE P "__name__" 165 (qS "law_labelways_k40_whole_hubs_stand_in_chains" 478),kE P "__doc__" 166 vN,kE P "__package__" 167 vN,kE P "__loader__" 168 (Value.builtin "__main__.__loader__#opaque"),kE P "__spec__" 169 vN,kE P "__annotations__" 170 (vR 6),kE P "__builtins__" 171 (vR 4),kE P "__file__" 173 (qS "/claim/cut.py" 172),kE P "__cached__" 174 vN,kE P "WayError" 206 (vR 24),kE P "NoPlan" 233 (vR 44),kE P "NoOrder" 249 (vR 56),kE P "is_number" 258 (vR 65),kE P "is_within" 267 (vR 72),kE P "is_tuple_of" 275 (vR 79),kE P "is_rising" 281 (vR 84),kE P "is_place" 289 (vR 91),kE P "MOST_WITHIN" 293 (vI 24 292),kE P "is_plan" 300 (vR 98),kE P "is_plan_within" 306 (vR 103),kE P "are_plan_places" 312 (vR 108),kE P "chain" 320 (vR 115),kE P "chain_or_none" 330 (vR 122),kE P "plan_order" 339 (vR 129),kE P "deepest" 345 (vR 134),kE P "lets_plan" 353 (vR 141),kE P "refuse_at" 361 (vR 148),kE P "place_fault" 371 (vR 155),kE P "lacks_fault" 377 (vR 160),kE P "tie_fault" 383 (vR 165),kE P "ties_at" 397 (vR 172),kE P "lengths" 405 (vR 177),kE P "lengths_from" 419 (vR 184),kE P "nearest" 427 (vR 191),kE P "between_rows" 433 (vR 196),kE P "next_by_row" 439 (vR 201),kE P "is_order" 447 (vR 206),kE P "by_order" 453 (vR 211),kE P "label_by_ranks" 459 (vR 216),kE P "is_hub" 465 (vR 221),kE P "entry_by_rows" 477 (vR 228),kE P "_law_tape" 486 (vR 235),kE P "_law_draw" 498 (vR 242),kE P "_law_n" 505 (vR 249),kE P "_law_web" 511 (vR 254),kE P "_law_flat" 520 (vR 261),kE P "_law_chain" 526 (vR 266),kE P "_law_beside" 532 (vR 271),kE P "_law_parts" 538 (vR 276),kE P "_law_right_plan" 544 (vR 281),kE P "_law_called" 550 (vR 286),kE P "_law_plan_turned" 563 (vR 293),kE P "_law_let" 572 (vR 300),kE P "_law_hubs_right" 578 (vR 305),kE P "law" 590 (vR 312)] 55) #[]),
(23,oM (vT "dict") .none (Data.dict #[kE P "__module__" 196 (qS "labelways.errors" 187),kE P "__firstlineno__" 200 (vI 2 199),kE P "__static_attributes__" 201 (vR 22),kE P "__weakref__" 203 (vR 25),kE P "__doc__" 204 vN] 3) #[]),
(24,oM (vT "type") .none (Data.cls (ClassData.mk (sT "WayError") [vT "ValueError"] [vR 24,vT "ValueError",vT "Exception",vT "BaseException",vT "object"] 23 (sT "WayError") true [] [vR 44,vR 56] false .none false)) #[.some (vR 15),.none,.some (qS "WayError" 189),.some (qS "WayError" 197),.some (Value.builtin "ValueError.__new__"),.some (vB true)]),
(25,oM (vT "getset_descriptor") .none (Data.fields #[qS "__weakref__" 202,vR 24,Value.builtin "ExceptionGroup.__weakref__",vN]) #[]),
(40,cQ #[qS "__init__" 219,qS "NoPlan.__init__" 220,qS "/claim/cut.py" 221,vI 6 0,vI 3 0,vI 0 0,vI 0 0,vI 3 0,vR 35,vB true,vI 181 0,vR 36,vN,vR 37,vR 38,vR 39,vI 225 0,vI 6 0,qS "/claim/cut.py" 226]),
(41,fQ (.mk (sT "__init__") (sT "NoPlan.__init__") (L2.defArgs (mth 2 0)) (FuncBody.stmts (L2.defBody (mth 2 0))) (L2.defScope (mth 2 0)) 3 [] vN vN vN (qS "labelways.errors" 187) .none (vR 40) vN 0)),
(43,oM (vT "dict") .none (Data.dict #[kE P "__module__" 214 (qS "labelways.errors" 187),kE P "__firstlineno__" 218 (vI 4 217),kE P "__init__" 227 (vR 41),kE P "__static_attributes__" 230 (vR 42),kE P "__doc__" 231 vN] 2) #[]),
(44,oM (vT "type") .none (Data.cls (ClassData.mk (sT "NoPlan") [vR 24] [vR 44,vR 24,vT "ValueError",vT "Exception",vT "BaseException",vT "object"] 43 (sT "NoPlan") true [] [] false .none false)) #[.some (vR 28),.none,.some (qS "NoPlan" 207),.some (qS "NoPlan" 215),.some (Value.builtin "ValueError.__new__"),.some (vB true)]),
(55,oM (vT "dict") .none (Data.dict #[kE P "__module__" 241 (qS "labelways.errors" 187),kE P "__firstlineno__" 245 (vI 9 244),kE P "__static_attributes__" 246 (vR 54),kE P "__doc__" 247 vN] 2) #[]),
(56,oM (vT "type") .none (Data.cls (ClassData.mk (sT "NoOrder") [vR 24] [vR 56,vR 24,vT "ValueError",vT "Exception",vT "BaseException",vT "object"] 55 (sT "NoOrder") true [] [] false .none false)) #[.some (vR 47),.none,.some (qS "NoOrder" 234),.some (qS "NoOrder" 242),.some (Value.builtin "ValueError.__new__"),.some (vB true)]),
(64,cQ #[qS "is_number" 252,qS "is_number" 253,qS "/claim/cut.py" 254,vI 12 0,vI 1 0,vI 0 0,vI 0 0,vI 3 0,vR 59,vB true,vI 181 0,vR 60,vN,vR 61,vR 62,vR 63,vI 256 0,vI 12 0,qS "/claim/cut.py" 257]),
(65,fQ (.mk (sT "is_number") (sT "is_number") (L2.defArgs (top 5)) (FuncBody.stmts (L2.defBody (top 5))) (L2.defScope (top 5)) 3 [] vN vN vN (qS "labelways.kinds" 250) .none (vR 64) vN 0)),
(71,cQ #[qS "is_within" 259,qS "is_within" 260,qS "/claim/cut.py" 261,vI 14 0,vI 3 0,vI 0 0,vI 0 0,vI 3 0,vR 66,vB true,vI 181 0,vR 67,vN,vR 68,vR 69,vR 70,vI 265 0,vI 14 0,qS "/claim/cut.py" 266]),
(72,fQ (.mk (sT "is_within") (sT "is_within") (L2.defArgs (top 6)) (FuncBody.stmts (L2.defBody (top 6))) (L2.defScope (top 6)) 3 [] vN vN vN (qS "labelways.kinds" 250) .none (vR 71) vN 0)),
(78,cQ #[qS "is_tuple_of" 268,qS "is_tuple_of" 269,qS "/claim/cut.py" 270,vI 16 0,vI 2 0,vI 0 0,vI 0 0,vI 3 0,vR 73,vB true,vI 181 0,vR 74,vN,vR 75,vR 76,vR 77,vI 273 0,vI 16 0,qS "/claim/cut.py" 274]),
(79,fQ (.mk (sT "is_tuple_of") (sT "is_tuple_of") (L2.defArgs (top 7)) (FuncBody.stmts (L2.defBody (top 7))) (L2.defScope (top 7)) 3 [] vN vN vN (qS "labelways.kinds" 250) .none (vR 78) vN 0)),
(83,cQ #[qS "is_rising" 276,qS "is_rising" 277,qS "/claim/cut.py" 278,vI 18 0,vI 1 0,vI 0 0,vI 0 0,vI 3 0,vR 80,vB true,vI 181 0,vR 81,vN,vN,vN,vR 82,vI 279 0,vI 18 0,qS "/claim/cut.py" 280]),
(84,fQ (.mk (sT "is_rising") (sT "is_rising") (L2.defArgs (top 8)) (FuncBody.stmts (L2.defBody (top 8))) (L2.defScope (top 8)) 3 [] vN vN vN (qS "labelways.kinds" 250) .none (vR 83) vN 0)),
(90,cQ #[qS "is_place" 282,qS "is_place" 283,qS "/claim/cut.py" 284,vI 20 0,vI 2 0,vI 0 0,vI 0 0,vI 3 0,vR 85,vB true,vI 181 0,vR 86,vN,vR 87,vR 88,vR 89,vI 287 0,vI 20 0,qS "/claim/cut.py" 288]),
(91,fQ (.mk (sT "is_place") (sT "is_place") (L2.defArgs (top 9)) (FuncBody.stmts (L2.defBody (top 9))) (L2.defScope (top 9)) 3 [] vN vN vN (qS "labelways.kinds" 250) .none (vR 90) vN 0)),
(97,cQ #[qS "is_plan" 294,qS "is_plan" 295,qS "/claim/cut.py" 296,vI 24 0,vI 1 0,vI 0 0,vI 0 0,vI 3 0,vR 92,vB true,vI 181 0,vR 93,vN,vR 94,vR 95,vR 96,vI 298 0,vI 24 0,qS "/claim/cut.py" 299]),
(98,fQ (.mk (sT "is_plan") (sT "is_plan") (L2.defArgs (top 12)) (FuncBody.stmts (L2.defBody (top 12))) (L2.defScope (top 12)) 3 [] vN vN vN (qS "labelways.plans" 290) .none (vR 97) vN 0)),
(102,cQ #[qS "is_plan_within" 301,qS "is_plan_within" 302,qS "/claim/cut.py" 303,vI 26 0,vI 2 0,vI 0 0,vI 0 0,vI 3 0,vR 99,vB true,vI 181 0,vR 100,vN,vN,vN,vR 101,vI 304 0,vI 26 0,qS "/claim/cut.py" 305]),
(103,fQ (.mk (sT "is_plan_within") (sT "is_plan_within") (L2.defArgs (top 13)) (FuncBody.stmts (L2.defBody (top 13))) (L2.defScope (top 13)) 3 [] vN vN vN (qS "labelways.plans" 290) .none (vR 102) vN 0)),
(107,cQ #[qS "are_plan_places" 307,qS "are_plan_places" 308,qS "/claim/cut.py" 309,vI 30 0,vI 1 0,vI 0 0,vI 0 0,vI 3 0,vR 104,vB true,vI 181 0,vR 105,vN,vN,vN,vR 106,vI 310 0,vI 30 0,qS "/claim/cut.py" 311]),
(108,fQ (.mk (sT "are_plan_places") (sT "are_plan_places") (L2.defArgs (top 14)) (FuncBody.stmts (L2.defBody (top 14))) (L2.defScope (top 14)) 3 [] vN vN vN (qS "labelways.plans" 290) .none (vR 107) vN 0)),
(114,cQ #[qS "chain" 313,qS "chain" 314,qS "/claim/cut.py" 315,vI 34 0,vI 2 0,vI 0 0,vI 0 0,vI 3 0,vR 109,vB true,vI 181 0,vR 110,vN,vR 111,vR 112,vR 113,vI 318 0,vI 34 0,qS "/claim/cut.py" 319]),
(115,fQ (.mk (sT "chain") (sT "chain") (L2.defArgs (top 15)) (FuncBody.stmts (L2.defBody (top 15))) (L2.defScope (top 15)) 3 [] vN vN vN (qS "labelways.plans" 290) .none (vR 114) vN 0)),
(121,cQ #[qS "chain_or_none" 321,qS "chain_or_none" 322,qS "/claim/cut.py" 323,vI 36 0,vI 2 0,vI 0 0,vI 0 0,vI 3 0,vR 116,vB true,vI 181 0,vR 117,vN,vR 118,vR 119,vR 120,vI 328 0,vI 36 0,qS "/claim/cut.py" 329]),
(122,fQ (.mk (sT "chain_or_none") (sT "chain_or_none") (L2.defArgs (top 16)) (FuncBody.stmts (L2.defBody (top 16))) (L2.defScope (top 16)) 3 [] vN vN vN (qS "labelways.plans" 290) .none (vR 121) vN 0)),
(128,cQ #[qS "plan_order" 331,qS "plan_order" 332,qS "/claim/cut.py" 333,vI 44 0,vI 1 0,vI 0 0,vI 0 0,vI 3 0,vR 123,vB true,vI 181 0,vR 124,vN,vR 125,vR 126,vR 127,vI 337 0,vI 44 0,qS "/claim/cut.py" 338]),
(129,fQ (.mk (sT "plan_order") (sT "plan_order") (L2.defArgs (top 17)) (FuncBody.stmts (L2.defBody (top 17))) (L2.defScope (top 17)) 3 [] vN vN vN (qS "labelways.plans" 290) .none (vR 128) vN 0)),
(133,cQ #[qS "deepest" 340,qS "deepest" 341,qS "/claim/cut.py" 342,vI 49 0,vI 1 0,vI 0 0,vI 0 0,vI 3 0,vR 130,vB true,vI 181 0,vR 131,vN,vN,vN,vR 132,vI 343 0,vI 49 0,qS "/claim/cut.py" 344]),
(134,fQ (.mk (sT "deepest") (sT "deepest") (L2.defArgs (top 18)) (FuncBody.stmts (L2.defBody (top 18))) (L2.defScope (top 18)) 3 [] vN vN vN (qS "labelways.plans" 290) .none (vR 133) vN 0)),
(140,cQ #[qS "lets_plan" 346,qS "lets_plan" 347,qS "/claim/cut.py" 348,vI 51 0,vI 2 0,vI 0 0,vI 0 0,vI 3 0,vR 135,vB true,vI 181 0,vR 136,vN,vR 137,vR 138,vR 139,vI 351 0,vI 51 0,qS "/claim/cut.py" 352]),
(141,fQ (.mk (sT "lets_plan") (sT "lets_plan") (L2.defArgs (top 19)) (FuncBody.stmts (L2.defBody (top 19))) (L2.defScope (top 19)) 3 [] vN vN vN (qS "labelways.plans" 290) .none (vR 140) vN 0)),
(147,cQ #[qS "refuse_at" 354,qS "refuse_at" 355,qS "/claim/cut.py" 356,vI 58 0,vI 2 0,vI 0 0,vI 0 0,vI 3 0,vR 142,vB true,vI 181 0,vR 143,vN,vR 144,vR 145,vR 146,vI 359 0,vI 58 0,qS "/claim/cut.py" 360]),
(148,fQ (.mk (sT "refuse_at") (sT "refuse_at") (L2.defArgs (top 20)) (FuncBody.stmts (L2.defBody (top 20))) (L2.defScope (top 20)) 3 [] vN vN vN (qS "labelways.plans" 290) .none (vR 147) vN 0)),
(154,cQ #[qS "place_fault" 362,qS "place_fault" 363,qS "/claim/cut.py" 364,vI 61 0,vI 2 0,vI 0 0,vI 0 0,vI 3 0,vR 149,vB true,vI 181 0,vR 150,vN,vR 151,vR 152,vR 153,vI 369 0,vI 61 0,qS "/claim/cut.py" 370]),
(155,fQ (.mk (sT "place_fault") (sT "place_fault") (L2.defArgs (top 21)) (FuncBody.stmts (L2.defBody (top 21))) (L2.defScope (top 21)) 3 [] vN vN vN (qS "labelways.plans" 290) .none (vR 154) vN 0)),
(159,cQ #[qS "lacks_fault" 372,qS "lacks_fault" 373,qS "/claim/cut.py" 374,vI 68 0,vI 2 0,vI 0 0,vI 0 0,vI 3 0,vR 156,vB true,vI 181 0,vR 157,vN,vN,vN,vR 158,vI 375 0,vI 68 0,qS "/claim/cut.py" 376]),
(160,fQ (.mk (sT "lacks_fault") (sT "lacks_fault") (L2.defArgs (top 22)) (FuncBody.stmts (L2.defBody (top 22))) (L2.defScope (top 22)) 3 [] vN vN vN (qS "labelways.plans" 290) .none (vR 159) vN 0)),
(164,cQ #[qS "tie_fault" 378,qS "tie_fault" 379,qS "/claim/cut.py" 380,vI 71 0,vI 2 0,vI 0 0,vI 0 0,vI 3 0,vR 161,vB true,vI 181 0,vR 162,vN,vN,vN,vR 163,vI 381 0,vI 71 0,qS "/claim/cut.py" 382]),
(165,fQ (.mk (sT "tie_fault") (sT "tie_fault") (L2.defArgs (top 23)) (FuncBody.stmts (L2.defBody (top 23))) (L2.defScope (top 23)) 3 [] vN vN vN (qS "labelways.plans" 290) .none (vR 164) vN 0)),
(171,cQ #[qS "ties_at" 386,qS "ties_at" 387,qS "/claim/cut.py" 388,vI 78 0,vI 2 0,vI 0 0,vI 0 0,vI 3 0,vR 166,vB true,vI 181 0,vR 167,vN,vR 168,vR 169,vR 170,vI 395 0,vI 78 0,qS "/claim/cut.py" 396]),
(172,fQ (.mk (sT "ties_at") (sT "ties_at") (L2.defArgs (top 25)) (FuncBody.stmts (L2.defBody (top 25))) (L2.defScope (top 25)) 3 [] vN vN vN (qS "labelways.webs" 384) .none (vR 171) vN 0)),
(176,cQ #[qS "lengths" 400,qS "lengths" 401,qS "/claim/cut.py" 402,vI 87 0,vI 1 0,vI 0 0,vI 0 0,vI 3 0,vR 173,vB true,vI 181 0,vR 174,vN,vN,vN,vR 175,vI 403 0,vI 87 0,qS "/claim/cut.py" 404]),
(177,fQ (.mk (sT "lengths") (sT "lengths") (L2.defArgs (top 27)) (FuncBody.stmts (L2.defBody (top 27))) (L2.defScope (top 27)) 3 [] vN vN vN (qS "labelways.lengths" 398) .none (vR 176) vN 0)),
(183,cQ #[qS "lengths_from" 406,qS "lengths_from" 407,qS "/claim/cut.py" 408,vI 89 0,vI 2 0,vI 0 0,vI 0 0,vI 3 0,vR 178,vB true,vI 181 0,vR 179,vN,vR 180,vR 181,vR 182,vI 417 0,vI 89 0,qS "/claim/cut.py" 418]),
(184,fQ (.mk (sT "lengths_from") (sT "lengths_from") (L2.defArgs (top 28)) (FuncBody.stmts (L2.defBody (top 28))) (L2.defScope (top 28)) 3 [] vN vN vN (qS "labelways.lengths" 398) .none (vR 183) vN 0)),
(190,cQ #[qS "nearest" 420,qS "nearest" 421,qS "/claim/cut.py" 422,vI 100 0,vI 1 0,vI 0 0,vI 0 0,vI 3 0,vR 185,vB true,vI 181 0,vR 186,vN,vR 187,vR 188,vR 189,vI 425 0,vI 100 0,qS "/claim/cut.py" 426]),
(191,fQ (.mk (sT "nearest") (sT "nearest") (L2.defArgs (top 29)) (FuncBody.stmts (L2.defBody (top 29))) (L2.defScope (top 29)) 3 [] vN vN vN (qS "labelways.lengths" 398) .none (vR 190) vN 0)),
(195,cQ #[qS "between_rows" 428,qS "between_rows" 429,qS "/claim/cut.py" 430,vI 102 0,vI 3 0,vI 0 0,vI 0 0,vI 3 0,vR 192,vB true,vI 181 0,vR 193,vN,vN,vN,vR 194,vI 431 0,vI 102 0,qS "/claim/cut.py" 432]),
(196,fQ (.mk (sT "between_rows") (sT "between_rows") (L2.defArgs (top 30)) (FuncBody.stmts (L2.defBody (top 30))) (L2.defScope (top 30)) 3 [] vN vN vN (qS "labelways.lengths" 398) .none (vR 195) vN 0)),
(200,cQ #[qS "next_by_row" 434,qS "next_by_row" 435,qS "/claim/cut.py" 436,vI 107 0,vI 3 0,vI 0 0,vI 0 0,vI 3 0,vR 197,vB true,vI 181 0,vR 198,vN,vN,vN,vR 199,vI 437 0,vI 107 0,qS "/claim/cut.py" 438]),
(201,fQ (.mk (sT "next_by_row") (sT "next_by_row") (L2.defArgs (top 31)) (FuncBody.stmts (L2.defBody (top 31))) (L2.defScope (top 31)) 3 [] vN vN vN (qS "labelways.lengths" 398) .none (vR 200) vN 0)),
(205,cQ #[qS "is_order" 442,qS "is_order" 443,qS "/claim/cut.py" 444,vI 112 0,vI 2 0,vI 0 0,vI 0 0,vI 3 0,vR 202,vB true,vI 181 0,vR 203,vN,vN,vN,vR 204,vI 445 0,vI 112 0,qS "/claim/cut.py" 446]),
(206,fQ (.mk (sT "is_order") (sT "is_order") (L2.defArgs (top 33)) (FuncBody.stmts (L2.defBody (top 33))) (L2.defScope (top 33)) 3 [] vN vN vN (qS "labelways.orders" 440) .none (vR 205) vN 0)),
(210,cQ #[qS "by_order" 448,qS "by_order" 449,qS "/claim/cut.py" 450,vI 117 0,vI 2 0,vI 0 0,vI 0 0,vI 3 0,vR 207,vB true,vI 181 0,vR 208,vN,vN,vN,vR 209,vI 451 0,vI 117 0,qS "/claim/cut.py" 452]),
(211,fQ (.mk (sT "by_order") (sT "by_order") (L2.defArgs (top 34)) (FuncBody.stmts (L2.defBody (top 34))) (L2.defScope (top 34)) 3 [] vN vN vN (qS "labelways.orders" 440) .none (vR 210) vN 0)),
(215,cQ #[qS "label_by_ranks" 454,qS "label_by_ranks" 455,qS "/claim/cut.py" 456,vI 123 0,vI 4 0,vI 0 0,vI 0 0,vI 3 0,vR 212,vB true,vI 181 0,vR 213,vN,vN,vN,vR 214,vI 457 0,vI 123 0,qS "/claim/cut.py" 458]),
(216,fQ (.mk (sT "label_by_ranks") (sT "label_by_ranks") (L2.defArgs (top 35)) (FuncBody.stmts (L2.defBody (top 35))) (L2.defScope (top 35)) 3 [] vN vN vN (qS "labelways.orders" 440) .none (vR 215) vN 0)),
(220,cQ #[qS "is_hub" 460,qS "is_hub" 461,qS "/claim/cut.py" 462,vI 126 0,vI 4 0,vI 0 0,vI 0 0,vI 3 0,vR 217,vB true,vI 181 0,vR 218,vN,vN,vN,vR 219,vI 463 0,vI 126 0,qS "/claim/cut.py" 464]),
(221,fQ (.mk (sT "is_hub") (sT "is_hub") (L2.defArgs (top 36)) (FuncBody.stmts (L2.defBody (top 36))) (L2.defScope (top 36)) 3 [] vN vN vN (qS "labelways.orders" 440) .none (vR 220) vN 0)),
(227,cQ #[qS "entry_by_rows" 466,qS "entry_by_rows" 467,qS "/claim/cut.py" 468,vI 130 0,vI 4 0,vI 0 0,vI 0 0,vI 3 0,vR 222,vB true,vI 181 0,vR 223,vN,vR 224,vR 225,vR 226,vI 475 0,vI 130 0,qS "/claim/cut.py" 476]),
(228,fQ (.mk (sT "entry_by_rows") (sT "entry_by_rows") (L2.defArgs (top 37)) (FuncBody.stmts (L2.defBody (top 37))) (L2.defScope (top 37)) 3 [] vN vN vN (qS "labelways.orders" 440) .none (vR 227) vN 0)),
(234,cQ #[qS "_law_tape" 480,qS "_law_tape" 481,qS "/claim/cut.py" 482,vI 135 0,vI 1 0,vI 0 0,vI 0 0,vI 3 0,vR 229,vB true,vI 181 0,vR 230,vN,vR 231,vR 232,vR 233,vI 484 0,vI 135 0,qS "/claim/cut.py" 485]),
(235,fT "_law_tape" 39 (qS "law_labelways_k40_whole_hubs_stand_in_chains" 478) 234),
(241,cQ #[qS "_law_draw" 487,qS "_law_draw" 488,qS "/claim/cut.py" 489,vI 137 0,vI 2 0,vI 0 0,vI 0 0,vI 3 0,vR 236,vB true,vI 181 0,vR 237,vN,vR 238,vR 239,vR 240,vI 496 0,vI 137 0,qS "/claim/cut.py" 497]),
(242,fT "_law_draw" 40 (qS "law_labelways_k40_whole_hubs_stand_in_chains" 478) 241),
(248,cQ #[qS "_law_n" 499,qS "_law_n" 500,qS "/claim/cut.py" 501,vI 150 0,vI 1 0,vI 0 0,vI 0 0,vI 3 0,vR 243,vB true,vI 181 0,vR 244,vN,vR 245,vR 246,vR 247,vI 503 0,vI 150 0,qS "/claim/cut.py" 504]),
(249,fT "_law_n" 41 (qS "law_labelways_k40_whole_hubs_stand_in_chains" 478) 248),
(253,cQ #[qS "_law_web" 506,qS "_law_web" 507,qS "/claim/cut.py" 508,vI 152 0,vI 2 0,vI 0 0,vI 0 0,vI 3 0,vR 250,vB true,vI 181 0,vR 251,vN,vN,vN,vR 252,vI 509 0,vI 152 0,qS "/claim/cut.py" 510]),
(254,fT "_law_web" 42 (qS "law_labelways_k40_whole_hubs_stand_in_chains" 478) 253),
(260,cQ #[qS "_law_flat" 512,qS "_law_flat" 513,qS "/claim/cut.py" 514,vI 164 0,vI 1 0,vI 0 0,vI 0 0,vI 3 0,vR 255,vB true,vI 181 0,vR 256,vN,vR 257,vR 258,vR 259,vI 518 0,vI 164 0,qS "/claim/cut.py" 519]),
(261,fT "_law_flat" 43 (qS "law_labelways_k40_whole_hubs_stand_in_chains" 478) 260),
(265,cQ #[qS "_law_chain" 521,qS "_law_chain" 522,qS "/claim/cut.py" 523,vI 169 0,vI 2 0,vI 0 0,vI 0 0,vI 3 0,vR 262,vB true,vI 181 0,vR 263,vN,vN,vN,vR 264,vI 524 0,vI 169 0,qS "/claim/cut.py" 525]),
(266,fT "_law_chain" 44 (qS "law_labelways_k40_whole_hubs_stand_in_chains" 478) 265),
(270,cQ #[qS "_law_beside" 527,qS "_law_beside" 528,qS "/claim/cut.py" 529,vI 177 0,vI 1 0,vI 0 0,vI 0 0,vI 3 0,vR 267,vB true,vI 181 0,vR 268,vN,vN,vN,vR 269,vI 530 0,vI 177 0,qS "/claim/cut.py" 531]),
(271,fT "_law_beside" 45 (qS "law_labelways_k40_whole_hubs_stand_in_chains" 478) 270),
(275,cQ #[qS "_law_parts" 533,qS "_law_parts" 534,qS "/claim/cut.py" 535,vI 183 0,vI 2 0,vI 0 0,vI 0 0,vI 3 0,vR 272,vB true,vI 181 0,vR 273,vN,vN,vN,vR 274,vI 536 0,vI 183 0,qS "/claim/cut.py" 537]),
(276,fT "_law_parts" 46 (qS "law_labelways_k40_whole_hubs_stand_in_chains" 478) 275),
(280,cQ #[qS "_law_right_plan" 539,qS "_law_right_plan" 540,qS "/claim/cut.py" 541,vI 195 0,vI 3 0,vI 0 0,vI 0 0,vI 3 0,vR 277,vB true,vI 181 0,vR 278,vN,vN,vN,vR 279,vI 542 0,vI 195 0,qS "/claim/cut.py" 543]),
(281,fT "_law_right_plan" 47 (qS "law_labelways_k40_whole_hubs_stand_in_chains" 478) 280),
(285,cQ #[qS "_law_called" 545,qS "_law_called" 546,qS "/claim/cut.py" 547,vI 206 0,vI 2 0,vI 0 0,vI 0 0,vI 3 0,vR 282,vB true,vI 181 0,vR 283,vN,vN,vN,vR 284,vI 548 0,vI 206 0,qS "/claim/cut.py" 549]),
(286,fT "_law_called" 48 (qS "law_labelways_k40_whole_hubs_stand_in_chains" 478) 285),
(292,cQ #[qS "_law_plan_turned" 551,qS "_law_plan_turned" 552,qS "/claim/cut.py" 553,vI 209 0,vI 3 0,vI 0 0,vI 0 0,vI 3 0,vR 287,vB true,vI 181 0,vR 288,vN,vR 289,vR 290,vR 291,vI 561 0,vI 209 0,qS "/claim/cut.py" 562]),
(293,fT "_law_plan_turned" 49 (qS "law_labelways_k40_whole_hubs_stand_in_chains" 478) 292),
(299,cQ #[qS "_law_let" 564,qS "_law_let" 565,qS "/claim/cut.py" 566,vI 227 0,vI 2 0,vI 0 0,vI 0 0,vI 3 0,vR 294,vB true,vI 181 0,vR 295,vN,vR 296,vR 297,vR 298,vI 570 0,vI 227 0,qS "/claim/cut.py" 571]),
(300,fT "_law_let" 50 (qS "law_labelways_k40_whole_hubs_stand_in_chains" 478) 299),
(304,cQ #[qS "_law_hubs_right" 573,qS "_law_hubs_right" 574,qS "/claim/cut.py" 575,vI 234 0,vI 2 0,vI 0 0,vI 0 0,vI 3 0,vR 301,vB true,vI 181 0,vR 302,vN,vN,vN,vR 303,vI 576 0,vI 234 0,qS "/claim/cut.py" 577]),
(305,fT "_law_hubs_right" 51 (qS "law_labelways_k40_whole_hubs_stand_in_chains" 478) 304),
(311,cQ #[qS "law" 579,qS "law" 580,qS "/claim/cut.py" 581,vI 246 0,vI 1 0,vI 0 0,vI 0 0,vI 3 0,vR 306,vB true,vI 181 0,vR 307,vN,vR 308,vR 309,vR 310,vI 588 0,vI 246 0,qS "/claim/cut.py" 589]),
(312,fT "law" 52 (qS "law_labelways_k40_whole_hubs_stand_in_chains" 478) 311)]
noncomputable def Ka:List Addr:=[2,3,23,24,25,40,41,43,44,55,56,64,65,71,72,78,79,83,84,90,91,97,98,102,103,107,108,114,115,121,122,128,129,133,134,140,141,147,148,154,155,159,160,164,165,171,172,176,177,183,184,190,191,195,196,200,201,205,206,210,211,215,216,220,221,227,228,234,235,241,242,248,249,253,254,260,261,265,266,270,271,275,276,280,281,285,286,292,293,299,300,304,305,311,312]
theorem fkM {K:PySem.W.Frag}(x q:Str)(st:Stmt)(f:Addr)(pm cd:Value)(l:K.lookup f=some ⟨.type "function",.none,.func (PySem.W.fnOf x q (defArgs st) (defBody st) (defScope st) .none .none .none pm .none cd .none),#[]⟩:=by kernel_rfl) (c:PySem.W.codeIn K cd q=true:=by kernel_rfl)(k:PySem.W.keepIn K (.ref f)=true:=by kernel_rfl):Fun K x q st f (PySem.W.fnOf x q (defArgs st) (defBody st) (defScope st) .none .none .none pm .none cd .none):=zLG l c k
theorem zIL:∀{us:List Value},us.length=1->∃u0,us=[u0]
 | [u0],_=>⟨u0,rfl⟩
theorem zEn:∀{us:List Value},us.length=2->∃u0 u1,us=[u0,u1]
 | [u0,u1],_=>⟨u0,u1,rfl⟩
theorem usl3:∀{us:List Value},us.length=3->∃u0 u1 u2,us=[u0,u1,u2]
 | [u0,u1,u2],_=>⟨u0,u1,u2,rfl⟩
theorem usl4:∀{us:List Value},us.length=4->∃u0 u1 u2 u3,us=[u0,u1,u2,u3]
 | [u0,u1,u2,u3],_=>⟨u0,u1,u2,u3,rfl⟩
theorem walk {l:PySem.W.OpenLaw}{q:Program}{loose:List Str}{XP:(Str->Option Value)->Heap->Prop}{YP:World->Heap->Prop}{d:DefRec}{K:Params->PySem.W.Frag}(hn:l.most=some 63)(hdf:d.params.defaults=[])(hrec:∃dn,(PyProof.Rows.recsOf q).find? (fun e=>e.name==("nearest" : Str))=some dn)
 (hY:∀(w:World)(h:Heap),YP w h->(K w.params).In h)
 (F:∀(w:World)(mg:Str->Option Value)(fa:Addr)(h:Heap),(K w.params).In h->h.Ns mainGlobals mg->mg d.name=some (.ref fa) ->
  ∃(fd:FuncData)(c P:Addr),PySem.W.tabIn (K w.params) "nearest" = some (c,P)/\PySem.W.noTabs (K w.params)=true/\(∀(s:Shared)(u:Value),BindsTo s fd ⟨[u],[]⟩ [("_law_script",u)])/\∀base:Heap,(K w.params).In base->base.Ns mainGlobals mg->zJy mg base->zAi l.prog w (K w.params) mg base CX0 40 fa fd ["_law_script"] (zKA (K w.params) P)) :
 PySem.W.WalkO q loose XP YP l.row.toRowW d [] (fun f vs=>PySem.call f vs):=
 L2.walk_T (n:=63) (k:=40) (x := "_law_script") (tn := "nearest") (CX:=CX0) (sp:=zKA) hn (by decide) hdf ⟨rfl,by decide,by decide,rfl⟩ hrec hY F (fun _ _ _ a ns hl hP hS=>⟨a,ns,rfl,hS,hl,hP,fun _=>rfl⟩) fun _ _ _ _ z=>z
theorem fk {K:PySem.W.Frag}(x:Str)(st:Stmt)(f:Addr)(pm cd:Value)(l:K.lookup f=some ⟨.type "function",.none,.func (PySem.W.fnOf x x (defArgs st) (defBody st) (defScope st) .none .none .none pm .none cd .none),#[]⟩:=by kernel_rfl) (c:PySem.W.codeIn K cd x=true:=by kernel_rfl)(k:PySem.W.keepIn K (.ref f)=true:=by kernel_rfl):Fun K x x st f (PySem.W.fnOf x x (defArgs st) (defBody st) (defScope st) .none .none .none pm .none cd .none):=zLG l c k
theorem fkC {K:PySem.W.Frag}(x:Str)(st:Stmt)(f:Addr)(pm:Value)(cc:Addr)(l:K.lookup f=some ⟨.type "function",.none,.func (PySem.W.fnOf x x (defArgs st) (defBody st) (defScope st) .none .none .none pm .none (.ref cc) .none),#[]⟩:=by kernel_rfl) (c:PySem.W.codeIn K (.ref cc) x=true:=by kernel_rfl)(k:PySem.W.keepIn K (.ref f)=true:=by kernel_rfl):zKq K x x st f (PySem.W.fnOf x x (defArgs st) (defBody st) (defScope st) .none .none .none pm .none (.ref cc) .none) cc:=zMB l c k
noncomputable abbrev pw:Program:=PySem.Challenge.pw_labelways_k40_whole_hubs_stand_in_chains
noncomputable def V:Program:={ pw with main:={ pw.main with body:=[top 1,top 2,top 3,top 5,top 6,top 7,top 8,top 9,top 11,top 12,top 13,top 14,top 15,top 16,top 17,top 18,top 19,top 20,top 21,top 22,top 23,top 25,top 27,top 28,top 29,top 30,top 31,top 33,top 34,top 35,top 36,top 37,top 39,top 40,top 41,top 42,top 43,top 44,top 45,top 46,top 47,top 48,top 49,top 50,top 51,top 52] } }
noncomputable abbrev RR:PySem.W.RowW:=PySem.W.OpenRow.toRowW (PySem.Challenge.rw_labelways_k40_whole_hubs_stand_in_chains).row
theorem Ke:∀P,Ka=(Kf P).map (·.1):=fun P=>by kernel_rfl
noncomputable abbrev HK:PySem.W.Hook:=PySem.W.kHook Kf Ka Ke
theorem left:PySem.W.LeftO pw V [] (fun s=>PySem.W.xlAt V [] s && PySem.W.recOk (PySem.W.RowW.records RR) s) (PySem.W.Hook.obs HK) (PySem.W.Hook.val HK) 3984:=L2.left_of (by kernel_rfl) (by decide) (fun _=>rfl) fun w os=>by kernel_rfl
noncomputable def dL:DefRec:={ name := "law",params:=defArgs sLaw,body:=defBody sLaw,scope:=defScope sLaw,pos:=⟨246,0,257,15⟩ }
theorem facts (w:World)(mg:Str->Option Value)(fa:Addr)(h:Heap)(KX:(Kf w.params).In h)(G:h.Ns mainGlobals mg)(hmg:mg "law" = some (.ref fa)):∃(fd:FuncData)(c P:Addr),PySem.W.tabIn (Kf w.params) "nearest" = some (c,P)/\PySem.W.noTabs (Kf w.params)=true/\(∀(s:Shared)(u:Value),BindsTo s fd ⟨[u],[]⟩ [("_law_script",u)])/\∀base:Heap,(Kf w.params).In base->base.Ns mainGlobals mg->zJy mg base->zAi (PySem.Challenge.rw_labelways_k40_whole_hubs_stand_in_chains).prog w (Kf w.params) mg base CX0 40 fa fd ["_law_script"] (zKA (Kf w.params) P):=by
 have mk:∀(x:Str)(f:Addr),PySem.W.nsIn (Kf w.params) mainGlobals x=some (some (.ref f))->mg x=some (.ref f):=fun x f e=>PySem.W.mg_of KX G e
 have mn:∀x:Str,PySem.W.nsIn (Kf w.params) mainGlobals x=some none->mg x=none:=fun x e=>PySem.W.mg_none_of KX G e
 have FTa:=fk (K:=Kf w.params) "_law_tape" zKF 235 (qS "law_labelways_k40_whole_hubs_stand_in_chains" 478) (vR 234)
 have bTa:=FTa.binds (ps:=["_law_script"]) fun _ _ _ _ _ _ us hl=>by obtain⟨u0,rfl⟩:=zIL hl;rfl
 have mTa:=mk "_law_tape" 235 (by kernel_rfl)
 have FD:=fk (K:=Kf w.params) "_law_draw" zFH 242 (qS "law_labelways_k40_whole_hubs_stand_in_chains" 478) (vR 241)
 have bD:=FD.binds (ps:=["_law_tape_here", "_law_many"]) fun _ _ _ _ _ _ us hl=>by obtain⟨u0,u1,rfl⟩:=zEn hl;rfl
 have mD:=mk "_law_draw" 242 (by kernel_rfl)
 have FN:=fk (K:=Kf w.params) "_law_n" sN 249 (qS "law_labelways_k40_whole_hubs_stand_in_chains" 478) (vR 248)
 have bN:=FN.binds (ps:=["_law_tape_here"]) fun _ _ _ _ _ _ us hl=>by obtain⟨u0,rfl⟩:=zIL hl;rfl
 have mN:=mk "_law_n" 249 (by kernel_rfl)
 have FW:=fk (K:=Kf w.params) "_law_web" sWeb 254 (qS "law_labelways_k40_whole_hubs_stand_in_chains" 478) (vR 253)
 have bW:=FW.binds (ps:=["_law_tape_here", "_law_n_here"]) fun _ _ _ _ _ _ us hl=>by obtain⟨u0,u1,rfl⟩:=zEn hl;rfl
 have mW:=mk "_law_web" 254 (by kernel_rfl)
 have FT:=fk (K:=Kf w.params) "ties_at" zGk 172 (qS "labelways.webs" 384) (vR 171)
 have bT:=FT.binds (ps:=["web", "place"]) fun _ _ _ _ _ _ us hl=>by obtain⟨u0,u1,rfl⟩:=zEn hl;rfl
 have mT:=mk "ties_at" 172 (by kernel_rfl)
 have FNe:=fkC (K:=Kf w.params) "nearest" zIk 191 (qS "labelways.lengths" 398) 190
 have bNe:=FNe.fn.binds (ps:=["waiting"]) fun _ _ _ _ _ _ us hl=>by obtain⟨u0,rfl⟩:=zIL hl;rfl
 have mNe:=mk "nearest" 191 (by kernel_rfl)
 have FF:=fk (K:=Kf w.params) "lengths_from" zIn 184 (qS "labelways.lengths" 398) (vR 183)
 have bF:=FF.binds (ps:=["web", "start"]) fun _ _ _ _ _ _ us hl=>by obtain⟨u0,u1,rfl⟩:=zEn hl;rfl
 have mF:=mk "lengths_from" 184 (by kernel_rfl)
 have FLe:=fk (K:=Kf w.params) "lengths" zIm 177 (qS "labelways.lengths" 398) (vR 176)
 have bLe:=FLe.binds (ps:=["web"]) fun _ _ _ _ _ _ us hl=>by obtain⟨u0,rfl⟩:=zIL hl;rfl
 have mLe:=mk "lengths" 177 (by kernel_rfl)
 have FBw:=fk (K:=Kf w.params) "between_rows" sBwr 196 (qS "labelways.lengths" 398) (vR 195)
 have bBw:=FBw.binds (ps:=["here", "there", "other"]) fun _ _ _ _ _ _ us hl=>by obtain⟨u0,u1,u2,rfl⟩:=usl3 hl;rfl
 have mBw:=mk "between_rows" 196 (by kernel_rfl)
 have FNb:=fk (K:=Kf w.params) "next_by_row" sNbr 201 (qS "labelways.lengths" 398) (vR 200)
 have bNb:=FNb.binds (ps:=["web", "one", "there"]) fun _ _ _ _ _ _ us hl=>by obtain⟨u0,u1,u2,rfl⟩:=usl3 hl;rfl
 have mNb:=mk "next_by_row" 201 (by kernel_rfl)
 have FNu:=fk (K:=Kf w.params) "is_number" zKG 65 (qS "labelways.kinds" 250) (vR 64)
 have bNu:=FNu.binds (ps:=["thing"]) fun _ _ _ _ _ _ us hl=>by obtain⟨u0,rfl⟩:=zIL hl;rfl
 have mNu:=mk "is_number" 65 (by kernel_rfl)
 have FWi:=fk (K:=Kf w.params) "is_within" sWi 72 (qS "labelways.kinds" 250) (vR 71)
 have bWi:=FWi.binds (ps:=["thing", "least", "most"]) fun _ _ _ _ _ _ us hl=>by obtain⟨u0,u1,u2,rfl⟩:=usl3 hl;rfl
 have mWi:=mk "is_within" 72 (by kernel_rfl)
 have FPl:=fk (K:=Kf w.params) "is_place" sPl 91 (qS "labelways.kinds" 250) (vR 90)
 have bPl:=FPl.binds (ps:=["n", "thing"]) fun _ _ _ _ _ _ us hl=>by obtain⟨u0,u1,rfl⟩:=zEn hl;rfl
 have mPl:=mk "is_place" 91 (by kernel_rfl)
 have FTo:=fk (K:=Kf w.params) "is_tuple_of" sTof 79 (qS "labelways.kinds" 250) (vR 78)
 have bTo:=FTo.binds (ps:=["thing", "count"]) fun _ _ _ _ _ _ us hl=>by obtain⟨u0,u1,rfl⟩:=zEn hl;rfl
 have mTo:=mk "is_tuple_of" 79 (by kernel_rfl)
 have FRs:=fk (K:=Kf w.params) "is_rising" sRis 84 (qS "labelways.kinds" 250) (vR 83)
 have bRs:=FRs.binds (ps:=["things"]) fun _ _ _ _ _ _ us hl=>by obtain⟨u0,rfl⟩:=zIL hl;rfl
 have mRs:=mk "is_rising" 84 (by kernel_rfl)
 have FIo:=fk (K:=Kf w.params) "is_order" sOrd 206 (qS "labelways.orders" 440) (vR 205)
 have bIo:=FIo.binds (ps:=["web", "thing"]) fun _ _ _ _ _ _ us hl=>by obtain⟨u0,u1,rfl⟩:=zEn hl;rfl
 have mIo:=mk "is_order" 206 (by kernel_rfl)
 have FBy:=fk (K:=Kf w.params) "by_order" sByo 211 (qS "labelways.orders" 440) (vR 210)
 have bBy:=FBy.binds (ps:=["web", "order"]) fun _ _ _ _ _ _ us hl=>by obtain⟨u0,u1,rfl⟩:=zEn hl;rfl
 have mBy:=mk "by_order" 211 (by kernel_rfl)
 have FLb:=fk (K:=Kf w.params) "label_by_ranks" sLbr 216 (qS "labelways.orders" 440) (vR 215)
 have bLb:=FLb.binds (ps:=["web", "rows", "ranks", "place"]) fun _ _ _ _ _ _ us hl=>by obtain⟨u0,u1,u2,u3,rfl⟩:=usl4 hl;rfl
 have mLb:=mk "label_by_ranks" 216 (by kernel_rfl)
 have FIh:=fk (K:=Kf w.params) "is_hub" sIsh 221 (qS "labelways.orders" 440) (vR 220)
 have bIh:=FIh.binds (ps:=["rows", "ranks", "hub", "place"]) fun _ _ _ _ _ _ us hl=>by obtain⟨u0,u1,u2,u3,rfl⟩:=usl4 hl;rfl
 have mIh:=mk "is_hub" 221 (by kernel_rfl)
 have FEb:=fk (K:=Kf w.params) "entry_by_rows" sEbr 228 (qS "labelways.orders" 440) (vR 227)
 have bEb:=FEb.binds (ps:=["web", "rows", "place", "hub"]) fun _ _ _ _ _ _ us hl=>by obtain⟨u0,u1,u2,u3,rfl⟩:=usl4 hl;rfl
 have mEb:=mk "entry_by_rows" 228 (by kernel_rfl)
 have FIp:=fk (K:=Kf w.params) "is_plan" sIp 98 (qS "labelways.plans" 290) (vR 97)
 have bIp:=FIp.binds (ps:=["thing"]) fun _ _ _ _ _ _ us hl=>by obtain⟨u0,rfl⟩:=zIL hl;rfl
 have mIp:=mk "is_plan" 98 (by kernel_rfl)
 have FPw:=fk (K:=Kf w.params) "is_plan_within" sPw 103 (qS "labelways.plans" 290) (vR 102)
 have bPw:=FPw.binds (ps:=["thing", "most"]) fun _ _ _ _ _ _ us hl=>by obtain⟨u0,u1,rfl⟩:=zEn hl;rfl
 have mPw:=mk "is_plan_within" 103 (by kernel_rfl)
 have FPp:=fk (K:=Kf w.params) "are_plan_places" sPp 108 (qS "labelways.plans" 290) (vR 107)
 have bPp:=FPp.binds (ps:=["thing"]) fun _ _ _ _ _ _ us hl=>by obtain⟨u0,rfl⟩:=zIL hl;rfl
 have mPp:=mk "are_plan_places" 108 (by kernel_rfl)
 have FCh:=fk (K:=Kf w.params) "chain" sCh 115 (qS "labelways.plans" 290) (vR 114)
 have bCh:=FCh.binds (ps:=["plan", "place"]) fun _ _ _ _ _ _ us hl=>by obtain⟨u0,u1,rfl⟩:=zEn hl;rfl
 have mCh:=mk "chain" 115 (by kernel_rfl)
 have FCo:=fk (K:=Kf w.params) "chain_or_none" sCo 122 (qS "labelways.plans" 290) (vR 121)
 have bCo:=FCo.binds (ps:=["plan", "place"]) fun _ _ _ _ _ _ us hl=>by obtain⟨u0,u1,rfl⟩:=zEn hl;rfl
 have mCo:=mk "chain_or_none" 122 (by kernel_rfl)
 have FPo:=fk (K:=Kf w.params) "plan_order" sPo 129 (qS "labelways.plans" 290) (vR 128)
 have bPo:=FPo.binds (ps:=["plan"]) fun _ _ _ _ _ _ us hl=>by obtain⟨u0,rfl⟩:=zIL hl;rfl
 have mPo:=mk "plan_order" 129 (by kernel_rfl)
 have FDe:=fk (K:=Kf w.params) "deepest" sDe 134 (qS "labelways.plans" 290) (vR 133)
 have bDe:=FDe.binds (ps:=["plan"]) fun _ _ _ _ _ _ us hl=>by obtain⟨u0,rfl⟩:=zIL hl;rfl
 have mDe:=mk "deepest" 134 (by kernel_rfl)
 have FLt:=fk (K:=Kf w.params) "lets_plan" zIl 141 (qS "labelways.plans" 290) (vR 140)
 have bLt:=FLt.binds (ps:=["web", "thing"]) fun _ _ _ _ _ _ us hl=>by obtain⟨u0,u1,rfl⟩:=zEn hl;rfl
 have mLt:=mk "lets_plan" 141 (by kernel_rfl)
 have FRa:=fk (K:=Kf w.params) "refuse_at" zIj 148 (qS "labelways.plans" 290) (vR 147)
 have bRa:=FRa.binds (ps:=["word", "at"]) fun _ _ _ _ _ _ us hl=>by obtain⟨u0,u1,rfl⟩:=zEn hl;rfl
 have mRa:=mk "refuse_at" 148 (by kernel_rfl)
 have FPf:=fk (K:=Kf w.params) "place_fault" sPf 155 (qS "labelways.plans" 290) (vR 154)
 have bPf:=FPf.binds (ps:=["web", "plan"]) fun _ _ _ _ _ _ us hl=>by obtain⟨u0,u1,rfl⟩:=zEn hl;rfl
 have mPf:=mk "place_fault" 155 (by kernel_rfl)
 have FLk:=fk (K:=Kf w.params) "lacks_fault" sLk 160 (qS "labelways.plans" 290) (vR 159)
 have bLk:=FLk.binds (ps:=["web", "plan"]) fun _ _ _ _ _ _ us hl=>by obtain⟨u0,u1,rfl⟩:=zEn hl;rfl
 have mLk:=mk "lacks_fault" 160 (by kernel_rfl)
 have FTf:=fk (K:=Kf w.params) "tie_fault" sTf 165 (qS "labelways.plans" 290) (vR 164)
 have bTf:=FTf.binds (ps:=["web", "plan"]) fun _ _ _ _ _ _ us hl=>by obtain⟨u0,u1,rfl⟩:=zEn hl;rfl
 have mTf:=mk "tie_fault" 165 (by kernel_rfl)
 have FLf:=fk (K:=Kf w.params) "_law_flat" sLf 261 (qS "law_labelways_k40_whole_hubs_stand_in_chains" 478) (vR 260)
 have bLf:=FLf.binds (ps:=["_law_plan"]) fun _ _ _ _ _ _ us hl=>by obtain⟨u0,rfl⟩:=zIL hl;rfl
 have mLf:=mk "_law_flat" 261 (by kernel_rfl)
 have FLc:=fk (K:=Kf w.params) "_law_chain" sLc 266 (qS "law_labelways_k40_whole_hubs_stand_in_chains" 478) (vR 265)
 have bLc:=FLc.binds (ps:=["_law_plan", "_law_place"]) fun _ _ _ _ _ _ us hl=>by obtain⟨u0,u1,rfl⟩:=zEn hl;rfl
 have mLc:=mk "_law_chain" 266 (by kernel_rfl)
 have FBe:=fk (K:=Kf w.params) "_law_beside" sBes 271 (qS "law_labelways_k40_whole_hubs_stand_in_chains" 478) (vR 270)
 have bBe:=FBe.binds (ps:=["_law_web_here"]) fun _ _ _ _ _ _ us hl=>by obtain⟨u0,rfl⟩:=zIL hl;rfl
 have mBe:=mk "_law_beside" 271 (by kernel_rfl)
 have FPa:=fk (K:=Kf w.params) "_law_parts" sPar 276 (qS "law_labelways_k40_whole_hubs_stand_in_chains" 478) (vR 275)
 have bPa:=FPa.binds (ps:=["_law_beside_each", "_law_places"]) fun _ _ _ _ _ _ us hl=>by obtain⟨u0,u1,rfl⟩:=zEn hl;rfl
 have mPa:=mk "_law_parts" 276 (by kernel_rfl)
 have FRp:=fk (K:=Kf w.params) "_law_right_plan" sRpl 281 (qS "law_labelways_k40_whole_hubs_stand_in_chains" 478) (vR 280)
 have bRp:=FRp.binds (ps:=["_law_tape_here", "_law_beside_each", "_law_places"]) fun _ _ _ _ _ _ us hl=>by obtain⟨u0,u1,u2,rfl⟩:=usl3 hl;rfl
 have mRp:=mk "_law_right_plan" 281 (by kernel_rfl)
 have FCa:=fk (K:=Kf w.params) "_law_called" sCal 286 (qS "law_labelways_k40_whole_hubs_stand_in_chains" 478) (vR 285)
 have bCa:=FCa.binds (ps:=["_law_plan", "_law_names"]) fun _ _ _ _ _ _ us hl=>by obtain⟨u0,u1,rfl⟩:=zEn hl;rfl
 have mCa:=mk "_law_called" 286 (by kernel_rfl)
 have FPt:=fk (K:=Kf w.params) "_law_plan_turned" sPtu 293 (qS "law_labelways_k40_whole_hubs_stand_in_chains" 478) (vR 292)
 have bPt:=FPt.binds (ps:=["_law_tape_here", "_law_plan", "_law_n_here"]) fun _ _ _ _ _ _ us hl=>by obtain⟨u0,u1,u2,rfl⟩:=usl3 hl;rfl
 have mPt:=mk "_law_plan_turned" 293 (by kernel_rfl)
 have FLv:=fk (K:=Kf w.params) "_law_let" sLet 300 (qS "law_labelways_k40_whole_hubs_stand_in_chains" 478) (vR 299)
 have bLv:=FLv.binds (ps:=["_law_web_here", "_law_plan"]) fun _ _ _ _ _ _ us hl=>by obtain⟨u0,u1,rfl⟩:=zEn hl;rfl
 have mLv:=mk "_law_let" 300 (by kernel_rfl)
 have FHr:=fk (K:=Kf w.params) "_law_hubs_right" sHub 305 (qS "law_labelways_k40_whole_hubs_stand_in_chains" 478) (vR 304)
 have bHr:=FHr.binds (ps:=["_law_web_here", "_law_plan"]) fun _ _ _ _ _ _ us hl=>by obtain⟨u0,u1,rfl⟩:=zEn hl;rfl
 have mHr:=mk "_law_hubs_right" 305 (by kernel_rfl)
 have FZ:=fk (K:=Kf w.params) "law" sLaw 312 (qS "law_labelways_k40_whole_hubs_stand_in_chains" 478) (vR 311)
 have mb0:=mn "len" (by kernel_rfl)
 have mb1:=mn "range" (by kernel_rfl)
 have mb2:=mn "tuple" (by kernel_rfl)
 have mb3:=mn "sorted" (by kernel_rfl)
 have mb4:=mn "min" (by kernel_rfl)
 have mb5:=mn "max" (by kernel_rfl)
 have mb6:=mn "repr" (by kernel_rfl)
 have mb7:=mn "list" (by kernel_rfl)
 have mb8:=mn "isinstance" (by kernel_rfl)
 have mb9:=mn "int" (by kernel_rfl)
 have mb10:=mn "bool" (by kernel_rfl)
 have mb11:=mn "all" (by kernel_rfl)
 have mb12:=mn "set" (by kernel_rfl)
 have e:=hmg.symm.trans (mk "law" 312 (by kernel_rfl))
 cases e
 have FI:=fkM (K:=Kf w.params) "__init__" "NoPlan.__init__" sI1 41 (qS "labelways.errors" 187) (vR 40)
 have bI:=FI.binds (ps:=["self", "word", "at"]) fun _ _ _ _ _ _ us hl=>by obtain⟨u0,u1,u2,rfl⟩:=usl3 hl;rfl
 have mC:mg "NoPlan" = some (.ref 44):=mk "NoPlan" 44 (by kernel_rfl)
 have EI:zG8 (Kf w.params) 44 41:=⟨by kernel_rfl,by kernel_rfl,by kernel_rfl,by kernel_rfl,by kernel_rfl⟩
 have sb:L2.subIn (Kf w.params) 44 44=true:=by kernel_rfl
 have mo:PySem.W.mroIn (Kf w.params) 44 (.type "object")=some true:=by kernel_rfl
 have i1:PySem.W.findIn (Kf w.params) (.ref 44) "word" = some none:=by kernel_rfl
 have i2:PySem.W.findIn (Kf w.params) (.ref 44) "at" = some none:=by kernel_rfl
 have mMW:mg "MOST_WITHIN" = some (.int 24 292):=PySem.W.mg_of KX G (by kernel_rfl)
 exact⟨_,190,186,by kernel_rfl,by kernel_rfl,fun s v=>.of_eq rfl,fun base hb _ hbm=>ok_law FZ (PySem.W.codeHd_of_K hb (show PySem.W.codeHdIn (Kf w.params) 190 186=true by kernel_rfl)) hbm mC EI sb FI bI mo i1 i2 mMW FTa bTa mTa FD bD mD FN bN mN FW bW mW FT bT mT FNe bNe mNe FF bF mF FLe bLe mLe FBw bBw mBw FNb bNb mNb FNu bNu mNu FWi bWi mWi FPl bPl mPl FTo bTo mTo FRs bRs mRs FIo bIo mIo FBy bBy mBy FLb bLb mLb FIh bIh mIh FEb bEb mEb FIp bIp mIp FPw bPw mPw FPp bPp mPp FCh bCh mCh FCo bCo mCo FPo bPo mPo FDe bDe mDe FLt bLt mLt FRa bRa mRa FPf bPf mPf FLk bLk mLk FTf bTf mTf FLf bLf mLf FLc bLc mLc FBe bBe mBe FPa bPa mPa FRp bRp mRp FCa bCa mCa FPt bPt mPt FLv bLv mLv FHr bHr mHr mb0 mb1 mb2 mb3 mb4 mb5 mb6 mb7 mb8 mb9 mb10 mb11 mb12⟩
end K40
open PySem PySem.W PyProof.Rows
set_option maxRecDepth 100000 in
set_option maxHeartbeats 0 in
theorem PySem.Challenge.cw_labelways_k40_whole_hubs_stand_in_chains_holds : PySem.Challenge.rw_labelways_k40_whole_hubs_stand_in_chains.Holds := by
 refine holds_law (by decide +kernel) fun said=>?_
 refine holds_open (q:=K40.V) (loose:=[]) (Xt:=fun s=>xlAt K40.V [] s && recOk (RowW.records K40.RR) s) (XP:=XL K40.V []) (Yf:=Hook.obs K40.HK) (Ya:=Hook.val K40.HK) (YP:=Hook.says K40.HK) (d:=K40.dL) (kwd:=[]) (N:=3984) K40.left (Hook.of K40.HK) (Hook.keeps K40.HK) (fun s e=>xl_of s (Bool.and_eq_true_iff.mp e).1) XL.keeps (by kernel_rfl) (by kernel_rfl) (by kernel_rfl) (fun s e=>recFacts_of (Bool.and_eq_true_iff.mp e).2) (by kernel_rfl) said (by decide +kernel) ⟨rfl,rfl,rfl,rfl,rfl,by decide +kernel⟩ ?hw ?hc
 case hw=>w_witness2
 case hc=>
  exact K40.walk (l:=PySem.Challenge.rw_labelways_k40_whole_hubs_stand_in_chains) (K:=K40.Kf) rfl rfl ⟨((PyProof.Rows.recsOf K40.V).find? (fun e=>e.name==("nearest" : Str))).get (by decide +kernel),by simp⟩ (fun w h Y=>PySem.W.kIn_of Y) K40.facts
