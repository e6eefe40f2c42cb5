import PyProof.Rows.All
import Wide.All
import OpenK.AllK
import Wide.FinOn
import Lean
import PyProof.EqAt
import PyProof.EqKinds
import PyProof.TupleCall
import PyProof.ListRange
import PyProof.Rows.StrKeys3
import PyProof.ZipIter
import PySem.Challenge.RW_labelways_k65_what_keepers_refuse
set_option Elab.async false
set_option linter.all false
set_option maxRecDepth 100000
section
open PySem PySem.Spec PyProof.Rows
abbrev zA:=@wpAny_bind
abbrev zC:=@List.getElem?_eq_getElem
abbrev zD:=@List.length_map
abbrev zE:=@List.getD_eq_getElem?_getD
abbrev zG:=@wpAny_pure
abbrev zI:=@List.size_toArray
abbrev zJ:=@Heap.get?_push_of_some
abbrev zL:=@List.getElem?_eq_some_iff
abbrev zM:=@Nat.le_refl
abbrev zN:=@List.length_append
abbrev zP:=@Heap.get?_push_size
abbrev zQ:=@Option.some.inj
abbrev zR:=@List.map_append
abbrev zS:=@Heap.lt_size
abbrev zT:=@Bool.false_ne_true
abbrev zU:=@List.getElem?_map
abbrev zW:=@Nat.ne_of_lt
abbrev zZ:=@decide_eq_true
abbrev za:=@List.mem_cons
abbrev zb:=@decide_eq_false
abbrev ze:=@List.mem_cons_self
abbrev zf:=@List.mem_cons_of_mem
abbrev zh:=@List.length_cons
abbrev zi:=@List.mem_singleton
abbrev zj:=@Nat.zero_le
abbrev zk:=@Nat.lt_of_lt_of_le
abbrev zl:=@List.mem_of_getElem?
abbrev zm:=@List.take_of_length_le
abbrev zo:=@List.getElem?_append_right
abbrev zq:=@List.mem_append_right
abbrev zr:=@List.append_nil
abbrev zu:=@List.getElem?_append_left
abbrev zv:=@List.map_cons
abbrev zx:=@List.mem_append
abbrev zAB:=@List.mem_map
abbrev zAE:=@Nat.le_of_lt
abbrev zAF:=@List.length_take
abbrev zAH:=@Nat.ne_of_gt
abbrev zAL:=@List.take_add_one
abbrev zAQ:=@Classical.byContradiction
abbrev zAT:=@List.getElem_of_mem
abbrev zAU:=@List.pairwise_map
abbrev zAX:=@Nat.lt_trans
abbrev zAa:=@wpAny_holding
abbrev zAb:=@wpAny_callSpecial?_slot
abbrev zAg:=@wpAny_mono
abbrev zAh:=@List.pairwise_iff_getElem
abbrev zAi:=@List.nodup_cons
abbrev zAj:=@Heap.size_push
abbrev zAl:=@wpAny_call_entry
abbrev zAo:=@wpAny_newObj_type
abbrev zAp:=@Nat.le_trans
abbrev zAq:=@List.length_replicate
abbrev zAr:=@List.length_filter_le
abbrev zAs:=@List.getElem?_eq_none
abbrev zAu:=@List.mem_range
abbrev zAv:=@wpAny_Call_Name_kw
abbrev zAw:=@List.pairwise_cons
abbrev zAx:=@List.mem_filter
abbrev zA1:=@wpAny_field
abbrev zA3:=@List.replicate_succ
abbrev zA4:=@List.length_range
abbrev zA5:=@wpAny_seqItems
abbrev zA8:=@Option.map_some
abbrev zA9:=@List.getElem?_toArray
abbrev zBD:=@Option.isSome_iff_exists
abbrev zBE:=@Nat.lt_of_le_of_lt
abbrev zBG:=@Nat.lt_succ_self
abbrev zBH:=@Bool.and_eq_true
abbrev zBI:=@List.filter_cons_of_pos
abbrev zBJ:=@List.filter_cons_of_neg
abbrev zBL:=@wpAny_truthy_bool
abbrev zBN:=@Nat.lt_succ_of_lt
abbrev zBQ:=@List.map_congr_left
abbrev zBU:=@List.filter_cons
abbrev zBW:=@Int.zero_add
abbrev zBa:=@List.mem_append_left
abbrev zBb:=@List.Pairwise.nil
abbrev zBc:=@Int.toNat_natCast
abbrev zBj:=@wpAny_typeNameOfWhole_keyiter
abbrev zBk:=@List.lookup_cons
abbrev zBl:=@List.all_eq_true
end
namespace L2
open PySem PySem.Spec PyProof.Rows
noncomputable abbrev Key:=Sum Int Str
noncomputable def zGu:Key->Value->Bool
 | .inl k,v=>Value.isInt k v
 | .inr x,v=>Value.isStrOf x v
noncomputable def keyH (w:World):Key->Int
 | .inl k=>hashInt k
 | .inr x=>hashStr w x
theorem zBP:∀{k:Key}{v:Value},zGu k v=true->(∃i t,k=Sum.inl i/\v=Value.int i t)\/(∃x t,k=Sum.inr x/\v=Value.str x t)
 | .inl i,v,h=>by
  obtain⟨t,e⟩:=Value.isInt_shape (k:=i) (v:=v) h
  exact .inl ⟨i,t,rfl,e⟩
 | .inr x,v,h=>by
  obtain⟨t,e⟩:=Value.isStrOf_shape (x:=x) (v:=v) h
  exact .inr ⟨x,t,rfl,e⟩
theorem zH3 (i:Int)(t:Tok):zGu (.inl i) (.int i t)=true:=by simp[zGu,Value.isInt]
theorem zH2 (x:Str)(t:Tok):zGu (.inr x) (.str x t)=true:=by simp[zGu,Value.isStrOf]
theorem key_ll (a b:Int):decide ((Sum.inl a:Key)=Sum.inl b)=(a==b):=by
 by_cases e:a=b
 . subst e;simp
 . have h:¬ (Sum.inl a:Key)=Sum.inl b:=fun q=>e (Sum.inl.inj q)
   rw[zb h]
   exact (beq_eq_false_iff_ne.mpr e).symm
theorem key_rr (a b:Str):decide ((Sum.inr a:Key)=Sum.inr b)=decide (a=b):=by
 by_cases e:a=b
 . subst e;simp
 . have h:¬ (Sum.inr a:Key)=Sum.inr b:=fun q=>e (Sum.inr.inj q)
   rw[zb h,zb e]
theorem key_lr (a:Int)(b:Str):decide ((Sum.inl a:Key)=Sum.inr b)=false:=zb (fun q=>nomatch q)
theorem key_rl (a:Str)(b:Int):decide ((Sum.inr a:Key)=Sum.inl b)=false:=zb (fun q=>nomatch q)
noncomputable def zBC (prog:Program)(w:World):PySem.KeyKind prog w Key where
 is:=zGu
 hash:=keyH w
 inj:=fun v a b ha hb=>by
  rcases zBP ha with ⟨i,t,rfl,rfl⟩ | ⟨x,t,rfl,rfl⟩
  . rcases zBP hb with ⟨j,u,rfl,e⟩ | ⟨y,u,rfl,e⟩
    . injection e with e1 _;rw[e1]
    . exact nomatch e
  . rcases zBP hb with ⟨j,u,rfl,e⟩ | ⟨y,u,rfl,e⟩
    . exact nomatch e
    . injection e with e1 _;rw[e1]
 byValue:=fun k v h=>by
  rcases zBP h with ⟨i,t,rfl,rfl⟩ | ⟨x,t,rfl,rfl⟩ <;> rfl
 pyHash:=fun hv h=>by
  rcases zBP hv with ⟨i,t,rfl,rfl⟩ | ⟨x,t,rfl,rfl⟩
  . exact wpAny_pyHash_int h
  . exact wpAny_pyHash_str h
 eqBool:=fun hu hv h=>by
  rcases zBP hu with ⟨i,t,rfl,rfl⟩ | ⟨x,t,rfl,rfl⟩
  . rcases zBP hv with ⟨j,u,rfl,rfl⟩ | ⟨y,u,rfl,rfl⟩
    . rw[key_ll] at h;exact wpAny_eqBool_int h
    . rw[key_lr] at h;exact SeqAt.EqAt.int_str i t y u _ _ _ _ h
  . rcases zBP hv with ⟨j,u,rfl,rfl⟩ | ⟨y,u,rfl,rfl⟩
    . rw[key_rl] at h;exact SeqAt.EqAt.str_int x t j u _ _ _ _ h
    . rw[key_rr] at h;exact wpAny_eqBool_str h
 «strs» := fun k x t v h=>by
  rcases zBP h with ⟨i,u,rfl,e⟩ | ⟨y,u,rfl,e⟩
  . exact nomatch e
  . injection e with e1 _
    subst e1
    cases v <;> rfl
theorem zF2 (prog:Program)(w:World)(i:Int)(t:Tok):(zBC prog w).is (.inl i) (.int i t)=true:=zH3 i t
theorem zF1 (prog:Program)(w:World)(x:Str)(t:Tok):(zBC prog w).is (.inr x) (.str x t)=true:=zH2 x t
end L2
namespace L2
open PySem PySem.Spec PyProof.Rows
inductive V where
 | non | bl (b:Bool) | int (i:Int) | str (x:Str) | byt (b:Array UInt8) | flt (b:UInt64) | ref (a:Addr) | ty (n:String)
 deriving DecidableEq
noncomputable def zBY:V->Value->Prop
 | .non,u=>u=Value.none
 | .bl b,u=>u=Value.bool b
 | .int i,u=>∃t,u=Value.int i t
 | .str x,u=>∃t,u=Value.str x t
 | .byt b,u=>∃t,u=Value.bytes b t
 | .flt b,u=>∃t,u=Value.float b t
 | .ref a,u=>u=Value.ref a
 | .ty n,u=>u=Value.type n
noncomputable abbrev zA2:List V->List Value->Prop:=Paired zBY
theorem zA2.length {xs:List V}{us:List Value}(r:zA2 xs us):xs.length=us.length:=Paired.length r
theorem zA2.get:∀{xs:List V}{us:List Value}{i:Nat}{x:V},zA2 xs us->xs[i]? = some x->∃u,us[i]? = some u/\zBY x u
 | _,_,_,_,.nil,e=>by simp at e
 | _,_,0,_,.cons r _,e=>by simp at e;subst e;exact⟨_,rfl,r⟩
 | _,_,i+1,x,.cons _ t,e=>by
  obtain⟨u,h1,h2⟩:=zA2.get (i:=i) (x:=x) t (by simpa using e)
  exact⟨u,by simpa using h1,h2⟩
theorem zA2.set {x:V}{u:Value}(r:zBY x u):∀{xs:List V}{us:List Value}(i:Nat),zA2 xs us->zA2 (xs.set i x) (us.set i u)
 | _,_,_,.nil=>.nil
 | _,_,0,.cons _ t=>.cons r t
 | _,_,i+1,.cons q t=>.cons q (zA2.set r i t)
theorem zA2.append:∀{xs ys:List V}{us ws:List Value},zA2 xs us->zA2 ys ws->zA2 (xs++ys) (us++ws)
 | _,_,_,_,.nil,s=>s
 | _,_,_,_,.cons r t,s=>.cons r (zA2.append t s)
theorem zA2.take:∀{xs:List V}{us:List Value}(n:Nat),zA2 xs us->zA2 (xs.take n) (us.take n)
 | _,_,0,_=>.nil
 | _,_,_+1,.nil=>.nil
 | _,_,n+1,.cons r t=>.cons r (zA2.take n t)
theorem zA2.drop:∀{xs:List V}{us:List Value}(n:Nat),zA2 xs us->zA2 (xs.drop n) (us.drop n)
 | _,_,0,r=>r
 | _,_,_+1,.nil=>.nil
 | _,_,n+1,.cons _ t=>zA2.drop n t
noncomputable def zEx:Option V->Option Value->Prop
 | some v,some u=>zBY v u
 | none,none=>True
 | _,_=>False
noncomputable def KV {κ:Type}:List (κ×V)->List (κ×Value)->Prop:=Paired fun (p:κ×V)(q:κ×Value)=>p.1=q.1/\zBY p.2 q.2
noncomputable def kV:Key->V
 | .inl i=>.int i
 | .inr x=>.str x
inductive HO where
 /-- a list -/
 | lst (xs:List V)
 /-- a tuple (never changes) -/
 | tup (xs:List V)
 /-- a dict whose keys are ints and texts;one whose keys are tuples of ints and texts (the empty one is both) -/
 | dK (kvs:List (Key×V)) | dT (kvs:List (List Key×V))
 /-- a set of ints: its members,its size -/
 | set (S:Int->Bool)(n:Nat)
 /-- an instance of the class at C,its dict at dx,its attributes -/
 | ins (C dx:Addr)(fs:List (Str×V))
 /-- the dict of the instance at x -/
 | own (x:Addr)
 /-- the dict of an exception -/
 | xd (fs:List (Str×V))
 /-- a bound method,f of x -/
 | met (f x:Addr)
 /-- a range object lo,lo+1,.. below hi -/
 | rng (lo hi:Int)
 /-- a thing that is known to the object (the script;a dict while a loop walks it): read,never written while it is so -/
 | frz (o:Obj)(u:HO)
 /-- a code object's table -/
 | tbl (ps:Array Value)
 /-- any other thing,by what is true of its one object (a def of one's own: SetO a S n:=HO.ext fun h=>..) -/
 | ext (φ:Heap->Prop)
noncomputable abbrev Hp:=Addr->Option HO
noncomputable def upd (H:Hp)(a:Addr)(o:HO):Hp:=fun b=>if b=a then some o else H b
theorem zH {H:Hp}{a:Addr}{o:HO}:upd H a o a=some o:=by unfold upd;rw[if_pos rfl]
theorem zV {H:Hp}{a b:Addr}{o:HO}(h:b≠a):upd H a o b=H b:=by unfold upd;rw[if_neg h]
theorem zBm {H:Hp}{a:Addr}{o u:HO}:upd (upd H a o) a u=upd H a u:=by
 funext b;unfold upd;split <;> rfl
theorem zAJ {H:Hp}{a b:Addr}{o u:HO}(h:H a=some o)(h':H b=some u)(d:o≠u):a≠b:=by
 intro e;subst e;rw[h] at h';exact d (zQ h')
theorem zc {H:Hp}{a b:Addr}{o:HO}(h:H a=some o)(h':H b=none):a≠b:=by
 intro e;subst e;rw[h] at h';cases h'
section
variable (P:Program)(w:World)
noncomputable def zBA (H:Hp)(h:Heap)(a:Addr):HO->Prop
 | .lst xs=>xs.length<=sizeLine/\∃(its:List Value)(n:Nat),zA2 xs its/\h.get? a=some { cls:=.type "list",data:=.seq its.toArray n }
 | .tup xs=>(xs.length<=sizeLine/\∃o,h.get? a=some o/\o.dict=none)/\∃its:List Value,zA2 xs its/\IsTup h a its.toArray
 | .dK kvs=>kvs.length<=sizeLine/\(a==sysModules)=false/\∃vs,KV kvs vs/\h.DictOf (zBC P w) a vs
 | .dT kvs=>kvs.length<=sizeLine/\(a==sysModules)=false/\∃xs:List (List Key×Addr×Value),
  Paired (fun (p:List Key×V)(q:List Key×Addr×Value)=>p.1=q.1/\H q.2.1=some (.tup (p.1.map kV))/\zBY p.2 q.2.2) kvs xs /\
  ∃o es ep,h.get? a=some o/\o.ExactDict/\o.data = .dict es ep/\es.toList=xs.map (entryOfKey (tupleKind (zBC P w)))/\(xs.map (·.1)).Nodup
 | .set S n=>h.SetOf (intKind P w) a S n
 | .ins C dx fs=>H dx=some (.own a)/\fs.length<=1000/\dx≠a/\h.get? a=some (PySem.W.instObj C dx) /\
  ∃mA,h.Ns1 dx mA/\(∀f,zEx (fs.lookup f) (mA f))/\PySem.Within mA (fs.map (·.1))
 | .own _=>∃o,h.get? a=some o
 | .xd fs=>∃mA,h.Ns1 a mA/\∀f,zEx (fs.lookup f) (mA f)
 | .rng lo hi=>∃t u v,h.get? a=some { cls:=.type "range",data:=.fields #[.int lo t,.int hi u,.int 1 v] }
 | .frz o u=>h.get? a=some o/\zBA H h a u
 | .tbl ps=>h.get? a=some { cls:=.none,data:=.fields ps }
 | .met f x=>h.get? a=some (PySem.W.methodObj (.ref f) (.ref x))
 | .ext φ=>φ h/\(∃o,h.get? a=some o)/\∀h1 h2:Heap,φ h1->(∀o,h1.get? a=some o->h2.get? a=some o)->φ h2
noncomputable def HOk (H:Hp)(h:Heap):Prop:=∀a o,H a=some o->zBA P w H h a o
end
section
variable {P:Program}{w:World}{H H':Hp}{h h':Heap}{a:Addr}{o:HO}
theorem zBA.lt (x:zBA P w H h a o):a<h.objs.size:=by
 cases o with
 | lst xs=>obtain⟨_,_,_,_,e⟩:=x;exact zS e
 | tup xs=>obtain⟨_,_,_,p⟩:=x;exact p.lt
 | dK kvs=>obtain⟨_,_,_,_,o,_,_,e,_⟩:=x;exact zS e
 | dT kvs=>obtain⟨_,_,_,_,o,_,_,e,_⟩:=x;exact zS e
 | set S n=>obtain⟨o,_,_,_,e,_⟩:=x;exact zS e
 | ins C dx fs=>obtain⟨_,_,_,e,_⟩:=x;exact zS e
 | own y=>obtain⟨_,e⟩:=x;exact zS e
 | xd fs=>obtain⟨_,⟨_,_,_,e,_⟩,_⟩:=x;exact zS e
 | rng lo hi=>obtain⟨_,_,_,e⟩:=x;exact zS e
 | frz ob u=>obtain⟨e,_⟩:=x;exact zS e
 | tbl ps=>exact zS (show h.get? a=some _ from x)
 | met f y=>exact zS (show h.get? a=some _ from x)
 | ext φ=>obtain⟨_,⟨_,e⟩,_⟩:=x;exact zS e
theorem Paired.mapP {α β:Type}{F G:α->β->Prop}:∀{l₁:List α}{l₂:List β},Paired F l₁ l₂->(∀a b,F a b->G a b)->Paired G l₁ l₂
 | _,_,.nil,_=>.nil
 | _,_,.cons r t,f=>.cons (f _ _ r) (Paired.mapP t f)
theorem zBA.stay (x:zBA P w H h a o)(k:∀b u,(b=a\/H b=some (.own a))->h.get? b=some u->h'.get? b=some u)
 (ho:∀b,H b=some (.own a)->H' b=some (.own a))(ht:∀b xs,H b=some (.tup xs)->H' b=some (.tup xs)):zBA P w H' h' a o:=by
 induction o with
 | lst xs=>obtain⟨z,its,n,r,e⟩:=x;exact⟨z,its,n,r,k _ _ (.inl rfl) e⟩
 | tup xs=>obtain⟨⟨z,o2,e2,d2⟩,its,r,ob,e,c⟩:=x;exact⟨⟨z,o2,k _ _ (.inl rfl) e2,d2⟩,its,r,ob,k _ _ (.inl rfl) e,c⟩
 | dK kvs=>obtain⟨z,y,vs,r,ob,es,ep,e,c⟩:=x;exact⟨z,y,vs,r,ob,es,ep,k _ _ (.inl rfl) e,c⟩
 | dT kvs=>
  obtain⟨z,y,xs,r,ob,es,ep,e,c⟩:=x
  exact⟨z,y,xs,Paired.mapP r fun p q z=>⟨z.1,ht _ _ z.2.1,z.2.2⟩,ob,es,ep,k _ _ (.inl rfl) e,c⟩
 | set S n=>obtain⟨ob,es,ep,t,e,c⟩:=x;exact⟨ob,es,ep,t,k _ _ (.inl rfl) e,c⟩
 | ins C dx fs=>
  obtain⟨d,z,ne,e,mA,⟨od,es,ep,e2,c⟩,r⟩:=x
  exact⟨ho _ d,z,ne,k _ _ (.inl rfl) e,mA,⟨od,es,ep,k _ _ (.inr d) e2,c⟩,r⟩
 | own y=>obtain⟨ob,e⟩:=x;exact⟨ob,k _ _ (.inl rfl) e⟩
 | xd fs=>obtain⟨mA,⟨od,es,ep,e,c⟩,r⟩:=x;exact⟨mA,⟨od,es,ep,k _ _ (.inl rfl) e,c⟩,r⟩
 | rng lo hi=>obtain⟨t,u,v,e⟩:=x;exact⟨t,u,v,k _ _ (.inl rfl) e⟩
 | frz ob u ih=>obtain⟨e,q⟩:=x;exact⟨k _ _ (.inl rfl) e,ih q⟩
 | tbl ps=>
  have e:h.get? a=some { cls:=.none,data:=.fields ps }:=x
  show h'.get? a=some { cls:=.none,data:=.fields ps }
  exact k a _ (.inl rfl) e
 | met f y=>
  have e:h.get? a=some (PySem.W.methodObj (.ref f) (.ref y)):=x
  show h'.get? a=some (PySem.W.methodObj (.ref f) (.ref y))
  exact k a _ (.inl rfl) e
 | ext φ=>obtain⟨p,⟨o,e⟩,st⟩:=x;exact⟨st _ _ p fun o q=>k _ _ (.inl rfl) q,⟨o,k _ _ (.inl rfl) e⟩,st⟩
theorem HOk.lt (x:HOk P w H h)(e:H a=some o):a<h.objs.size:=(x a o e).lt
theorem HOk.fresh (x:HOk P w H h)(e:h.objs.size<=a):H a=none:=by
 cases q:H a with
 | none=>rfl
 | some u=>exact absurd (zk (x.lt q) e) (Nat.lt_irrefl _)
theorem HOk.kept (x:HOk P w H h)(k:∀b u,h.get? b=some u->h'.get? b=some u):HOk P w H h':=fun a o e=>
 (x a o e).stay (fun b u _ q=>k b u q) (fun _ q=>q) fun _ _ q=>q
theorem HOk.laid (x:HOk P w H h)(k:∀b u,h.get? b=some u->h'.get? b=some u)(hp:h.objs.size<=a)(new:zBA P w (upd H a o) h' a o):HOk P w (upd H a o) h':=fun b u e=>by
 have hn:=x.fresh hp
 by_cases hb:b=a
 . subst hb;rw[zH] at e;cases e;exact new
 . rw[zV hb] at e
   exact (x b u e).stay (fun c v _ q=>k c v q) (fun c q=>by rw[zV (zc q hn)];exact q) fun c xs q=>by rw[zV (zc q hn)];exact q
end
noncomputable def Rd (H:Hp)(a:Addr)(u:HO):Prop:=H a=some u\/∃o,H a=some (.frz o u)
theorem Rd.ok {P:Program}{w:World}{H:Hp}{h:Heap}{a:Addr}{u:HO}(r:Rd H a u)(x:HOk P w H h):zBA P w H h a u:=by
 rcases r with r | ⟨o,r⟩
 . exact x a u r
 . obtain⟨_,q⟩:=x a _ r
   exact q
noncomputable def Mut:Option HO->Prop
 | some (.lst _)=>True
 | some (.dK _)=>True
 | some (.dT _)=>True
 | some (.set _ _)=>True
 | some (.ins _ _ _)=>True
 | some (.ext _)=>True
 | _=>False
section
variable {P:Program}{w:World}{H:Hp}{h h':Heap}{x e:Addr}{o':HO}
theorem HOk.write (ok:HOk P w H h)(mu:Mut (H x))(he:e=x\/H e=some (.own x))(k:∀b u,b≠e->h.get? b=some u->h'.get? b=some u)(heo:∃u,h'.get? e=some u)
 (new:zBA P w (upd H x o') h' x o'):HOk P w (upd H x o') h':=fun b u q=>by
 have nown:∀c y,H c=some (.own y)->c≠x:=fun c y r z=>by subst z;rw[r] at mu;exact mu
 have ntup:∀c xs,H c=some (.tup xs)->c≠x:=fun c xs r z=>by subst z;rw[r] at mu;exact mu
 by_cases hb:b=x
 . subst hb;rw[zH] at q;cases q;exact new
 . rw[zV hb] at q
   by_cases hbe:b=e
   . have q':H b=some (.own x):=by
      rcases he with z | z
      . exact absurd (hbe.trans z) hb
      . rw[hbe];exact z
     rw[q] at q';cases q'
     obtain⟨v,hv⟩:=heo
     exact⟨v,by rw[hbe];exact hv⟩
   . refine (ok b u q).stay (fun c v hc r=>k c v ?_ r) (fun c r=>by rw[zV (nown c b r)];exact r) fun c xs r=>by rw[zV (ntup c xs r)];exact r
     rcases hc with rfl | hc
     . exact hbe
     . rintro rfl
       rcases he with z | z
       . exact nown c b hc z
       . rw[hc] at z;cases z;exact hb rfl
end
structure Un (fs ex:List Addr)(H H':Hp)(h h':Heap):Prop where
 keep:∀b o,h.get? b=some o->H b=none->b∉fs->b∉ex->h'.get? b=some o
 slot:∀b o,h.get? b=some o->H b=none->b∈fs->b∉ex->∃sl,h'.get? b=some { o with slots:=sl }
 free:∀b o,h.get? b=some o->H b=none->b∉ex->H' b=none
 there:∀b o,h.get? b=some o->b∉ex->∃o',h'.get? b=some o'
 tups:∀b xs,H b=some (.tup xs)->H' b=some (.tup xs)
 frzs:∀b o u,H b=some (.frz o u)->H' b=some (.frz o u)
 tbls:∀b ps,H b=some (.tbl ps)->∃more,H' b=some (.tbl (ps++more))
section
variable {fs fs' ex ex':List Addr}{H H1 H2:Hp}{h h1 h2 h':Heap}{a x e:Addr}{o:HO}
theorem Un.any (u:Un fs ex H H1 h h1){b:Addr}{ob:Obj}(q:h.get? b=some ob)(n:H b=none)(hx:b∉ex):∃sl,h1.get? b=some { ob with slots:=sl }:=by
 by_cases hb:b∈fs
 . exact u.slot b ob q n hb hx
 . exact⟨ob.slots,u.keep b ob q n hb hx⟩
theorem Un.kept (k:∀b u,h.get? b=some u->h'.get? b=some u):Un fs ex H H h h':=
 ⟨fun b ob q _ _ _=>k b ob q,fun b ob q _ _ _=>⟨ob.slots,k b ob q⟩,fun _ _ _ n _=>n,fun b ob q _=>⟨ob,k b ob q⟩,fun _ _ q=>q,fun _ _ _ q=>q,fun _ ps q=>⟨#[],by rw[q];simp⟩⟩
theorem Un.refl:Un fs ex H H h h:=Un.kept fun _ _ q=>q
theorem Un.laid (k:∀b u,h.get? b=some u->h'.get? b=some u)(hp:h.objs.size<=a)(hn:H a=none):Un fs ex H (upd H a o) h h' where
 keep:=fun b u q _ _ _=>k b u q
 slot:=fun b u q _ _ _=>⟨u.slots,k b u q⟩
 free:=fun b u q n _=>by rw[zV (zW (zk (zS q) hp))];exact n
 there:=fun b u q _=>⟨u,k b u q⟩
 tups:=fun b xs q=>by rw[zV (zc q hn)];exact q
 frzs:=fun b u xs q=>by rw[zV (zc q hn)];exact q
 tbls:=fun b ps q=>⟨#[],by rw[zV (zc q hn),q];simp⟩
theorem Un.write (mu:Mut (H x))(he:e=x\/H e=some (.own x))(k:∀b u,b≠e->h.get? b=some u->h'.get? b=some u)(heo:∃u,h'.get? e=some u):Un fs ex H (upd H x o) h h':=by
 have hx:∀b,H b=none->b≠x:=fun b n z=>by subst z;rw[n] at mu;exact mu
 have hb:∀b,H b=none->b≠e:=fun b n z=>by
  subst z
  rcases he with r | r
  . exact hx b n r
  . rw[n] at r;cases r
 have hm:∀b u,H b=some u->¬ Mut (some u)->b≠x:=fun b u q nm z=>by subst z;rw[q] at mu;exact nm mu
 refine⟨fun b u q n _ _=>k b u (hb b n) q,fun b u q n _ _=>⟨u.slots,k b u (hb b n) q⟩,fun b u q n _=>by rw[zV (hx b n)];exact n,fun b u q _=>?_,
  fun b xs q=>by rw[zV (hm b _ q fun z=>z)];exact q,fun b u xs q=>by rw[zV (hm b _ q fun z=>z)];exact q,fun b ps q=>⟨#[],by rw[zV (hm b _ q fun z=>z),q];simp⟩⟩
 by_cases hbe:b=e
 . subst hbe;exact heo
 . exact⟨u,k b u hbe q⟩
end
noncomputable def trk (h:Heap)(H:Hp):List Addr:=(List.range h.objs.size).filter fun a=>(H a).isSome
noncomputable def zIh (h:Heap)(H:Hp):Heap:=PySem.W.hideAll h (trk h H)
theorem zIB (h:Heap)(H:Hp):(zIh h H).objs.size=h.objs.size:=PySem.W.hideAll_size _ _
theorem zJT {h:Heap}{H:Hp}{b:Addr}{o:Obj}(e:h.get? b=some o)(n:H b=none):(zIh h H).get? b=some o:=
 PySem.W.hideAll_get _ e fun hm=>by
  have q:(H b).isSome=true:=(zAx.mp hm).2
  rw[n] at q;simp at q
theorem zLY {h:Heap}{H:Hp}{b:Addr}{o:Obj}(e:(zIh h H).get? b=some o):h.get? b=some o/\H b=none:=by
 have e':h.get? b=some o:=PySem.W.of_hideAll (trk h H) e
 refine⟨e',?_⟩
 cases q:H b with
 | none=>rfl
 | some x=>
  have hm:b∈trk h H:=zAx.mpr ⟨zAu.mpr (zS e'),by simp[q]⟩
  have z:(zIh h H).get? b=none:=PySem.W.hideAll_none (trk h H) hm
  rw[z] at e;cases e
noncomputable def zDu (g h:Heap)(L:Addr):List (Addr×Obj):=(List.range h.objs.size).filterMap fun a=>if a=L\/(g.get? a).isSome=true then none else (h.get? a).map fun o=>(a,o)
theorem zF3 {g h:Heap}{L a:Addr}{o:Obj}(h1:a≠L)(h2:g.get? a=none)(h3:h.get? a=some o):(a,o)∈zDu g h L:=
 List.mem_filterMap.mpr ⟨a,zAu.mpr (zS h3),by simp[h1,h2,h3]⟩
theorem zDz {g h:Heap}{L:Addr}{p:Addr×Obj}(hp:p∈zDu g h L):p.1≠L/\g.get? p.1=none/\h.get? p.1=some p.2:=by
 obtain⟨b,_,e⟩:=List.mem_filterMap.mp hp
 split at e
 . cases e
 . rename_i hn
   cases q:h.get? b with
   | none=>rw[q] at e;simp at e
   | some u=>
    rw[q] at e
    simp only[zA8,Option.some.injEq] at e
    subst e
    refine⟨fun z=>hn (.inl z),?_,q⟩
    show g.get? b=none
    cases r:g.get? b with
    | none=>rfl
    | some v=>exact (hn (.inr (by simp[r]))).elim
theorem zJO {g h:Heap}{L:Addr}:News g L h (zDu g h L):=fun p hp=>let ⟨a,b,c⟩:=zDz hp;⟨c,a,b⟩
end L2
namespace L2
open PySem PySem.Spec PyProof.Rows
structure Mod (K:PySem.W.Frag)(mg:Str->Option Value)(base:Heap):Prop where
 kin:K.In base
 glob:base.Ns mainGlobals mg
 blt:∃mb,base.Ns builtinsNs mb/\∀x:Str,x ≠ "__name__" -> mb x=bootBuiltins x
 nolimit:base.NoLimit
structure Cx where
 prog:Program
 w:World
 K:PySem.W.Frag
 mg:Str->Option Value
 base:Heap
 A:Around
 N:List Str
 s₀:Shared
 H₀:Hp
 env:Env
 outer:List Env
 stack:List Env
 ex:List Addr
 fn:Str->Bool
 calm:Bool
 pn:List (Addr×Obj)
 xe:Value->Shared->Prop
noncomputable def frs (l:List Env):List Addr:=l.filterMap (·.frame)
noncomputable abbrev Cx.fs (X:Cx):List Addr:=frs X.outer
noncomputable def Vis (sc:Scope)(x:Str):Prop:=sc.names.lookup x=some .local\/sc.names.lookup x=some .cell\/sc.names.lookup x=some .free
noncomputable def Loc (sc:Scope)(x:Str):Prop:=sc.names.lookup x=some .local\/sc.names.lookup x=some .cell
noncomputable def zId (env:Env)(h:Heap)(m:Str->Option Value)(x:Str)(u:Value):Prop:=
 (env.kindOf x=some .local/\m x=some u)\/((env.kindOf x=some .cell\/env.kindOf x=some .free)/\∃c,env.cells.lookup x=some c/\h.IsCell c (some u))
structure Cx.Ok (X:Cx):Prop where
 mod:Mod X.K X.mg X.base
 kind:X.env.scope.kind = .function
 glob:X.env.globals=mainGlobals
 blt:X.env.builtins=builtinsNs
 above:X.s₀.heap.objs.size<=X.env.locals
 inj:∀x y c,X.env.cells.lookup x=some c->X.env.cells.lookup y=some c->x=y
 has:∀x,(X.env.kindOf x=some .cell\/X.env.kindOf x=some .free)->∃c,X.env.cells.lookup x=some c
 cab:∀x c,X.fn x=true->X.env.cells.lookup x=some c->X.s₀.heap.objs.size<=c
 hd:X.calm=true->X.A.handled=none
 frames:X.A.frames=some X.stack
 stk:X.stack=X.outer\/(X.stack=X.env::X.outer/\X.env.frame=some X.env.locals)
 exf:∀b∈X.ex,b≠X.env.locals/\∀x c,X.env.cells.lookup x=some c->c≠b
 bs:∀b o,X.base.get? b=some o->X.s₀.heap.get? b=some o/\X.H₀ b=none
 bsz:X.base.objs.size<=X.s₀.heap.objs.size
 noex:∀b o,X.base.get? b=some o->b∉X.ex
 exfs:∀b∈X.ex,b∉X.fs
 funs:X.s₀.heap.FunFrames X.base X.outer
 frf:∀b∈X.fs,X.H₀ b=none
structure Inv (X:Cx)(pins:List (Addr×Obj))(σ:List (Option V))(H:Hp)(s:Shared):Prop where
 ok:X.Ok
 os:s.os=X.s₀.os
 bare:AllBare s.gens
 base:Un X.fs X.ex X.H₀ H X.s₀.heap s.heap
 loc:∃m,s.heap.Ns X.env.locals m/\∀(i:Nat)(x:Str)(v:V),X.N[i]? = some x->σ[i]? = some (some v)->Vis X.env.scope x->∃u,zBY v u/\zId X.env s.heap m x u
 cell:∀x c,X.env.cells.lookup x=some c->∃v,s.heap.IsCell c v
 free:H X.env.locals=none
 freeC:∀x c,X.env.cells.lookup x=some c->H c=none
 pin:∀p∈X.pn++pins,s.heap.get? p.1=some p.2/\H p.1=none/\p.1≠X.env.locals/\p.1∉X.fs/\∀v,p.2.data ≠ .cell v
 hok:HOk X.prog X.w H s.heap
 len:σ.length=X.N.length
section
variable {X:Cx}{pins:List (Addr×Obj)}{σ:List (Option V)}{H H':Hp}{s:Shared}{h':Heap}
theorem Cx.Ok.nofr (ok:X.Ok){b:Addr}{o:Obj}(e:X.base.get? b=some o):b∉X.fs:=fun hb=>by
 have:=(ok.funs.mem hb).1
 rw[e] at this;cases this
theorem Inv.bs (I:Inv X pins σ H s):∀b o,X.base.get? b=some o->s.heap.get? b=some o/\H b=none:=fun b o e=>
 ⟨I.base.keep b o (I.ok.bs b o e).1 (I.ok.bs b o e).2 (I.ok.nofr e) (I.ok.noex b o e),I.base.free b o (I.ok.bs b o e).1 (I.ok.bs b o e).2 (I.ok.noex b o e)⟩
theorem Inv.bk (I:Inv X pins σ H s):∀b o,X.base.get? b=some o->s.heap.get? b=some o:=fun b o e=>(I.bs b o e).1
theorem Inv.mod (I:Inv X pins σ H s):Mod X.K X.mg X.base:=I.ok.mod
theorem Inv.kIn (I:Inv X pins σ H s):X.K.In s.heap:=I.ok.mod.kin.keeps I.bk
theorem Inv.fr (I:Inv X pins σ H s):∃m,Fr X.base X.env.locals s.heap m:=
 let ⟨m,hn,_⟩:=I.loc
 ⟨m,hn,I.bk,zAp I.ok.bsz I.ok.above⟩
theorem Inv.lt (I:Inv X pins σ H s):X.env.locals<s.heap.objs.size:=let ⟨_,hn,_⟩:=I.loc;hn.lt
theorem Inv.sz (I:Inv X pins σ H s):X.s₀.heap.objs.size<=s.heap.objs.size:=zAp I.ok.above (zAE I.lt)
theorem Inv.nofs (I:Inv X pins σ H s){a:Addr}(h:s.heap.objs.size<=a):a∉X.fs:=fun hb=>by
 obtain⟨_,o,ho,_⟩:=I.ok.funs.mem hb
 exact absurd (zk (zS ho) (zAp I.sz h)) (Nat.lt_irrefl _)
theorem Inv.cne (I:Inv X pins σ H s):∀x c,X.env.cells.lookup x=some c->c≠X.env.locals:=fun x c e z=>by
 obtain⟨v,o,ho,hd⟩:=I.cell x c e
 obtain⟨m,⟨o',es,ep,ho',hd',_⟩,_⟩:=I.loc
 rw[z,ho'] at ho;cases ho;rw[hd'] at hd;cases hd
theorem Inv.funs (I:Inv X pins σ H s):s.heap.FunFrames X.base X.outer:=by
 have all:∀(l:List Env),(∀b∈frs l,b∈X.fs)->X.s₀.heap.FunFrames X.base l->s.heap.FunFrames X.base l:=by
  intro l
  induction l with
  | nil=>intro _ _;trivial
  | cons env r ih=>
   intro hs hl
   obtain⟨hk,⟨L,o,hf,hn,ho,hd⟩,hr⟩:=hl
   have hL:L∈X.fs:=hs L (by unfold frs;rw[List.filterMap_cons,hf];exact ze)
   obtain⟨sl,e⟩:=I.base.slot L o ho (I.ok.frf L hL) hL fun z=>I.ok.exfs L z hL
   exact⟨hk,⟨L,_,hf,hn,e,hd⟩,ih (fun b hb=>hs b (by unfold frs;rw[List.filterMap_cons,hf];exact zf _ hb)) hr⟩
 exact all X.outer (fun _ hb=>hb) I.ok.funs
theorem Inv.stack (I:Inv X pins σ H s):s.heap.FunFrames X.base X.stack:=by
 rcases I.ok.stk with e | ⟨e,hf⟩
 . rw[e];exact I.funs
 . rw[e]
   obtain⟨m,hn,_⟩:=I.loc
   refine .cons (by rw[I.ok.kind];decide) hf hn ?_ I.funs
   exact Heap.get?_none_of_le (zAp I.ok.bsz I.ok.above)
theorem Inv.stkSub (I:Inv X pins σ H s):∀b∈frs X.stack,b∈X.env.locals::X.fs:=fun b hb=>by
 rcases I.ok.stk with e | ⟨e,hf⟩
 . rw[e] at hb;exact zf _ hb
 . rw[e] at hb
   unfold frs at hb
   rw[List.filterMap_cons,hf] at hb
   exact hb
theorem Inv.stkFree (I:Inv X pins σ H s):∀b∈frs X.stack,H b=none:=fun b hb=>by
 rcases za.mp (I.stkSub b hb) with e | hb
 . rw[e];exact I.free
 . obtain⟨_,o,ho,_⟩:=I.ok.funs.mem hb
   exact I.base.free b o ho (I.ok.frf b hb) fun z=>I.ok.exfs b z hb
theorem Inv.step {g':Array GenState}{t':Nat}{d':Drawn}{ch:List Addr}(I:Inv X pins σ H s)
 (hch:∀b∈ch,(b∈X.ex\/X.s₀.heap.objs.size<=b)/\b≠X.env.locals/\(∀x c,X.env.cells.lookup x=some c->c≠b)/\∀p∈X.pn++pins,p.1≠b)
 (keep:∀b o,b≠X.env.locals->b∉X.fs->b∉ch->s.heap.get? b=some o->H b=none->h'.get? b=some o)
 (slot:∀b o,b≠X.env.locals->b∈X.fs->b∉ch->s.heap.get? b=some o->H b=none->∃sl,h'.get? b=some { o with slots:=sl })(free:∀b o,b∉ch->s.heap.get? b=some o->H b=none->H' b=none)
 (there:∀b o,b∉ch->s.heap.get? b=some o->∃o',h'.get? b=some o')
 (tups:∀b xs,H b=some (.tup xs)->H' b=some (.tup xs))(frzs:∀b o u,H b=some (.frz o u)->H' b=some (.frz o u))(tbls:∀b ps,H b=some (.tbl ps)->∃more,H' b=some (.tbl (ps++more)))
 (ns:∀m,s.heap.Ns X.env.locals m->h'.Ns X.env.locals m)(hok:HOk X.prog X.w H' h')(hg:AllBare g') :
 Inv X pins σ H' { s with heap:=h',gens:=g',drawn:=d',toks:=t' }:=by
 have neL:∀b o,X.s₀.heap.get? b=some o->b≠X.env.locals:=fun b o e=>zW (zk (zS e) I.ok.above)
 have neC:∀b o,X.s₀.heap.get? b=some o->b∉X.ex->b∉ch:=fun b o e hx hb=>by
  rcases (hch b hb).1 with z | z
  . exact hx z
  . exact absurd (zk (zS e) z) (Nat.lt_irrefl _)
 have cellK:∀x c,X.env.cells.lookup x=some c->∀v,s.heap.IsCell c v->h'.IsCell c v:=fun x c e v ⟨o,ho,hd⟩=>by
  have nch:c∉ch:=fun z=>(hch c z).2.2.1 x c e rfl
  by_cases hc:c∈X.fs
  . obtain⟨sl,q⟩:=slot c o (I.cne x c e) hc nch ho (I.freeC x c e)
    exact⟨_,q,hd⟩
  . exact⟨o,keep c o (I.cne x c e) hc nch ho (I.freeC x c e),hd⟩
 refine⟨I.ok,I.os,hg,⟨fun b o e n hb hx=>?_,fun b o e n hb hx=>?_,fun b o e n hx=>?_,fun b o e hx=>?_,fun b xs e=>tups b xs (I.base.tups b xs e),fun b o xs e=>frzs b o xs (I.base.frzs b o xs e),fun b ps e=>?_⟩,?_,fun x c e=>?_,?_,fun x c e=>?_,fun p hp=>?_,hok,I.len⟩
 . exact keep b o (neL b o e) hb (neC b o e hx) (I.base.keep b o e n hb hx) (I.base.free b o e n hx)
 . obtain⟨sl,e1⟩:=I.base.slot b o e n hb hx
   obtain⟨sl',e2⟩:=slot b _ (neL b o e) hb (neC b o e hx) e1 (I.base.free b o e n hx)
   exact⟨sl',e2⟩
 . obtain⟨o',e1⟩:=I.base.there b o e hx
   exact free b o' (neC b o e hx) e1 (I.base.free b o e n hx)
 . obtain⟨o',e1⟩:=I.base.there b o e hx
   exact there b o' (neC b o e hx) e1
 . obtain⟨m1,e1⟩:=I.base.tbls b ps e
   obtain⟨m2,e2⟩:=tbls b _ e1
   exact⟨m1++m2,by rw[e2,Array.append_assoc]⟩
 . obtain⟨m,hn,hl⟩:=I.loc
   refine⟨m,ns m hn,fun i x v e1 e2 e3=>?_⟩
   obtain⟨u,r,l⟩:=hl i x v e1 e2 e3
   refine⟨u,r,?_⟩
   rcases l with l | ⟨k,c,e,z⟩
   . exact .inl l
   . exact .inr ⟨k,c,e,cellK x c e _ z⟩
 . obtain⟨v,z⟩:=I.cell x c e
   exact⟨v,cellK x c e v z⟩
 . obtain⟨m,⟨o,_,_,ho,_⟩,_⟩:=I.loc
   exact free _ o (fun z=>(hch _ z).2.1 rfl) ho I.free
 . obtain⟨v,o,ho,hd⟩:=I.cell x c e
   exact free c o (fun z=>(hch c z).2.2.1 x c e rfl) ho (I.freeC x c e)
 . obtain⟨e,n,ne,nf,d⟩:=I.pin p hp
   have nch:p.1∉ch:=fun z=>(hch p.1 z).2.2.2 p hp rfl
   exact⟨keep p.1 p.2 ne nf nch e n,free p.1 p.2 nch e n,ne,nf,d⟩
theorem Inv.un {t':Nat}(I:Inv X pins σ H s)(u:Un X.fs [] H H' s.heap h')(hok:HOk X.prog X.w H' h'):Inv X pins σ H' { s with heap:=h',toks:=t' }:=by
 obtain⟨m,⟨o,es,ep,ho,r⟩,_⟩:=id I.loc
 obtain⟨sl,hL⟩:=u.any ho I.free (by simp)
 exact I.step (g':=s.gens) (d':=s.drawn) (ch:=[]) (fun _ z=>nomatch z) (fun b o _ hb _ e n=>u.keep b o e n hb (by simp)) (fun b o _ hb _ e n=>u.slot b o e n hb (by simp)) (fun b o _ e n=>u.free b o e n (by simp)) (fun b o _ e=>u.there b o e (by simp)) u.tups u.frzs u.tbls (fun m' hm=>by
  obtain⟨o',es',ep',ho',r'⟩:=hm
  rw[ho] at ho';cases ho'
  exact⟨_,es',ep',hL,r'⟩) hok I.bare
theorem Inv.call {g':Array GenState}{t':Nat}{d':Drawn}{ch:List Addr}(I:Inv X pins σ H s)(u:Un (frs X.stack) ch H H' s.heap h')(hok:HOk X.prog X.w H' h')(hg:AllBare g')
 (hch:∀b∈ch,(b∈X.ex\/X.s₀.heap.objs.size<=b)/\b≠X.env.locals/\(∀x c,X.env.cells.lookup x=some c->c≠b)/\∀p∈X.pn++pins,p.1≠b) :
 Inv X pins σ H' { s with heap:=h',gens:=g',drawn:=d',toks:=t' }:=by
 obtain⟨m,⟨o,es,ep,ho,r⟩,_⟩:=id I.loc
 obtain⟨sl,hL⟩:=u.any ho I.free fun z=>(hch _ z).2.1 rfl
 exact I.step (ch:=ch) hch (fun b o hL hb hc e n=>u.keep b o e n (fun z=>(za.mp (I.stkSub b z)).elim hL hb) hc) (fun b o _ _ hc e n=>u.any e n hc) (fun b o hc e n=>u.free b o e n hc) (fun b o hc e=>u.there b o e hc) u.tups u.frzs u.tbls (fun m' hm=>by
  obtain⟨o',es',ep',ho',r'⟩:=hm
  rw[ho] at ho';cases ho'
  exact⟨_,es',ep',hL,r'⟩) hok hg
theorem Inv.turned {t':Nat}{it:Addr}(I:Inv X pins σ H s)(k:∀b o,b≠it->s.heap.get? b=some o->h'.get? b=some o)(hn:H it=none)(hL:it≠X.env.locals)
 (h1:it∈X.ex\/X.s₀.heap.objs.size<=it)(h2:∀x c,X.env.cells.lookup x=some c->c≠it)(h3:∀p∈X.pn++pins,p.1≠it):Inv X pins σ H { s with heap:=h',toks:=t' }:=by
 have nit:∀b u,H b=some u->b≠it:=fun b u e z=>by rw[z,hn] at e;cases e
 refine I.step (g':=s.gens) (d':=s.drawn) (ch:=[it]) (fun b hb=>?_) (fun b o _ _ hc e _=>k b o (fun z=>hc (by simp[z])) e) (fun b o _ _ hc e _=>⟨o.slots,k b o (fun z=>hc (by simp[z])) e⟩) (fun _ _ _ _ n=>n)
  (fun b o hc e=>⟨o,k b o (fun z=>hc (by simp[z])) e⟩) (fun _ _ e=>e) (fun _ _ _ e=>e) (fun b ps e=>⟨#[],by rw[e];simp⟩) (fun m hm=>?_) (fun b u e=>?_) I.bare
 . have e:b=it:=by simpa using hb
   subst e
   exact⟨h1,hL,h2,h3⟩
 . obtain⟨o,es,ep,ho,r⟩:=hm
   exact⟨o,es,ep,k _ o (Ne.symm hL) ho,r⟩
 . refine (I.hok b u e).stay (fun c v hc q=>k c v ?_ q) (fun _ q=>q) fun _ _ q=>q
   rcases hc with z | z
   . rw[z];exact nit b u e
   . exact nit c _ z
theorem Inv.tok (I:Inv X pins σ H s)(t:Nat):Inv X pins σ H { s with toks:=t }:=I.un (h':=s.heap) (t':=t) Un.refl I.hok
theorem Inv.kept {t':Nat}(I:Inv X pins σ H s)(k:∀b u,s.heap.get? b=some u->h'.get? b=some u):Inv X pins σ H { s with heap:=h',toks:=t' }:=I.un (Un.kept k) (I.hok.kept k)
theorem Inv.laid {a:Addr}{o:HO}{t':Nat}(I:Inv X pins σ H s)(k:∀b u,s.heap.get? b=some u->h'.get? b=some u)(hp:s.heap.objs.size<=a)(new:zBA X.prog X.w (upd H a o) h' a o) :
 Inv X pins σ (upd H a o) { s with heap:=h',toks:=t' }:=I.un (Un.laid k hp (I.hok.fresh hp)) (I.hok.laid k hp new)
theorem Inv.write {x e:Addr}{o:HO}{t':Nat}(I:Inv X pins σ H s)(mu:Mut (H x))(he:e=x\/H e=some (.own x))(k:∀b u,b≠e->s.heap.get? b=some u->h'.get? b=some u)(heo:∃u,h'.get? e=some u)
 (new:zBA X.prog X.w (upd H x o) h' x o):Inv X pins σ (upd H x o) { s with heap:=h',toks:=t' }:=I.un (Un.write mu he k heo) (I.hok.write mu he k heo new)
theorem Inv.weak {σ':List (Option V)}(I:Inv X pins σ H s)(hl:σ'.length=σ.length)(w:∀(i:Nat) v,σ'[i]? = some (some v)->σ[i]? = some (some v)):Inv X pins σ' H s:=
 ⟨I.ok,I.os,I.bare,I.base,let ⟨m,hn,hl'⟩:=I.loc;⟨m,hn,fun i x v e1 e2 e3=>hl' i x v e1 (w i v e2) e3⟩,I.cell,I.free,I.freeC,I.pin,I.hok,hl.trans I.len⟩
theorem Inv.pins_of {pins':List (Addr×Obj)}(I:Inv X pins σ H s)(h:∀p∈pins',s.heap.get? p.1=some p.2/\H p.1=none/\p.1≠X.env.locals/\p.1∉X.fs/\∀v,p.2.data ≠ .cell v):Inv X pins' σ H s:=
 ⟨I.ok,I.os,I.bare,I.base,I.loc,I.cell,I.free,I.freeC,fun p hp=>(zx.mp hp).elim (fun z=>I.pin p (zBa _ z)) (h p),I.hok,I.len⟩
theorem zEk {N:List Str}(hN:N.Nodup){i j:Nat}{x:Str}(a:N[i]? = some x)(b:N[j]? = some x):i=j:=by
 obtain⟨h1,e1⟩:=zL.mp a
 obtain⟨h2,e2⟩:=zL.mp b
 exact (List.getElem_inj hN).mp (e1.trans e2.symm)
theorem zHA {M:Model}{A:Around}{E:Value->Shared->Prop}{i:Nat}{x:Str}{v:V}{u:Value}{Q:Unit->Shared->Prop}(I:Inv X pins σ H s)(hN:X.N.Nodup)(hi:X.N[i]? = some x)(hx:Loc X.env.scope x)(r:zBY v u)
 (h:∀s',Inv X pins (σ.set i (some v)) H s'->(∃a,Heap.SameBut a s.heap s'.heap/\(a=X.env.locals\/X.env.cells.lookup x=some a))->Q () s')(hf:X.fn x=true\/X.env.scope.names.lookup x=some .local:=by first | exact .inl rfl | exact .inr rfl | assumption):wpAny M A (storeName X.env x u) Q E s:=by
 obtain⟨m,hn,hl⟩:=id I.loc
 have hcls:(X.env.scope.kind == .class || (X.env.scope.kind == .module && X.env.locals != X.env.globals))=false:=by rw[I.ok.kind];rfl
 have hiσ:i<σ.length:=by rw[I.len];exact (zL.mp hi).1
 have cne:=I.cne
 have tracked:∀{a:Addr}{h':Heap},(∃o,s.heap.get? a=some o/\H a=none)->Heap.SameBut a s.heap h'->HOk X.prog X.w H h':=fun {a h'} ha hs b ob e=>by
  obtain⟨_,_,hfree⟩:=ha
  refine (I.hok b ob e).stay (fun c w' hc q=>(hs.2 c ?_).trans q) (fun _ q=>q) fun _ _ q=>q
  rintro rfl
  rcases hc with rfl | hc
  . rw[hfree] at e;cases e
  . rw[hfree] at hc;cases hc
 rcases hx with hk | hk
 . refine wpAny_storeName_local hk hn (fun h' hn' hs=>?_) hcls
   obtain⟨oL,_,_,hoL,_⟩:=id hn
   refine h _ ⟨I.ok,I.os,I.bare,⟨fun b o e n hb hx=>?_,fun b o e n hb hx=>?_,I.base.free,fun b o e hx=>?_,I.base.tups,I.base.frzs,I.base.tbls⟩,⟨_,hn',fun j y v' e1 e2 e3=>?_⟩,fun y c e=>?_,I.free,I.freeC,fun p hp=>?_,tracked ⟨oL,hoL,I.free⟩ hs,by simpa using I.len⟩ ⟨_,hs,.inl rfl⟩
   . exact (hs.2 b (zW (zk (zS e) I.ok.above))).trans (I.base.keep b o e n hb hx)
   . obtain⟨sl,e1⟩:=I.base.slot b o e n hb hx
     exact⟨sl,(hs.2 b (zW (zk (zS e) I.ok.above))).trans e1⟩
   . obtain⟨o',e1⟩:=I.base.there b o e hx
     exact⟨o',(hs.2 b (zW (zk (zS e) I.ok.above))).trans e1⟩
   . by_cases hj:j=i
     . subst hj
       rw[hi] at e1;cases e1
       rw[List.getElem?_set_self hiσ] at e2
       cases e2
       exact⟨u,r,.inl ⟨hk,by simp⟩⟩
     . rw[List.getElem?_set_ne (Ne.symm hj)] at e2
       obtain⟨u',r',q⟩:=hl j y v' e1 e2 e3
       refine⟨u',r',?_⟩
       rcases q with ⟨k,e⟩ | ⟨k,c,e,z⟩
       . refine .inl ⟨k,?_⟩
         have:y≠x:=fun e=>hj (zEk hN e1 (e ▸ hi))
         simp[this,e]
       . exact .inr ⟨k,c,e,z.sameBut hs (cne y c e)⟩
   . obtain⟨w',z⟩:=I.cell y c e
     exact⟨w',z.sameBut hs (cne y c e)⟩
   . obtain⟨e,n,ne,nf,d⟩:=I.pin p hp
     exact⟨(hs.2 p.1 ne).trans e,n,ne,nf,d⟩
 . have hfn:X.fn x=true:=by
    rcases hf with z | z
    . exact z
    . rw[z] at hk;cases hk
   obtain⟨c,hc⟩:=I.ok.has x (.inl hk)
   obtain⟨w',z⟩:=I.cell x c hc
   refine wpAny_storeName_cell I.ok.kind hk hc z (fun h' hc' hs=>?_)
   obtain⟨oc,hoc,hocd⟩:=id z
   refine h { s with heap:=h' } ⟨I.ok,I.os,I.bare,⟨fun b o e n hb hx=>?_,fun b o e n hb hx=>?_,I.base.free,fun b o e hx=>?_,I.base.tups,I.base.frzs,I.base.tbls⟩,⟨m,hn.sameBut hs (Ne.symm (cne x c hc)),fun j y v' e1 e2 e3=>?_⟩,fun y c' e=>?_,I.free,I.freeC,fun p hp=>?_,tracked ⟨oc,hoc,I.freeC x c hc⟩ hs,by simpa using I.len⟩ ⟨c,hs,.inr hc⟩
   . exact (hs.2 b (zW (zk (zS e) (I.ok.cab x c hfn hc)))).trans (I.base.keep b o e n hb hx)
   . obtain⟨sl,e1⟩:=I.base.slot b o e n hb hx
     exact⟨sl,(hs.2 b (zW (zk (zS e) (I.ok.cab x c hfn hc)))).trans e1⟩
   . obtain⟨o',e1⟩:=I.base.there b o e hx
     exact⟨o',(hs.2 b (zW (zk (zS e) (I.ok.cab x c hfn hc)))).trans e1⟩
   . by_cases hj:j=i
     . subst hj
       rw[hi] at e1;cases e1
       rw[List.getElem?_set_self hiσ] at e2
       cases e2
       exact⟨u,r,.inr ⟨.inl hk,c,hc,hc'⟩⟩
     . rw[List.getElem?_set_ne (Ne.symm hj)] at e2
       obtain⟨u',r',q⟩:=hl j y v' e1 e2 e3
       refine⟨u',r',?_⟩
       rcases q with q | ⟨k,c',e,z'⟩
       . exact .inl q
       . refine .inr ⟨k,c',e,z'.sameBut hs ?_⟩
         rintro rfl
         exact hj (zEk hN e1 (I.ok.inj _ _ _ e hc ▸ hi))
   . by_cases hcc:c'=c
     . subst hcc;exact⟨_,hc'⟩
     . obtain⟨w2,z2⟩:=I.cell y c' e
       exact⟨w2,z2.sameBut hs hcc⟩
   . obtain⟨e,n,ne,nf,d⟩:=I.pin p hp
     refine⟨(hs.2 p.1 ?_).trans e,n,ne,nf,d⟩
     intro q
     rw[q,hoc] at e
     have q':oc=p.2:=zQ e
     exact d w' (by rw[<-q'];exact hocd)
theorem zCb {M:Model}{A:Around}{E:Value->Shared->Prop}{i:Nat}{x:Str}{v:V}{u:Value}{Q:Unit->Shared->Prop}(I:Inv X pins σ H s)(hN:X.N.Nodup)(hi:X.N[i]? = some x)(hx:Loc X.env.scope x)(r:zBY v u)
 (h:∀s',Inv X pins (σ.set i (some v)) H s'->Q () s')(hf:X.fn x=true\/X.env.scope.names.lookup x=some .local:=by first | exact .inl rfl | exact .inr rfl | assumption):wpAny M A (storeName X.env x u) Q E s:=
 zHA I hN hi hx r (fun s' I' _=>h s' I') hf
theorem Inv.call' {s':Shared}{ch:List Addr}(I:Inv X pins σ H s)(ho:s'.os=s.os)(u:Un (frs X.stack) ch H H' s.heap s'.heap)(hok:HOk X.prog X.w H' s'.heap)(hg:AllBare s'.gens)
 (hch:∀b∈ch,(b∈X.ex\/X.s₀.heap.objs.size<=b)/\b≠X.env.locals/\(∀x c,X.env.cells.lookup x=some c->c≠b)/\∀p∈X.pn++pins,p.1≠b):Inv X pins σ H' s':=by
 obtain⟨h',g',d',t',o'⟩:=s'
 have e:o'=s.os:=ho
 subst e
 exact I.call (g':=g') (t':=t') (d':=d') u hok hg hch
end
noncomputable abbrev XK:=Value->Option Addr->Hp->Prop
noncomputable abbrev St:=List (Option V)
noncomputable abbrev VK:=V->Hp->Prop
noncomputable abbrev TE:=St->Hp->VK->Prop
noncomputable abbrev TT:=St->Hp->(Bool->Hp->Prop)->Prop
noncomputable abbrev TA:=St->Hp->(List V->Hp->Prop)->Prop
structure zEy where
 nx:St->Hp->Prop
 rt:VK
 bk:St->Hp->Prop:=fun _ _=>False
 ct:St->Hp->Prop:=fun _ _=>False
noncomputable abbrev TS:=zEy->St->Hp->Prop
noncomputable def EP (X:Cx)(pins:List (Addr×Obj))(σ:St)(Q:VK)(u:Value)(s':Shared):Prop:=∃v H',Inv X pins σ H' s'/\zBY v u/\Q v H'
noncomputable def TP (X:Cx)(pins:List (Addr×Obj))(σ:St)(Q:Bool->Hp->Prop)(b:Bool)(s':Shared):Prop:=∃H',Inv X pins σ H' s'/\Q b H'
noncomputable def AP (X:Cx)(pins:List (Addr×Obj))(σ:St)(Q:List V->Hp->Prop)(us:List Value)(s':Shared):Prop:=∃vs H',Inv X pins σ H' s'/\zA2 vs us/\Q vs H'
noncomputable def SP (X:Cx)(pins:List (Addr×Obj))(D:zEy)(f:Flow)(s':Shared):Prop:=
 match f with
 | .next=>∃ σ' H',Inv X pins σ' H' s'/\D.nx σ' H'
 | .brk=>∃ σ' H',Inv X pins σ' H' s'/\D.bk σ' H'
 | .cont=>∃ σ' H',Inv X pins σ' H' s'/\D.ct σ' H'
 | .ret u=>∃v σ' H',Inv X pins σ' H' s'/\zBY v u/\D.rt v H'
noncomputable def PE (X:Cx)(e:Expr)(t:TE):Prop:=
 ∀(pins:List (Addr×Obj))(s:Shared)(σ:St)(H:Hp)(Q:VK),Inv X pins σ H s->t σ H Q->wpAny (model X.prog X.w) X.A (eval e X.env) (EP X pins σ Q) X.xe s
noncomputable def PT (X:Cx)(e:Expr)(t:TT):Prop:=
 ∀(pins:List (Addr×Obj))(s:Shared)(σ:St)(H:Hp)(Q:Bool->Hp->Prop),Inv X pins σ H s->t σ H Q->wpAny (model X.prog X.w) X.A (isTrue e X.env (eval e X.env)) (TP X pins σ Q) X.xe s
noncomputable def PW (X:Cx)(e:Expr)(t:TT):Prop:=
 ∀(whole:Sem Value)(pins:List (Addr×Obj))(s:Shared)(σ:St)(H:Hp)(Q:Bool->Hp->Prop),Inv X pins σ H s->t σ H Q->wpAny (model X.prog X.w) X.A (isTrue e X.env whole) (TP X pins σ Q) X.xe s
theorem PW.pt {X:Cx}{e:Expr}{t:TT}(h:PW X e t):PT X e t:=h _
noncomputable def PA (X:Cx)(es:List Expr)(t:TA):Prop:=
 ∀(pos:Pos)(pins:List (Addr×Obj))(s:Shared)(σ:St)(H:Hp)(Q:List V->Hp->Prop),Inv X pins σ H s->t σ H Q->wpAny (model X.prog X.w) X.A (spliced (backTo pos (starEach es X.env))) (AP X pins σ Q) X.xe s
noncomputable def PS (X:Cx)(st:Stmt)(t:TS):Prop:=
 ∀(pins:List (Addr×Obj))(s:Shared)(σ:St)(H:Hp)(D:zEy),Inv X pins σ H s->t D σ H->wpAny (model X.prog X.w) X.A (exec st X.env) (SP X pins D) X.xe s
noncomputable def PSs (X:Cx)(st:List Stmt)(t:TS):Prop:=
 ∀(pins:List (Addr×Obj))(s:Shared)(σ:St)(H:Hp)(D:zEy),Inv X pins σ H s->t D σ H->wpAny (model X.prog X.w) X.A (execs st X.env) (SP X pins D) X.xe s
theorem thn {α:Type}{t:Sem α}{Q Q':α->Shared->Prop}{M:Model}{A:Around}{E:Value->Shared->Prop}{s:Shared}(h:wpAny M A t Q E s)(hQ:∀a s,Q a s->Q' a s):wpAny M A t Q' E s:=zAg h hQ fun _ _ x=>x
end L2
namespace L2
open PySem PySem.Spec PyProof.Rows
section
variable {X:Cx}
noncomputable def tVar (i:Nat):TE:=fun σ H Q=>∃v,σ[i]? = some (some v)/\Q v H
noncomputable def tC (v:V):TE:=fun _ H Q=>Q v H
theorem pe_var {i:Nat}{x:Str}{pos:Pos}(hN:X.N[i]? = some x)(hv:Vis X.env.scope x)(hd:(x==("__debug__" : Str))=false:=by decide) (hcd:(x==("__classdict__" : Str))=false:=by decide):PE X (.Name x pos) (tVar i):=by
 intro pins s σ H Q I h
 obtain⟨v,e,h⟩:=h
 obtain⟨m,hn,hl⟩:=I.loc
 obtain⟨u,r,l⟩:=hl i x v hN e hv
 have fin:EP X pins σ Q u s:=⟨v,H,I,r,h⟩
 rcases l with ⟨hk,hm⟩ | ⟨hk,c,hc,hcell⟩
 . exact wpAny_Name (wpAny_loadName_local I.ok.kind hk hn hm fin) hd
 . rcases hk with hk | hk
   . exact wpAny_Name (wpAny_loadName_cell I.ok.kind hk hc hcell fin) hd
   . exact wpAny_Name (wpAny_loadName_free I.ok.kind hk hc hcell fin hcd) hd
theorem zY {i j pos}:PE X (.Constant (.int i) j pos) (tC (.int i)):=fun _ _ _ H _ I h=>wpAny_Constant_int ⟨.int i,H,I.tok _,⟨_,rfl⟩,h⟩
theorem zCC {b j pos}:PE X (.Constant (.bool b) j pos) (tC (.bl b)):=fun _ _ _ H _ I h=>Constant_bool ⟨.bl b,H,I,rfl,h⟩
theorem zBX {j pos}:PE X (.Constant .none j pos) (tC .non):=fun _ _ _ H _ I h=>Constant_none ⟨.non,H,I,rfl,h⟩
theorem zDC {x j pos}:PE X (.Constant (.str x) j pos) (tC (.str x)):=fun _ _ _ H _ I h=>Calls.Constant_str ⟨.str x,H,I.tok _,⟨_,rfl⟩,h⟩
noncomputable def Gl (X:Cx)(x:Str):Prop:=X.env.kindOf x=some .globalImplicit
theorem zCY {E:Value->Shared->Prop}{pins:List (Addr×Obj)}{s:Shared}{σ:St}{H:Hp}{x:Str}{u:Value}{pos:Pos}{Q:Value->Shared->Prop}(I:Inv X pins σ H s)(hg:Gl X x)(hm:X.mg x=some u)(h:Q u s)
 (hd:(x==("__debug__" : Str))=false:=by decide):wpAny (model X.prog X.w) X.A (eval (.Name x pos) X.env) Q E s:=
 Calls.Name_function_global I.ok.kind hg (Calls.loadGlobal_global (by rw[I.ok.glob];exact I.mod.glob.keeps I.bk) hm h) hd
theorem zCU {E:Value->Shared->Prop}{pins:List (Addr×Obj)}{s:Shared}{σ:St}{H:Hp}{x:Str}{u:Value}{pos:Pos}{Q:Value->Shared->Prop}(I:Inv X pins σ H s)(hg:Gl X x)(hm:X.mg x=none)(hv:bootBuiltins x=some u)(h:Q u s)
 (hn:x ≠ "__name__" := by decide) (hd:(x==("__debug__" : Str))=false:=by decide):wpAny (model X.prog X.w) X.A (eval (.Name x pos) X.env) Q E s:=by
 obtain⟨mb,h1,h2⟩:=I.mod.blt
 exact Calls.Name_function_global I.ok.kind hg (Calls.loadGlobal_builtin (by rw[I.ok.glob];exact I.mod.glob.keeps I.bk) hm (by rw[I.ok.blt];exact h1.keeps I.bk) ((h2 x hn).trans hv) h) hd
theorem zAm {x:Str}{v:V}{u:Value}{pos:Pos}(hg:Gl X x)(hm:X.mg x=some u)(r:zBY v u)(hd:(x==("__debug__" : Str))=false:=by decide):PE X (.Name x pos) (tC v):=
 fun _ _ _ H _ I h=>zCY I hg hm ⟨v,H,I,r,h⟩ hd
variable {a b:Expr}{ta tb:TE}{pos:Pos}
noncomputable def tB (t:TE):TT:=fun σ H Q=>t σ H fun x H1=>∃c,x = .bl c/\Q c H1
theorem zBd {e:Expr}{t:TE}(h:PE X e t)(he:∀whole,isTrue e X.env whole=(do let v <-whole;standAt e.pos;holding [v] (truthy v)):=by intro _;rfl):PT X e (tB t):=by
 intro pins s σ H Q I hw
 refine isTrue_plain (thn (h pins s σ H _ I hw) fun v s1 ⟨x,H1,I1,r1,q1⟩=>?_) (he _)
 obtain⟨d,rfl,q⟩:=q1
 cases r1
 exact zBL ⟨H1,I1,q⟩
variable {tA tB':TT}{rest:List Expr}
noncomputable def tAnd (t u:TT):TT:=fun σ H Q=>t σ H fun c H1=>if c=true then u σ H1 Q else Q false H1
noncomputable def tOr (t u:TT):TT:=fun σ H Q=>t σ H fun c H1=>if c=true then Q true H1 else u σ H1 Q
noncomputable def tNot (t:TT):TT:=fun σ H Q=>t σ H fun c H1=>Q (!c) H1
theorem zDU (ha:PT X a tA):PW X (.BoolOp .And [a] pos) tA:=by
 intro wh pins s σ H Q I h
 refine isTrue_and (thn (ha pins s σ H Q I h) fun c s1 e=>?_)
 cases c with
 | true=>exact isTrue_and_nil e
 | false=>exact e
theorem zEJ (ha:PT X a tA):PW X (.BoolOp .Or [a] pos) tA:=by
 intro wh pins s σ H Q I h
 refine isTrue_or (thn (ha pins s σ H Q I h) fun c s1 e=>?_)
 cases c with
 | false=>exact isTrue_or_nil e
 | true=>exact e
theorem zFE (ha:PT X a tA)(hb:PW X (.BoolOp .And (b::rest) pos) tB'):PW X (.BoolOp .And (a::b::rest) pos) (tAnd tA tB'):=by
 intro wh pins s σ H Q I h
 refine isTrue_and (thn (ha pins s σ H _ I h) fun c s1 ⟨H1,I1,q1⟩=>?_)
 cases c with
 | true=>exact hb wh pins s1 σ H1 Q I1 q1
 | false=>exact⟨H1,I1,q1⟩
theorem zFD (ha:PT X a tA)(hb:PW X (.BoolOp .Or (b::rest) pos) tB'):PW X (.BoolOp .Or (a::b::rest) pos) (tOr tA tB'):=by
 intro wh pins s σ H Q I h
 refine isTrue_or (thn (ha pins s σ H _ I h) fun c s1 ⟨H1,I1,q1⟩=>?_)
 cases c with
 | true=>exact⟨H1,I1,q1⟩
 | false=>exact hb wh pins s1 σ H1 Q I1 q1
theorem zBu (ha:PT X a tA):PT X (.UnaryOp .Not a pos) (tNot tA):=by
 intro pins s σ H Q I h
 exact isTrue_not (ha pins s σ H (fun c H1=>Q (!c) H1) I h)
noncomputable def tAndV (ta tb:TE):TE:=fun σ H Q=>ta σ H fun x H1=>∃c,x = .bl c/\if c=true then tb σ H1 Q else Q (.bl false) H1
noncomputable def tOrV (ta tb:TE):TE:=fun σ H Q=>ta σ H fun x H1=>∃c,x = .bl c/\if c=true then Q (.bl true) H1 else tb σ H1 Q
noncomputable def tNotV (ta:TE):TE:=fun σ H Q=>ta σ H fun x H1=>∃c,x = .bl c/\Q (.bl (!c)) H1
theorem zDX {op} {t:TE}(h:PE X a t):PE X (.BoolOp op [a] pos) t:=fun pins s σ H Q I hw=>BoolOp_one (h pins s σ H Q I hw)
theorem zDY (ha:PE X a ta)(hb:PE X (.BoolOp .And (b::rest) pos) tb):PE X (.BoolOp .And (a::b::rest) pos) (tAndV ta tb):=by
 intro pins s σ H Q I h
 refine BoolOp_and (thn (ha pins s σ H _ I h) fun v s1 ⟨x,H1,I1,r1,q1⟩=>?_)
 obtain⟨c,rfl,q1⟩:=q1
 cases r1
 refine zBL ?_
 cases c with
 | true=>exact hb pins s1 σ H1 Q I1 q1
 | false=>exact⟨.bl false,H1,I1,rfl,q1⟩
theorem pe_or (ha:PE X a ta)(hb:PE X (.BoolOp .Or (b::rest) pos) tb):PE X (.BoolOp .Or (a::b::rest) pos) (tOrV ta tb):=by
 intro pins s σ H Q I h
 refine BoolOp_or (thn (ha pins s σ H _ I h) fun v s1 ⟨x,H1,I1,r1,q1⟩=>?_)
 obtain⟨c,rfl,q1⟩:=q1
 cases r1
 refine zBL ?_
 cases c with
 | false=>exact hb pins s1 σ H1 Q I1 q1
 | true=>exact⟨.bl true,H1,I1,rfl,q1⟩
theorem pe_not (ha:PE X a ta):PE X (.UnaryOp .Not a pos) (tNotV ta):=by
 intro pins s σ H Q I h
 refine UnaryOp_ (thn (ha pins s σ H _ I h) fun v s1 ⟨x,H1,I1,r1,q1⟩=>?_)
 obtain⟨c,rfl,q1⟩:=q1
 cases r1
 exact not_of (zBL ⟨.bl (!c),H1,I1,rfl,q1⟩)
noncomputable def tIf (t:TT)(ta tb:TE):TE:=fun σ H Q=>t σ H fun c H1=>if c=true then ta σ H1 Q else tb σ H1 Q
theorem zGP {c:Expr}(hc:PT X c tA)(ha:PE X a ta)(hb:PE X b tb):PE X (.IfExp c a b pos) (tIf tA ta tb):=by
 intro pins s σ H Q I h
 refine wpAny_IfExp (thn (hc pins s σ H _ I h) fun d s1 ⟨H1,I1,q1⟩=>?_)
 cases d with
 | true=>exact ha pins s1 σ H1 Q I1 q1
 | false=>exact hb pins s1 σ H1 Q I1 q1
end
end L2
namespace L2
open PySem PySem.Spec PyProof.Rows
noncomputable def SqL (K:PySem.W.Frag)(H:Hp)(a:Addr)(xs:List V):Prop:=
 Rd H a (.lst xs) \/
  ∃(o:Obj)(its:Array Value)(n:Nat),K.lookup a=some o/\o.cls = .type "list" /\ o.dict=none/\o.data = .seq its n/\its.size<=sizeLine/\zA2 xs its.toList
noncomputable def SqT (K:PySem.W.Frag)(H:Hp)(a:Addr)(xs:List V):Prop:=
 Rd H a (.tup xs) \/
  ∃(o:Obj)(its:Array Value)(n:Nat),K.lookup a=some o/\o.cls = .type "tuple" /\ o.data = .seq its n/\its.size<=sizeLine/\zA2 xs its.toList
noncomputable def absV:Value->Option V
 | .none=>some .non
 | .bool b=>some (.bl b)
 | .int i _=>some (.int i)
 | .str x _=>some (.str x)
 | .bytes b _=>some (.byt b)
 | .float b _=>some (.flt b)
 | .ref a=>some (.ref a)
 | .type n=>some (.ty n)
 | _=>none
theorem zBY.abs {x:V}{u:Value}(r:zBY x u):absV u=some x:=by
 cases x with
 | non=>cases r;rfl
 | bl _=>cases r;rfl
 | int _=>obtain⟨t,rfl⟩:=r;rfl
 | str _=>obtain⟨t,rfl⟩:=r;rfl
 | byt _=>obtain⟨t,rfl⟩:=r;rfl
 | flt _=>obtain⟨t,rfl⟩:=r;rfl
 | ref _=>cases r;rfl
 | ty _=>cases r;rfl
theorem zBY.inj {x y:V}{u:Value}(r:zBY x u)(q:zBY y u):x=y:=zQ (r.abs.symm.trans q.abs)
theorem zA2.inj:∀{xs ys:List V}{us:List Value},zA2 xs us->zA2 ys us->xs=ys
 | _,_,_,.nil,.nil=>rfl
 | _,_,_,.cons r t,.cons r' t'=>by rw[r.inj r',zA2.inj t t']
section
variable {X:Cx}{pins:List (Addr×Obj)}{σ:St}{H:Hp}{s:Shared}{a:Addr}{xs ys:List V}
theorem SqL.of {K:PySem.W.Frag}(h:H a=some (.lst xs)):SqL K H a xs:=.inl (.inl h)
theorem SqT.of {K:PySem.W.Frag}(h:H a=some (.tup xs)):SqT K H a xs:=.inl (.inl h)
theorem Inv.list (I:Inv X pins σ H s)(h:SqL X.K H a xs):∃its:List Value,zA2 xs its/\PlainL s.heap a its.toArray/\xs.length<=sizeLine:=by
 rcases h with h | ⟨o,its,n,hk,hc,hd,hs,hz,r⟩
 . obtain⟨z,its,n,r,e⟩:=h.ok I.hok
   exact⟨its,r,⟨_,n,e,rfl,rfl,rfl⟩,z⟩
 . refine⟨its.toList,r,⟨o,n,I.kIn a o hk,hc,hd,by simpa using hs⟩,?_⟩
   have e:=r.length
   simp only[Array.length_toList] at e
   omega
theorem Inv.tuple (I:Inv X pins σ H s)(h:SqT X.K H a xs):∃its:List Value,zA2 xs its/\IsTup s.heap a its.toArray/\xs.length<=sizeLine:=by
 rcases h with h | ⟨o,its,n,hk,hc,hs,hz,r⟩
 . obtain⟨⟨z,_⟩,its,r,p⟩:=h.ok I.hok
   exact⟨its,r,p,z⟩
 . refine⟨its.toList,r,⟨o,I.kIn a o hk,hc,n,by simpa using hs⟩,?_⟩
   have e:=r.length
   simp only[Array.length_toList] at e
   omega
theorem Inv.list_inj (I:Inv X pins σ H s)(h:SqL X.K H a xs)(h':SqL X.K H a ys):xs=ys:=by
 obtain⟨its,r,⟨o,n,e,_,_,d⟩,_⟩:=I.list h
 obtain⟨its',r',⟨o',n',e',_,_,d'⟩,_⟩:=I.list h'
 rw[e] at e';cases e'
 rw[d] at d'
 injection d' with d1 _
 have:its=its':=by simpa using congrArg Array.toList d1
 subst this
 exact r.inj r'
theorem Inv.tuple_inj (I:Inv X pins σ H s)(h:SqT X.K H a xs)(h':SqT X.K H a ys):xs=ys:=by
 obtain⟨its,r,⟨o,e,_,n,d⟩,_⟩:=I.tuple h
 obtain⟨its',r',⟨o',e',_,n',d'⟩,_⟩:=I.tuple h'
 rw[e] at e';cases e'
 rw[d] at d'
 injection d' with d1 _
 have:its=its':=by simpa using congrArg Array.toList d1
 subst this
 exact r.inj r'
end
noncomputable abbrev Cx.wish (X:Cx)(E:Value->Shared->Prop):Cx:={ X with xe:=E }
noncomputable abbrev Cx.nox (X:Cx):Cx:=X.wish fun _ _=>False
theorem Cx.Ok.wish {X:Cx}(ok:X.Ok)(E:Value->Shared->Prop):(X.wish E).Ok:=
 ⟨ok.mod,ok.kind,ok.glob,ok.blt,ok.above,ok.inj,ok.has,ok.cab,ok.hd,ok.frames,ok.stk,ok.exf,ok.bs,ok.bsz,ok.noex,ok.exfs,ok.funs,ok.frf⟩
theorem Cx.Ok.unwish {X:Cx}{E:Value->Shared->Prop}(ok:(X.wish E).Ok):X.Ok:=
 ⟨ok.mod,ok.kind,ok.glob,ok.blt,ok.above,ok.inj,ok.has,ok.cab,ok.hd,ok.frames,ok.stk,ok.exf,ok.bs,ok.bsz,ok.noex,ok.exfs,ok.funs,ok.frf⟩
section
variable {X:Cx}{pins:List (Addr×Obj)}{σ:St}{H:Hp}{s:Shared}{E:Value->Shared->Prop}
theorem Inv.wish (I:Inv X pins σ H s)(E:Value->Shared->Prop):Inv (X.wish E) pins σ H s:=⟨I.ok.wish E,I.os,I.bare,I.base,I.loc,I.cell,I.free,I.freeC,I.pin,I.hok,I.len⟩
theorem Inv.unwish (I:Inv (X.wish E) pins σ H s):Inv X pins σ H s:=⟨I.ok.unwish,I.os,I.bare,I.base,I.loc,I.cell,I.free,I.freeC,I.pin,I.hok,I.len⟩
theorem SP.unwish {D:zEy}{f:Flow}{s':Shared}(h:SP (X.wish E) pins D f s'):SP X pins D f s':=by
 cases f with
 | next=>obtain⟨σ',H',I,q⟩:=h;exact⟨σ',H',I.unwish,q⟩
 | brk=>obtain⟨σ',H',I,q⟩:=h;exact⟨σ',H',I.unwish,q⟩
 | cont=>obtain⟨σ',H',I,q⟩:=h;exact⟨σ',H',I.unwish,q⟩
 | ret u=>obtain⟨v,σ',H',I,r,q⟩:=h;exact⟨v,σ',H',I.unwish,r,q⟩
theorem PSs.nox {st:List Stmt}{t:TS}(h:PSs X.nox st t):PSs X st t:=fun pins s σ H D I hw=>
 zAg (h pins s σ H D (I.wish _) hw) (fun _ _ q=>q.unwish) fun _ _ z=>False.elim z
end
section
variable {X:Cx}{st:Stmt}{rest:List Stmt}{t u:TS}{e:Expr}{te:TE}{pos:Pos}
noncomputable def tNext:TS:=fun D σ H=>D.nx σ H
noncomputable def tSeq (t u:TS):TS:=fun D σ H=>t { D with nx:=u D } σ H
theorem zAO:PSs X [] tNext:=fun _ _ σ H _ I h=>wpAny_execs_nil ⟨σ,H,I,h⟩
theorem zO (h1:PS X st t)(h2:PSs X rest u):PSs X (st::rest) (tSeq t u):=by
 intro pins s σ H D I h
 refine wpAny_execs_cons (thn (h1 pins s σ H { D with nx:=u D } I h) fun f s1 q=>?_)
 cases f with
 | next=>
  obtain⟨σ',H',I',q⟩:=q
  exact h2 pins s1 σ' H' D I' q
 | ret v=>exact q
 | brk=>exact q
 | cont=>exact q
theorem zX (h1:PS X st t):PSs X [st] t:=by
 intro pins s σ H D I h
 refine wpAny_execs_cons (thn (h1 pins s σ H D I h) fun f s1 q=>?_)
 cases f with
 | next=>exact wpAny_execs_nil q
 | ret v=>exact q
 | brk=>exact q
 | cont=>exact q
theorem Inv.quiet {pins:List (Addr×Obj)}{σ:St}{H:Hp}{s:Shared}(I:Inv X pins σ H s):interactive X.env=false:=by simp[interactive,I.ok.kind]
noncomputable def tDrop (te:TE):TS:=fun D σ H=>te σ H fun _ H1=>D.nx σ H1
theorem zBp (he:PE X e te)(hs:swapsWith e none pos.line X.env=pure false:=by rfl):PS X (.Expr e pos) (tDrop te):=by
 intro pins s σ H D I h
 exact wpAny_Expr_any (thn (he pins s σ H _ I h) fun v s1 ⟨x,H1,I1,r1,q1⟩=>⟨σ,H1,I1,q1⟩) I.quiet hs
noncomputable def tRet (te:TE):TS:=fun D σ H=>te σ H D.rt
theorem zAD (he:PE X e te):PS X (.Return (some e) pos) (tRet te):=by
 intro pins s σ H D I h
 exact wpAny_Return_some (thn (he pins s σ H _ I h) fun v s1 ⟨x,H1,I1,r1,q1⟩=>⟨x,σ,H1,I1,r1,q1⟩)
noncomputable def tIfS (c:TT)(t u:TS):TS:=fun D σ H=>c σ H fun b H1=>if b=true then t D σ H1 else u D σ H1
theorem zBK {c:Expr}{a b:List Stmt}{tc:TT}(hc:PT X c tc)(ha:PSs X a t)(hb:PSs X b u):PS X (.If c a b pos) (tIfS tc t u):=by
 intro pins s σ H D I h
 refine wpAny_If (thn (hc pins s σ H _ I h) fun d s1 ⟨H1,I1,q1⟩=>?_)
 cases d with
 | true=>exact ha pins s1 σ H1 D I1 q1
 | false=>exact hb pins s1 σ H1 D I1 q1
end
noncomputable abbrev TG:=V->St->Hp->(St->Hp->Prop)->Prop
noncomputable abbrev TGs:=List V->St->Hp->(St->Hp->Prop)->Prop
noncomputable def PG (X:Cx)(target:Expr)(t:TG):Prop:=
 ∀(pins:List (Addr×Obj))(s:Shared)(σ:St)(H:Hp)(v:V)(u:Value)(Q:St->Hp->Prop),Inv X pins σ H s->zBY v u->t v σ H Q ->
  wpAny (model X.prog X.w) X.A (assign target X.env u) (fun _ s'=>∃ σ' H',Inv X pins σ' H' s'/\Q σ' H') X.xe s
noncomputable def PGs (X:Cx)(ts:List Expr)(t:TGs):Prop:=
 ∀(pins:List (Addr×Obj))(s:Shared)(σ:St)(H:Hp)(vs:List V)(us:List Value)(Q:St->Hp->Prop),Inv X pins σ H s->zA2 vs us->t vs σ H Q ->
  wpAny (model X.prog X.w) X.A (assignInOrder ((assignEach ts X.env).map (·.2)) us) (fun _ s'=>∃ σ' H',Inv X pins σ' H' s'/\Q σ' H') X.xe s
noncomputable abbrev TSet:=V->V->V->Hp->(Hp->Prop)->Prop
noncomputable def PSet (X:Cx)(t:TSet):Prop:=
 ∀(pins:List (Addr×Obj))(s:Shared)(σ:St)(H:Hp)(o i v:V)(ov iv u:Value)(Q:Hp->Prop),Inv X pins σ H s->zBY o ov->zBY i iv->zBY v u->t o i v H Q ->
  wpAny (model X.prog X.w) X.A (setItem ov iv u) (fun _ s'=>∃H',Inv X pins σ H' s'/\Q H') X.xe s
section
variable {X:Cx}{pos:Pos}
noncomputable def zLg (i:Nat):TG:=fun v σ H Q=>Q (σ.set i (some v)) H
theorem zz {i:Nat}{x:Str}(hN:X.N.Nodup)(hi:X.N[i]? = some x)(hx:Loc X.env.scope x)(hf:X.fn x=true\/X.env.scope.names.lookup x=some .local:=by first | exact .inl rfl | exact .inr rfl | assumption):PG X (.Name x pos) (zLg i):=by
 intro pins s σ H v u Q I r h
 exact wpAny_assign_Name (zCb I hN hi hx r (fun s' I'=>⟨_,H,I',h⟩) hf)
noncomputable def gNil:TGs:=fun vs σ H Q=>vs=[]/\Q σ H
noncomputable def gCons (t:TG)(u:TGs):TGs:=fun vs σ H Q=>∃v r,vs=v::r/\t v σ H fun σ' H'=>u r σ' H' Q
theorem zCJ:PGs X [] gNil:=by
 intro pins s σ H vs us Q I r h
 obtain⟨e,h⟩:=h
 subst e
 cases r
 exact assignInOrder_nil ⟨σ,H,I,h⟩
theorem zAz {e:Expr}{es:List Expr}{t:TG}{u:TGs}(h1:PG X e t)(h2:PGs X es u)
 (hs:(assignEach (e::es) X.env).map (·.2)=assign e X.env::(assignEach es X.env).map (·.2):=by rfl):PGs X (e::es) (gCons t u):=by
 intro pins s σ H vs us Q I r h
 obtain⟨v,vr,e1,h⟩:=h
 subst e1
 cases r with
 | cons r rr=>
  rw[hs]
  refine assignInOrder_cons (thn (h1 pins s σ H _ _ _ I r h) fun _ s1 ⟨σ1,H1,I1,q1⟩=>?_)
  exact h2 pins s1 σ1 H1 _ _ Q I1 rr q1
noncomputable def gTup (K:PySem.W.Frag)(n:Nat)(t:TGs):TG:=fun v σ H Q=>∃a xs,v = .ref a/\SqT K H a xs/\xs.length=n/\t xs σ H Q
theorem zDW {es:List Expr}{k:Nat}{t:TGs}{n:Nat}(hc:X.calm=true)(h:PGs X es t)
 (hn:(assignEach es X.env).length=n:=by rfl)(hst:(assignEach es X.env).findIdx? (·.1)=none:=by rfl):PG X (.Tuple es k pos) (gTup X.K n t):=by
 intro pins s σ H v u Q I r hw
 obtain⟨a,xs,e1,hq,hl,hw⟩:=hw
 subst e1
 cases r
 obtain⟨its,rv,ht,hz⟩:=I.tuple hq
 refine assign_Tuple_tuple (I.ok.hd hc) ht (by simp[hn,<-hl,rv.length]) hst fun h' hx=>?_
 have I1:Inv X pins σ H { s with heap:=h' }:=I.kept (t':=s.toks) fun b o e=>hx b o (zW (zS e)) e
 exact h pins _ σ H xs _ Q I1 (by simpa using rv) hw
noncomputable def gSub (to ti:TE)(t:TSet):TG:=fun v σ H Q=>to σ H fun o H1=>ti σ H1 fun i H2=>t o i v H2 fun H3=>Q σ H3
theorem zFJ {o i:Expr}{to ti:TE}{t:TSet}(ho:PE X o to)(hi:PE X i ti)(hs:PSet X t)
 (ha:∀v,assign (.Subscript o i pos) X.env v=(do
  let ov <-holding [v] (eval o X.env)
  let iv <-holding [v,ov] (eval i X.env)
  standAt pos
  holding [v,ov,iv] (setItem ov iv v)
  release [v,ov,iv] []):=by intro _;rfl):PG X (.Subscript o i pos) (gSub to ti t):=by
 intro pins s σ H v u Q I r h
 rw[ha]
 refine zA (zAa (thn (ho pins s σ H _ I h) fun ov s1 ⟨x,H1,I1,r1,q1⟩=>?_))
 refine zA (zAa (thn (hi pins s1 σ H1 _ I1 q1) fun iv s2 ⟨y,H2,I2,r2,q2⟩=>?_))
 refine zA (wpAny_standAt (zA (zAa (thn (hs pins s2 σ H2 x y v ov iv u _ I2 r1 r2 r q2) fun _ s3 ⟨H3,I3,q3⟩=>?_))))
 exact wpAny_release ⟨σ,H3,I3,q3⟩
noncomputable def tAsg (te:TE)(g:TG):TS:=fun D σ H=>te σ H fun x H1=>g x σ H1 D.nx
theorem zDA {tg e:Expr}{te:TE}{g:TG}(he:PE X e te)(hg:PG X tg g)(hs:swapsWithSole [tg] e pos.line X.env=pure false:=by rfl)(hw:swappedStores [tg] e X.env=pure none:=by rfl)
 (h1:(assignEach [tg] X.env).map (·.2)=[assign tg X.env]:=by rfl):PS X (.Assign [tg] e pos) (tAsg te g):=by
 intro pins s σ H D I h
 refine wpAny_Assign_stores (thn (he pins s σ H _ I h) fun v s1 ⟨x,H1,I1,r1,q1⟩=>?_) hs hw
 rw[h1]
 exact thn (hg pins s1 σ H1 x v _ I1 r1 q1) fun _ s2 q=>q
theorem zAK {i:Nat}{x:Str}{e:Expr}{te:TE}{pos':Pos}(hN:X.N.Nodup)(hi:X.N[i]? = some x)(hx:Loc X.env.scope x)(he:PE X e te)(hs:swapsWith e (some (.Name x pos')) pos.line X.env=pure false:=by rfl)(hf:X.fn x=true\/X.env.scope.names.lookup x=some .local:=by first | exact .inl rfl | exact .inr rfl | assumption) :
 PS X (.Assign [.Name x pos'] e pos) (tAsg te (zLg i)):=by
 intro pins s σ H D I h
 refine wpAny_Assign_Name (thn (he pins s σ H _ I h) fun v s1 ⟨y,H1,I1,r1,q1⟩=>?_) hs
 exact zCb I1 hN hi hx r1 (fun s2 I2=>⟨_,H1,I2,q1⟩) hf
end
section
variable {X:Cx}{pos:Pos}
noncomputable def tWhile (c:TT)(tb:TS):TS:=fun D σ H=>∃W:Nat->St->Hp->Prop,(∃m,W m σ H)/\∀m σ H,W m σ H ->
 c σ H fun b H1=>if b=true then ∃N:St->Hp->Prop,(∀ σ' H',N σ' H'->∃m',m'<m/\W m' σ' H')/\tb { D with nx:=N,ct:=N,bk:=D.nx } σ H1 else D.nx σ H1
theorem zGN {c:Expr}{body:List Stmt}{tc:TT}{tb:TS}(hp:PassesOwn (model X.prog X.w) X.A X.env X.xe)(hc:PT X c tc)(hb:PSs X body tb):PS X (.While c body [] pos) (tWhile tc tb):=by
 intro pins s σ H D I h
 obtain⟨W,⟨m0,w0⟩,turn⟩:=h
 refine wpAny_While (codeAny_whileLoop (fun n s'=>∃ σ' H',Inv X pins σ' H' s'/\W n σ' H') ?_ m0 ⟨σ,H,I,w0⟩)
 rintro n s1 ⟨σ1,H1,I1,w1⟩
 refine wpAny_passesOwn hp (thn (hc pins s1 σ1 H1 _ I1 (turn n σ1 H1 w1)) fun b s2 ⟨H2,I2,q2⟩=>?_)
 cases b with
 | true=>
  obtain⟨N,hN,q2⟩:=q2
  rw[if_pos rfl]
  refine wpAny_passesOwn hp (thn (hb pins s2 σ1 H2 _ I2 q2) fun f s3 q3=>?_)
  cases f with
  | next=>
   obtain⟨σ3,H3,I3,n3⟩:=q3
   obtain⟨m',hm,w3⟩:=hN σ3 H3 n3
   exact⟨m',hm,σ3,H3,I3,w3⟩
  | cont=>
   obtain⟨σ3,H3,I3,n3⟩:=q3
   obtain⟨m',hm,w3⟩:=hN σ3 H3 n3
   exact⟨m',hm,σ3,H3,I3,w3⟩
  | brk=>exact q3
  | ret v=>exact q3
 | false=>
  rw[if_neg zT]
  exact wpAny_execs_nil ⟨σ1,H2,I2,q2⟩
end
structure It where
 go:Nat->Hp->Prop
 yld:Nat->Hp->V->Hp->Prop
 stop:Nat->Hp->Prop
noncomputable def zG2 (X:Cx)(pins:List (Addr×Obj))(H:Hp)(b:Addr):Prop:=
 H b=none/\b≠X.env.locals/\b∉X.fs/\(b∈X.ex\/X.s₀.heap.objs.size<=b)/\(∀x c,X.env.cells.lookup x=some c->c≠b)/\∀p∈X.pn++pins,p.1≠b
theorem Inv.fpOk {X:Cx}{pins:List (Addr×Obj)}{σ:St}{H H':Hp}{s:Shared}{b:Addr}(I:Inv X pins σ H s)(hb:s.heap.objs.size<=b)(hn:H' b=none):zG2 X pins H' b:=by
 refine⟨hn,zAH (zk I.lt hb),I.nofs hb,.inr (zAp I.sz hb),fun x c e z=>?_,fun p hp z=>?_⟩
 . obtain⟨v,q⟩:=I.cell x c e
   exact absurd (zk q.lt (by rw[z];exact hb)) (Nat.lt_irrefl _)
 . exact absurd (zk (zS (I.pin p hp).1) (by rw[z];exact hb)) (Nat.lt_irrefl _)
structure Turn (P:Program)(w:World)(K:PySem.W.Frag)(tg:Expr)(J:It)(fp:List Addr)(it:Addr)(tn:Nat->Heap->Prop):Prop where
 mem:it∈fp
 obj:∀i h,tn i h->∀b∈fp,∃o,h.get? b=some o/\∀v,o.data ≠ .cell v
 keep:∀i h h',tn i h->(∀b∈fp,∀o,h.get? b=some o->h'.get? b=some o)->tn i h'
 item:∀(X:Cx),X.prog=P->X.w=w->X.K=K->X.calm=true->∀(i:Nat)(pins:List (Addr×Obj))(s:Shared)(σ:St)(H:Hp)(E:Value->Shared->Prop),Inv X pins σ H s->(∀b∈fp,zG2 X pins H b)->tn i s.heap->J.go i H ->
  wpAny (model P w) X.A (pyNext (.ref it)) (fun r s1=>∃u,r=some u /\
   wpAny (model P w) X.A (letOwnedTupleGo tg (.ref it) u) (fun _ s2=>∃x H',Inv X pins σ H' s2/\zBY x u/\J.yld i H x H'/\tn (i+1) s2.heap/\∀b∈fp,H' b=none) E s1) E s
 done:∀(X:Cx),X.prog=P->X.w=w->X.K=K->X.calm=true->∀(i:Nat)(pins:List (Addr×Obj))(s:Shared)(σ:St)(H:Hp)(E:Value->Shared->Prop),Inv X pins σ H s->(∀b∈fp,zG2 X pins H b)->tn i s.heap->J.stop i H ->
  wpAny (model P w) X.A (pyNext (.ref it)) (fun r s1=>r=none/\Inv X pins σ H s1) E s
 self:∀(A:Around)(i:Nat)(s:Shared)(Q:Value->Shared->Prop)(E:Value->Shared->Prop),tn i s.heap->Q (.ref it) s->wpAny (model P w) A (pyIter (.ref it)) Q E s
noncomputable abbrev TI:=St->Hp->(It->Hp->Prop)->Prop
noncomputable def PIE (X:Cx)(pins:List (Addr×Obj))(σ:St)(tg:Expr)(R:It->Hp->Prop)(itv:Value)(s2:Shared):Prop:=
 ∃(it:Addr)(fp:List Addr)(tn:Nat->Heap->Prop)(J:It)(H':Hp),itv = .ref it/\Inv X pins σ H' s2/\Turn X.prog X.w X.K tg J fp it tn/\tn 0 s2.heap/\(∀b∈fp,zG2 X pins H' b)/\R J H'
noncomputable def PI (X:Cx)(tg iter:Expr)(wi:TI):Prop:=
 ∀(pins:List (Addr×Obj))(s:Shared)(σ:St)(H:Hp)(R:It->Hp->Prop),Inv X pins σ H s->wi σ H R ->
  wpAny (model X.prog X.w) X.A (eval iter X.env) (fun v s1=>wpAny (model X.prog X.w) X.A (pyIter v) (PIE X pins σ tg R) X.xe s1) X.xe s
theorem zLe {M:Model}{A:Around}{E:Value->Shared->Prop}{s:Shared}{tg:Expr}{it:Addr}{u:Value}{o:Obj}{n:String}{vs:Array Value}{Q:Unit->Shared->Prop}(ho:s.heap.get? it=some o)(hc:o.cls = .type n)(hd:o.data = .fields vs)
 (hn:["enumerate", "zip", "dict_itemiterator", "dict_reverseitemiterator", "odict_iterator", "itertools.zip_longest", "itertools.pairwise"].contains n=false) (hQ:Q () s):wpAny M A (letOwnedTupleGo tg (.ref it) u) Q E s:=by
 unfold letOwnedTupleGo
 cases tg <;> first
  | exact zG hQ
  | (cases u <;> first
   | exact zG hQ
   | (refine zA (wpAny_load ho ?_)
      rw[hc,hd]
      show wpAny M A (if (["enumerate", "zip", "dict_itemiterator", "dict_reverseitemiterator", "odict_iterator", "itertools.zip_longest", "itertools.pairwise"].contains n && vs[0]? == some (rawInt _))=true then _ else _) Q E s
      rw[if_neg (by intro h;rw[hn,Bool.false_and] at h;cases h)]
      exact zG hQ))
noncomputable def Itl (K:PySem.W.Frag)(a:Addr):It:=
 ⟨fun i H=>∃xs x,SqL K H a xs/\xs[i]? = some x,fun i H x H'=>H'=H/\∀xs,SqL K H a xs->xs[i]? = some x,fun i H=>∃xs,SqL K H a xs/\xs.length<=i⟩
noncomputable def Itt (K:PySem.W.Frag)(a:Addr):It:=
 ⟨fun i H=>∃xs x,SqT K H a xs/\xs[i]? = some x,fun i H x H'=>H'=H/\∀xs,SqT K H a xs->xs[i]? = some x,fun i H=>∃xs,SqT K H a xs/\xs.length<=i⟩
noncomputable def Itr (lo:Int)(n:Nat):It:=⟨fun i _=>i<n,fun i H x H'=>H'=H/\x = .int (lo+i),fun i _=>n<=i⟩
theorem zG7 {P:Program}{w:World}{K:PySem.W.Frag}{tg:Expr}(a it:Addr):Turn P w K tg (Itl K a) [it] it (fun i h=>h.IsListIter it a i) where
 mem:=by simp
 obj:=fun i h st b hb=>by
  have e:b=it:=by simpa using hb
  subst e
  obtain⟨o,e,c,d⟩:=st
  exact⟨o,e,fun v z=>by rw[d] at z;cases z⟩
 keep:=fun i h h' st k=>st.at fun o e=>k it (by simp) o e
 item:=by
  intro X hP hw hK hc i pins s σ H E I hf st hg
  subst hP hw hK
  obtain⟨xs,x,hq,hx⟩:=hg
  obtain⟨its,rv,p,hz⟩:=I.list hq
  obtain⟨u,hu,ru⟩:=rv.get hx
  obtain⟨f0,f1,f2,f3,f4,f5⟩:=hf it (by simp)
  refine wpAny_pyNext_list_item st p.isList (x:=u) (by simpa using hu) fun h' st' sb=>?_
  have I1:Inv X pins σ H { s with heap:=h' }:=I.turned (t':=s.toks) (fun b o hb e=>(sb.2 b hb).trans e) f0 f1 f3 f4 f5
  obtain⟨o,e,c,d⟩:=id st'
  exact⟨u,rfl,zLe (s:={ s with heap:=h' }) e c d (by decide) ⟨x,H,I1,ru,⟨rfl,fun ys hy=>by rw[I.list_inj hy hq];exact hx⟩,st',fun b hb=>(hf b hb).1⟩⟩
 done:=by
  intro X hP hw hK hc i pins s σ H E I hf st hg
  subst hP hw hK
  obtain⟨xs,hq,hx⟩:=hg
  obtain⟨its,rv,p,hz⟩:=I.list hq
  obtain⟨f0,f1,f2,f3,f4,f5⟩:=hf it (by simp)
  have hl:=rv.length
  exact wpAny_pyNext_list_end (I.ok.hd hc) st p.isList (by simp;omega) fun h' eb=>⟨rfl,I.turned (t':=s.toks) (fun b o hb e=>eb b o hb e) f0 f1 f3 f4 f5⟩
 self:=fun _ _ _ _ _ st h=>wpAny_pyIter_listiter st h
theorem zGg {P:Program}{w:World}{K:PySem.W.Frag}{tg:Expr}(a it:Addr):Turn P w K tg (Itt K a) [it] it (fun i h=>h.IsTupleIter it a i) where
 mem:=by simp
 obj:=fun i h st b hb=>by
  have e:b=it:=by simpa using hb
  subst e
  obtain⟨o,e,c,d⟩:=st
  exact⟨o,e,fun v z=>by rw[d] at z;cases z⟩
 keep:=fun i h h' st k=>st.at fun o e=>k it (by simp) o e
 item:=by
  intro X hP hw hK hc i pins s σ H E I hf st hg
  subst hP hw hK
  obtain⟨xs,x,hq,hx⟩:=hg
  obtain⟨its,rv,p,hz⟩:=I.tuple hq
  obtain⟨u,hu,ru⟩:=rv.get hx
  obtain⟨f0,f1,f2,f3,f4,f5⟩:=hf it (by simp)
  refine wpAny_pyNext_tuple_item st (show s.heap.IsTuple a its.toArray from p) (x:=u) (by simpa using hu) fun h' st' sb=>?_
  have I1:Inv X pins σ H { s with heap:=h' }:=I.turned (t':=s.toks) (fun b o hb e=>(sb.2 b hb).trans e) f0 f1 f3 f4 f5
  obtain⟨o,e,c,d⟩:=id st'
  exact⟨u,rfl,zLe (s:={ s with heap:=h' }) e c d (by decide) ⟨x,H,I1,ru,⟨rfl,fun ys hy=>by rw[I.tuple_inj hy hq];exact hx⟩,st',fun b hb=>(hf b hb).1⟩⟩
 done:=by
  intro X hP hw hK hc i pins s σ H E I hf st hg
  subst hP hw hK
  obtain⟨xs,hq,hx⟩:=hg
  obtain⟨its,rv,p,hz⟩:=I.tuple hq
  obtain⟨f0,f1,f2,f3,f4,f5⟩:=hf it (by simp)
  have hl:=rv.length
  exact wpAny_pyNext_tuple_end (I.ok.hd hc) st (show s.heap.IsTuple a its.toArray from p) (by simp;omega) fun h' eb=>⟨rfl,I.turned (t':=s.toks) (fun b o hb e=>eb b o hb e) f0 f1 f3 f4 f5⟩
 self:=fun _ _ _ _ _ st h=>wpAny_pyIter_tupleiter st h
theorem zGh {P:Program}{w:World}{K:PySem.W.Frag}{tg:Expr}(it:Addr)(lo:Int)(n:Nat):Turn P w K tg (Itr lo n) [it] it (fun i h=>IsRangeIter h it (lo+(i:Nat)*1) ((n:Int)-(i:Nat)) 1) where
 mem:=by simp
 obj:=fun i h st b hb=>by
  have e:b=it:=by simpa using hb
  subst e
  exact⟨_,st,fun v z=>by
   have z':Data.fields _=Data.cell v:=z
   cases z'⟩
 keep:=fun i h h' st k=>k it (by simp) _ st
 item:=by
  intro X hP hw hK hc i pins s σ H E I hf st hg
  subst hP hw hK
  obtain⟨f0,f1,f2,f3,f4,f5⟩:=hf it (by simp)
  have W:=Walks.range (prog:=X.prog) (w:=X.w) (I.ok.hd hc) it lo 1 n
  refine W.item i s _ _ hg st fun v h' tk hv st' kk=>?_
  obtain⟨t,rfl⟩:=hv
  have I1:Inv X pins σ H { s with heap:=h',toks:=tk }:=I.turned (fun b o hb e=>kk b o (by simpa using hb) e) f0 f1 f3 f4 f5
  refine⟨_,rfl,zLe (s:={ s with heap:=h',toks:=tk }) (n := "range_iterator") st' rfl rfl (by decide) ⟨.int (lo+i),H,I1,⟨t,?_⟩,⟨rfl,rfl⟩,st',fun b hb=>(hf b hb).1⟩⟩
  rw[Int.mul_one]
 done:=by
  intro X hP hw hK hc i pins s σ H E I hf st hg
  subst hP hw hK
  obtain⟨f0,f1,f2,f3,f4,f5⟩:=hf it (by simp)
  exact wpAny_pyNext_range_end (I.ok.hd hc) st (by have:n<=i:=hg;omega) fun h' eb=>⟨rfl,I.turned (t':=s.toks) (fun b o hb e=>eb b o hb e) f0 f1 f3 f4 f5⟩
 self:=fun _ _ _ _ _ st h=>wpAny_pyIter_rangeiter st h
end L2
namespace L2
open PySem PySem.Spec PyProof.Rows
section
variable {X:Cx}{tg:Expr}
noncomputable def iList (K:PySem.W.Frag)(tl:TE):TI:=fun σ H R=>tl σ H fun x H1=>∃a,x = .ref a/\(∃xs,SqL K H1 a xs)/\R (Itl K a) H1
noncomputable def iTup (K:PySem.W.Frag)(tl:TE):TI:=fun σ H R=>tl σ H fun x H1=>∃a,x = .ref a/\(∃xs,SqT K H1 a xs)/\R (Itt K a) H1
theorem zBy {l:Expr}{tl:TE}(hl:PE X l tl):PI X tg l (iList X.K tl):=by
 intro pins s σ H R I h
 refine thn (hl pins s σ H _ I h) fun v s1 ⟨x,H1,I1,r1,q1⟩=>?_
 obtain⟨a,e,⟨xs,hq⟩,q⟩:=q1
 subst e
 cases r1
 obtain⟨its,rv,p,hz⟩:=I1.list hq
 refine wpAny_pyIter_list p.isList ?_
 refine⟨s1.heap.objs.size,[s1.heap.objs.size],_,_,H1,rfl,I1.kept (t':=s1.toks) fun b o e=>zJ _ e,zG7 a _,⟨_,zP _ rfl,rfl,rfl⟩,fun b hb=>?_,q⟩
 have e:b=s1.heap.objs.size:=by simpa using hb
 subst e
 exact I1.fpOk (zM _) (I1.hok.fresh (zM _))
theorem zDB {l:Expr}{tl:TE}(hl:PE X l tl):PI X tg l (iTup X.K tl):=by
 intro pins s σ H R I h
 refine thn (hl pins s σ H _ I h) fun v s1 ⟨x,H1,I1,r1,q1⟩=>?_
 obtain⟨a,e,⟨xs,hq⟩,q⟩:=q1
 subst e
 cases r1
 obtain⟨its,rv,p,hz⟩:=I1.tuple hq
 refine wpAny_pyIter_tuple (show s1.heap.IsTuple a its.toArray from p) ?_
 refine⟨s1.heap.objs.size,[s1.heap.objs.size],_,_,H1,rfl,I1.kept (t':=s1.toks) fun b o e=>zJ _ e,zGg a _,⟨_,zP _ rfl,rfl,rfl⟩,fun b hb=>?_,q⟩
 have e:b=s1.heap.objs.size:=by simpa using hb
 subst e
 exact I1.fpOk (zM _) (I1.hok.fresh (zM _))
theorem zGM {pins:List (Addr×Obj)}{σ:St}{H:Hp}{s:Shared}{R:It->Hp->Prop}{E:Value->Shared->Prop}{lo hi:Int}{t u v:Tok}{tk:Nat}(I:Inv X pins σ H s)(h1 : -(2 ^ 62)<=lo)(h2:lo<2 ^ 62)(h3 : -(2 ^ 62)<=hi)(h4:hi<2 ^ 62)
 (q:R (Itr lo (hi-lo).toNat) H):wpAny (model X.prog X.w) X.A (pyIter (.ref s.heap.objs.size)) (PIE X pins σ tg R) E { s with heap:=s.heap.push { cls:=.type "range",data:=.fields #[.int lo t,.int hi u,.int 1 v] },toks:=tk }:=by
 refine wpAny_pyIter_range (IsRange.new ..) (small_one h1 h2 h3 h4) ?_
 have I1:Inv X pins σ H { s with heap:=s.heap.push { cls:=.type "range",data:=.fields #[.int lo t,.int hi u,.int 1 v] },toks:=tk }:=I.kept fun b o e=>zJ _ e
 refine⟨(s.heap.push { cls:=.type "range",data:=.fields #[.int lo t,.int hi u,.int 1 v] }).objs.size,[(s.heap.push { cls:=.type "range",data:=.fields #[.int lo t,.int hi u,.int 1 v] }).objs.size],_,_,H,rfl,
  I1.kept (t':=tk) fun b o e=>zJ _ e,zGh _ lo (hi-lo).toNat,?_,fun b hb=>?_,q⟩
 . have e1:lo+((0:Nat):Int)*1=lo:=by simp
   have e2:(((hi-lo).toNat:Nat):Int)-((0:Nat):Int)=Builtin.Range.rangeSize lo hi 1:=by rw[rangeSize_one];split <;> omega
   show IsRangeIter _ _ (lo+((0:Nat):Int)*1) ((((hi-lo).toNat:Nat):Int)-((0:Nat):Int)) 1
   rw[e1,e2]
   exact zP _ rfl
 . have e:b=(s.heap.push { cls:=.type "range",data:=.fields #[.int lo t,.int hi u,.int 1 v] }).objs.size:=by simpa using hb
   subst e
   exact I1.fpOk (zM _) (I1.hok.fresh (zM _))
noncomputable def iRng1 (ta:TA):TI:=fun σ H R=>ta σ H fun vs H1=>∃j:Int,vs=[.int j] /\ -(2 ^ 62)<=j/\j<2 ^ 62/\R (Itr 0 j.toNat) H1
noncomputable def iRng2 (ta:TA):TI:=fun σ H R=>ta σ H fun vs H1=>∃i j:Int,vs=[.int i,.int j]/\(-(2 ^ 62)<=i/\i<2 ^ 62 /\ -(2 ^ 62)<=j/\j<2 ^ 62)/\R (Itr i (j-i).toNat) H1
theorem zBe {a:Expr}{ta:TA}{p pos:Pos}(hg:Gl X "range") (hm:X.mg "range" = none) (ha:PA X [a] ta)(hs:starEach [a] X.env=[(false,eval a X.env)]:=by rfl):PI X tg (.Call (.Name "range" p) [a] [] pos) (iRng1 ta):=by
 intro pins s σ H R I h
 refine Call_ (zCU I hg hm boot_range (PyProof.Rows.callWith_type1 (thn (ha pos pins s σ H _ I h) fun us s1 ⟨vs,H1,I1,r1,q1⟩=>?_) hs rfl))
 obtain⟨j,e,q1,q2,q⟩:=q1
 subst e
 cases r1 with
 | cons r rr=>
  cases rr
  obtain⟨t,rfl⟩:=r
  exact call_range_1 (zGM I1 (by omega) (by omega) q1 q2 (by simpa using q))
theorem zFI {a b:Expr}{ta:TA}{p pos:Pos}(hg:Gl X "range") (hm:X.mg "range" = none) (ha:PA X [a,b] ta)(hs:starEach [a,b] X.env=[(false,eval a X.env),(false,eval b X.env)]:=by rfl)(hs2:starEach [b] X.env=[(false,eval b X.env)]:=by rfl) :
 PI X tg (.Call (.Name "range" p) [a,b] [] pos) (iRng2 ta):=by
 intro pins s σ H R I h
 refine Call_ (zCU I hg hm boot_range (PyProof.Rows.callWith_type1 (thn (ha pos pins s σ H _ I h) fun us s1 ⟨vs,H1,I1,r1,q1⟩=>?_) (by rw[hs,hs2]) (by rw[hs2];rfl)))
 obtain⟨i,j,e,⟨q1,q2,q3,q4⟩,q⟩:=q1
 subst e
 cases r1 with
 | cons r rr=>
  cases rr with
  | cons r' rr=>
   cases rr
   obtain⟨t,rfl⟩:=r
   obtain⟨t',rfl⟩:=r'
   exact call_range_2 (zGM I1 q1 q2 q3 q4 q)
noncomputable def tFor (wi:TI)(g:TG)(tb:TS):TS:=fun D σ H=>wi σ H fun J H1=>∃W:Nat->Nat->St->Hp->Prop,(∃m,W 0 m σ H1)/\∀i m σ H,W i m σ H ->
 (J.stop i H/\D.nx σ H)\/(J.go i H/\∃N:St->Hp->Prop,(∀ σ' H',N σ' H'->∃m',m'<m/\W (i+1) m' σ' H')/\∀x H',J.yld i H x H'->g x σ H' fun σ2 H2=>tb { D with nx:=N,ct:=N,bk:=D.nx } σ2 H2)
noncomputable def zFH (fp:List Addr)(h:Heap):List (Addr×Obj):=fp.filterMap fun b=>(h.get? b).map fun o=>(b,o)
theorem zCQ {fp:List Addr}{h:Heap}{b:Addr}{o:Obj}(hb:b∈fp)(e:h.get? b=some o):(b,o)∈zFH fp h:=List.mem_filterMap.mpr ⟨b,hb,by rw[e];rfl⟩
theorem zHp {fp:List Addr}{h:Heap}{p:Addr×Obj}(hp:p∈zFH fp h):p.1∈fp/\h.get? p.1=some p.2:=by
 obtain⟨b,hb,e⟩:=List.mem_filterMap.mp hp
 cases q:h.get? b with
 | none=>rw[q] at e;cases e
 | some o=>
  rw[q] at e
  have e':(b,o)=p:=zQ e
  subst e'
  exact⟨hb,q⟩
theorem Inv.pinned {pins:List (Addr×Obj)}{σ:St}{H:Hp}{s:Shared}{fp:List Addr}(I:Inv X pins σ H s)(hf:∀b∈fp,zG2 X pins H b)(ho:∀b∈fp,∃o,s.heap.get? b=some o/\∀v,o.data ≠ .cell v):Inv X (pins++zFH fp s.heap) σ H s:=
 I.pins_of fun p hp=>(zx.mp hp).elim (fun z=>I.pin p (zq _ z)) fun z=>by
  obtain⟨hb,e⟩:=zHp z
  obtain⟨f0,f1,f2,_⟩:=hf p.1 hb
  obtain⟨o,e',d⟩:=ho p.1 hb
  rw[e] at e';cases e'
  exact⟨e,f0,f1,f2,d⟩
theorem Inv.unpinned {pins pl:List (Addr×Obj)}{σ:St}{H:Hp}{s:Shared}(I:Inv X (pins++pl) σ H s):Inv X pins σ H s:=I.pins_of fun p hp=>I.pin p (zq _ (zBa _ hp))
theorem zCf {iter:Expr}{body:List Stmt}{wi:TI}{g:TG}{tb:TS}{pos:Pos}(hp:PassesOwn (model X.prog X.w) X.A X.env X.xe)(hc:X.calm=true)(hi:PI X tg iter wi)(hg:PG X tg g)(hb:PSs X body tb)
 (hs:∀x,foldedSetIterable iter X.env x=pure x:=by intro _;rfl):PS X (.For tg iter body [] pos) (tFor wi g tb):=by
 intro pins s σ H D I h
 refine wpAny_For (thn (hi pins s σ H _ I h) fun v s1 h1=>thn h1 fun itv s2 h2=>?_) hs
 obtain⟨it,fp,tn,J,H2,e,I2,T,st2,f2,W,⟨m0,w0⟩,turn⟩:=h2
 subst e
 have stat:∀{H':Hp},(∀b∈fp,H' b=none)->∀b∈fp,zG2 X pins H' b:=fun hn b hb=>⟨hn b hb,(f2 b hb).2⟩
 refine codeAny_forLoop_any (fun n s'=>∃i σ' H',Inv X pins σ' H' s'/\tn i s'.heap/\(∀b∈fp,H' b=none)/\W i n σ' H') ?_ m0 ⟨0,σ,H2,I2,st2,fun b hb=>(f2 b hb).1,w0⟩
 rintro n s3 ⟨i,σ3,H3,I3,st3,fr3,w3⟩
 rcases turn i n σ3 H3 w3 with ⟨stop,qn⟩ | ⟨go,N,hN,step⟩
 . refine wpAny_passesOwn hp (thn (T.done X rfl rfl rfl hc i pins s3 σ3 H3 X.xe I3 (stat fr3) st3 stop) fun r s4 ⟨hr,I4⟩=>?_)
   subst hr
   exact wpAny_execs_nil ⟨σ3,H3,I4,qn⟩
 . refine wpAny_passesOwn hp (thn (T.item X rfl rfl rfl hc i pins s3 σ3 H3 X.xe I3 (stat fr3) st3 go) fun r s4 ⟨u,hr,h4⟩=>?_)
   subst hr
   refine wpAny_passesOwn hp (thn h4 fun _ s5 ⟨x,H5,I5,r5,y5,st5,fr5⟩=>?_)
   have I5':=I5.pinned (stat fr5) (T.obj _ _ st5)
   refine wpAny_passesOwn hp (thn (hg _ s5 σ3 H5 x u _ I5' r5 (step x H5 y5)) fun _ s6 ⟨σ6,H6,I6,q6⟩=>?_)
   refine wpAny_passesOwn hp (thn (hb _ s6 σ6 H6 _ I6 q6) fun f s7 q7=>?_)
   have again:∀{σ7:St}{H7:Hp},Inv X (pins++zFH fp s5.heap) σ7 H7 s7->N σ7 H7->∃m,m<n/\∃i σ' H',Inv X pins σ' H' s7/\tn i s7.heap/\(∀b∈fp,H' b=none)/\W i m σ' H':=fun {σ7 H7} I7 n7=>by
    obtain⟨m',hm,w7⟩:=hN σ7 H7 n7
    refine⟨m',hm,i+1,σ7,H7,I7.unpinned,T.keep _ _ _ st5 fun b hb o e=>(I7.pin (b,o) (zq _ (zq _ (zCQ hb e)))).1,fun b hb=>?_,w7⟩
    obtain⟨o,e,d⟩:=T.obj _ _ st5 b hb
    exact (I7.pin (b,o) (zq _ (zq _ (zCQ hb e)))).2.1
   cases f with
   | next=>obtain⟨σ7,H7,I7,n7⟩:=q7;exact again I7 n7
   | cont=>obtain⟨σ7,H7,I7,n7⟩:=q7;exact again I7 n7
   | brk=>obtain⟨σ7,H7,I7,q7⟩:=q7;exact⟨σ7,H7,I7.unpinned,q7⟩
   | ret v=>obtain⟨x7,σ7,H7,I7,r7,q7⟩:=q7;exact⟨x7,σ7,H7,I7.unpinned,r7,q7⟩
end
theorem zDO {K:PySem.W.Frag}{a:Addr}{xs:List V}{g:TG}{tb:TS}{D:zEy}{σ:St}{H:Hp}(Pv:Nat->St->Hp->Prop)(h0:Pv 0 σ H)(hl:∀i σ H,i<=xs.length->Pv i σ H->SqL K H a xs)
 (hs:∀i x σ H,xs[i]? = some x->Pv i σ H->g x σ H fun σ2 H2=>tb { D with nx:=Pv (i+1),ct:=Pv (i+1),bk:=D.nx } σ2 H2)(hd:∀ σ H,Pv xs.length σ H->D.nx σ H) :
 ∃W:Nat->Nat->St->Hp->Prop,(∃m,W 0 m σ H)/\∀i m σ H,W i m σ H ->
  ((Itl K a).stop i H/\D.nx σ H)\/((Itl K a).go i H/\∃N:St->Hp->Prop,(∀ σ' H',N σ' H'->∃m',m'<m/\W (i+1) m' σ' H')/\∀x H',(Itl K a).yld i H x H'->g x σ H' fun σ2 H2=>tb { D with nx:=N,ct:=N,bk:=D.nx } σ2 H2):=by
 refine⟨fun i m σ H=>m=xs.length-i/\i<=xs.length/\Pv i σ H,⟨xs.length,by simp,zj _,h0⟩,?_⟩
 rintro i m σ H ⟨rfl,hi,p⟩
 have q:=hl i σ H hi p
 by_cases hlt:i<xs.length
 . refine .inr ⟨⟨xs,xs[i],q,by simp[hlt]⟩,Pv (i+1),fun σ' H' p'=>⟨xs.length-(i+1),by omega,rfl,hlt,p'⟩,fun x H' y=>?_⟩
   obtain⟨e,y⟩:=y
   subst e
   exact hs i x σ _ (y xs q) p
 . have e:i=xs.length:=by omega
   subst e
   exact .inl ⟨⟨xs,q,zM _⟩,hd σ H p⟩
theorem zLj {K:PySem.W.Frag}{a:Addr}{xs:List V}{g:TG}{tb:TS}{D:zEy}{σ:St}{H:Hp}(Pv:Nat->St->Hp->Prop)(h0:Pv 0 σ H)(hl:∀i σ H,i<=xs.length->Pv i σ H->SqT K H a xs)
 (hs:∀i x σ H,xs[i]? = some x->Pv i σ H->g x σ H fun σ2 H2=>tb { D with nx:=Pv (i+1),ct:=Pv (i+1),bk:=D.nx } σ2 H2)(hd:∀ σ H,Pv xs.length σ H->D.nx σ H) :
 ∃W:Nat->Nat->St->Hp->Prop,(∃m,W 0 m σ H)/\∀i m σ H,W i m σ H ->
  ((Itt K a).stop i H/\D.nx σ H)\/((Itt K a).go i H/\∃N:St->Hp->Prop,(∀ σ' H',N σ' H'->∃m',m'<m/\W (i+1) m' σ' H')/\∀x H',(Itt K a).yld i H x H'->g x σ H' fun σ2 H2=>tb { D with nx:=N,ct:=N,bk:=D.nx } σ2 H2):=by
 refine⟨fun i m σ H=>m=xs.length-i/\i<=xs.length/\Pv i σ H,⟨xs.length,by simp,zj _,h0⟩,?_⟩
 rintro i m σ H ⟨rfl,hi,p⟩
 have q:=hl i σ H hi p
 by_cases hlt:i<xs.length
 . refine .inr ⟨⟨xs,xs[i],q,by simp[hlt]⟩,Pv (i+1),fun σ' H' p'=>⟨xs.length-(i+1),by omega,rfl,hlt,p'⟩,fun x H' y=>?_⟩
   obtain⟨e,y⟩:=y
   subst e
   exact hs i x σ _ (y xs q) p
 . have e:i=xs.length:=by omega
   subst e
   exact .inl ⟨⟨xs,q,zM _⟩,hd σ H p⟩
theorem zCo {lo:Int}{n:Nat}{g:TG}{tb:TS}{D:zEy}{σ:St}{H:Hp}(Pv:Nat->St->Hp->Prop)(h0:Pv 0 σ H)
 (hs:∀i σ H,i<n->Pv i σ H->g (.int (lo+i)) σ H fun σ2 H2=>tb { D with nx:=Pv (i+1),ct:=Pv (i+1),bk:=D.nx } σ2 H2)(hd:∀ σ H,Pv n σ H->D.nx σ H) :
 ∃W:Nat->Nat->St->Hp->Prop,(∃m,W 0 m σ H)/\∀i m σ H,W i m σ H ->
  ((Itr lo n).stop i H/\D.nx σ H)\/((Itr lo n).go i H/\∃N:St->Hp->Prop,(∀ σ' H',N σ' H'->∃m',m'<m/\W (i+1) m' σ' H')/\∀x H',(Itr lo n).yld i H x H'->g x σ H' fun σ2 H2=>tb { D with nx:=N,ct:=N,bk:=D.nx } σ2 H2):=by
 refine⟨fun i m σ H=>m=n-i/\i<=n/\Pv i σ H,⟨n,by simp,zj _,h0⟩,?_⟩
 rintro i m σ H ⟨rfl,hi,p⟩
 by_cases hlt:i<n
 . refine .inr ⟨hlt,Pv (i+1),fun σ' H' p'=>⟨n-(i+1),by omega,rfl,hlt,p'⟩,fun x H' y=>?_⟩
   obtain⟨e,y⟩:=y
   subst e y
   exact hs i σ _ hlt p
 . have e:i=n:=by omega
   subst e
   exact .inl ⟨zM _,hd σ H p⟩
end L2
namespace L2
open PySem PySem.Spec PyProof.Rows
noncomputable abbrev R2:=V->V->Hp->VK->Prop
noncomputable def OpR (X:Cx)(f:Value->Value->Sem Value)(r:R2):Prop:=
 ∀(pins:List (Addr×Obj))(s:Shared)(σ:St)(H:Hp)(x y:V)(v u:Value)(Q:VK),Inv X pins σ H s->zBY x v->zBY y u->r x y H Q ->
  wpAny (model X.prog X.w) X.A (f v u) (EP X pins σ Q) X.xe s
noncomputable def UnR (X:Cx)(f:Value->Sem Value)(r:V->Hp->VK->Prop):Prop:=
 ∀(pins:List (Addr×Obj))(s:Shared)(σ:St)(H:Hp)(x:V)(v:Value)(Q:VK),Inv X pins σ H s->zBY x v->r x H Q ->
  wpAny (model X.prog X.w) X.A (f v) (EP X pins σ Q) X.xe s
noncomputable def zB6 (X:Cx)(f:Value)(r:List V->Hp->VK->Prop):Prop:=
 ∀(pins:List (Addr×Obj))(s:Shared)(σ:St)(H:Hp)(xs:List V)(us:List Value)(Q:VK),Inv X pins σ H s->zA2 xs us->r xs H Q ->
  wpAny (model X.prog X.w) X.A (call f us) (EP X pins σ Q) X.xe s
noncomputable def TruR (X:Cx)(r:V->Hp->(Bool->Hp->Prop)->Prop):Prop:=
 ∀(pins:List (Addr×Obj))(s:Shared)(σ:St)(H:Hp)(x:V)(v:Value)(Q:Bool->Hp->Prop),Inv X pins σ H s->zBY x v->r x H Q ->
  wpAny (model X.prog X.w) X.A (truthy v) (TP X pins σ Q) X.xe s
noncomputable def tOp (r:R2)(ta tb:TE):TE:=fun σ H Q=>ta σ H fun x H1=>tb σ H1 fun y H2=>r x y H2 Q
noncomputable def tUn (r:V->Hp->VK->Prop)(ta:TE):TE:=fun σ H Q=>ta σ H fun x H1=>r x H1 Q
noncomputable def rI (C:Int->Int->Prop)(g:Int->Int->V):R2:=fun x y H Q=>∃i j,x = .int i/\y = .int j/\C i j/\Q (g i j) H
noncomputable def rI0 (g:Int->Int->V):R2:=fun x y H Q=>∃i j,x = .int i/\y = .int j/\Q (g i j) H
noncomputable def rU (g:Int->V):V->Hp->VK->Prop:=fun x H Q=>∃i,x = .int i/\Q (g i) H
section
variable {X:Cx}{a b c:Expr}{ta tb tc:TE}{pos:Pos}
theorem binT (ha:PE X a ta)(hb:PE X b tb){pins:List (Addr×Obj)}{s:Shared}{σ:St}{H:Hp}{R:V->V->Hp->Prop}(I:Inv X pins σ H s)
 (h:ta σ H fun x H1=>tb σ H1 fun y H2=>R x y H2){Q:Value->Shared->Prop}{f:Value->Value->Sem Value}
 (hf:∀v u s2 x y H2,Inv X pins σ H2 s2->zBY x v->zBY y u->R x y H2->wpAny (model X.prog X.w) X.A (f v u) Q X.xe s2) :
 wpAny (model X.prog X.w) X.A (eval a X.env) (fun v s₁=>wpAny (model X.prog X.w) X.A (eval b X.env) (fun u s₂=>wpAny (model X.prog X.w) X.A (f v u) Q X.xe s₂) X.xe s₁) X.xe s:=by
 refine thn (ha pins s σ H _ I h) fun v s1 ⟨x,H1,I1,r1,q1⟩=>?_
 refine thn (hb pins s1 σ H1 _ I1 q1) fun u s2 ⟨y,H2,I2,r2,q2⟩=>?_
 exact hf v u s2 x y H2 I2 r1 r2 q2
theorem zAc {op:Operator}{r:R2}(ho:OpR X (binaryOp op) r)(ha:PE X a ta)(hb:PE X b tb):PE X (.BinOp a op b pos) (tOp r ta tb):=by
 intro pins s σ H Q I h
 exact wpAny_BinOp (binT ha hb I h fun v u s2 x y H2 I2 rx ry q=>ho pins s2 σ H2 x y v u Q I2 rx ry q)
theorem zK3 {op:UnaryOp}{r:V->Hp->VK->Prop}(ho:UnR X (unaryOp op) r)(ha:PE X a ta):PE X (.UnaryOp op a pos) (tUn r ta):=by
 intro pins s σ H Q I h
 exact UnaryOp_ (thn (ha pins s σ H _ I h) fun v s1 ⟨x,H1,I1,r1,q1⟩=>ho pins s1 σ H1 x v Q I1 r1 q1)
theorem opI {f:Value->Value->Sem Value}{C:Int->Int->Prop}{g:Int->Int->Int}
 (rule:∀(i j:Int)(t u:Tok)(s:Shared)(Q:Value->Shared->Prop)(E:Value->Shared->Prop),C i j->Q (.int (g i j) s.toks) { s with toks:=s.toks+1 }->wpAny (model X.prog X.w) X.A (f (.int i t) (.int j u)) Q E s) :
 OpR X f (rI C fun i j=>.int (g i j)):=by
 intro pins s σ H x y v u Q I rx ry h
 obtain⟨i,j,rfl,rfl,hc,q⟩:=h
 obtain⟨t,rfl⟩:=rx
 obtain⟨t',rfl⟩:=ry
 exact rule i j t t' s _ _ hc ⟨.int (g i j),H,I.tok _,⟨_,rfl⟩,q⟩
theorem opI0 {f:Value->Value->Sem Value}{g:Int->Int->Int}
 (rule:∀(i j:Int)(t u:Tok)(s:Shared)(Q:Value->Shared->Prop)(E:Value->Shared->Prop),Q (.int (g i j) s.toks) { s with toks:=s.toks+1 }->wpAny (model X.prog X.w) X.A (f (.int i t) (.int j u)) Q E s) :
 OpR X f (rI0 fun i j=>.int (g i j)):=by
 intro pins s σ H x y v u Q I rx ry h
 obtain⟨i,j,rfl,rfl,q⟩:=h
 obtain⟨t,rfl⟩:=rx
 obtain⟨t',rfl⟩:=ry
 exact rule i j t t' s _ _ ⟨.int (g i j),H,I.tok _,⟨_,rfl⟩,q⟩
theorem opB0 {f:Value->Value->Sem Value}{g:Int->Int->Bool}
 (rule:∀(i j:Int)(t u:Tok)(s:Shared)(Q:Value->Shared->Prop)(E:Value->Shared->Prop),Q (.bool (g i j)) s->wpAny (model X.prog X.w) X.A (f (.int i t) (.int j u)) Q E s) :
 OpR X f (rI0 fun i j=>.bl (g i j)):=by
 intro pins s σ H x y v u Q I rx ry h
 obtain⟨i,j,rfl,rfl,q⟩:=h
 obtain⟨t,rfl⟩:=rx
 obtain⟨t',rfl⟩:=ry
 exact rule i j t t' s _ _ ⟨.bl (g i j),H,I,rfl,q⟩
noncomputable def CDiv (i j:Int):Prop:=0<j/\j<1073741824
noncomputable def CPow (i j:Int):Prop:=0<=j/\j<=1000000/\i.natAbs<2 ^ 64
noncomputable def CMul (i j:Int):Prop:=(-(2 ^ 64)<i/\i<2 ^ 64)\/(-(2 ^ 64)<j/\j<2 ^ 64)
theorem CMul.ok {i j:Int}(h:CMul i j):IntMulOk i j:=by
 rcases h with ⟨h1,h2⟩ | ⟨h1,h2⟩
 . exact .of_left (intBits_le_64 h1 h2)
 . exact .of_right (intBits_le_64 h1 h2)
theorem zBo:OpR X (binaryOp .Add) (rI0 fun i j=>.int (i+j)):=opI0 fun _ _ _ _ _ _ _ q=>add_int q
theorem zHe:OpR X (binaryOp .Sub) (rI0 fun i j=>.int (i-j)):=opI0 fun _ _ _ _ _ _ _ q=>sub_int q
theorem zDZ:OpR X (binaryOp .Mult) (rI CMul fun i j=>.int (i*j)):=opI fun _ _ _ _ _ _ _ hc q=>mul_int q hc.ok
theorem zFy:OpR X (binaryOp .FloorDiv) (rI CDiv fun i j=>.int (i/j)):=opI fun i j _ _ _ _ _ hc q=>by
 have h1:(0:Int)<j:=hc.1
 have h2:j<1073741824:=hc.2
 exact floordiv_int (by omega) (by rw[Int.fdiv_eq_ediv_of_nonneg i (by omega)];exact q) (.inl (PyProof.noPylong_small (by omega)))
theorem zCL:OpR X (binaryOp .Mod) (rI (fun _ j=>0<j) fun i j=>.int (i%j)):=opI fun i j _ _ _ _ _ hc q=>by
 have h1:(0:Int)<j:=hc
 exact mod_int' (by omega) (by rw[Int.fmod_eq_emod_of_nonneg i (by omega)];exact q)
theorem zHf:OpR X (binaryOp .Pow) (rI CPow fun i j=>.int (i ^ j.toNat)):=opI fun _ _ _ _ _ _ _ hc q=>pow_int_small hc.1 hc.2.1 hc.2.2 q
theorem unI {f:Value->Sem Value}{g:Int->Int}
 (rule:∀(i:Int)(t:Tok)(s:Shared)(Q:Value->Shared->Prop)(E:Value->Shared->Prop),Q (.int (g i) s.toks) { s with toks:=s.toks+1 }->wpAny (model X.prog X.w) X.A (f (.int i t)) Q E s) :
 UnR X f (rU fun i=>.int (g i)):=by
 intro pins s σ H x v Q I rx h
 obtain⟨i,rfl,q⟩:=h
 obtain⟨t,rfl⟩:=rx
 exact rule i t s _ _ ⟨.int (g i),H,I.tok _,⟨_,rfl⟩,q⟩
theorem zG5:UnR X (unaryOp .USub) (rU fun i=>.int (-i)):=unI fun _ _ _ _ _ q=>neg_int q
end
noncomputable def scal:V->V->Bool
 | .non,.non=>true | .non,.int _=>true | .int _,.non=>true | .non,.bl _=>true | .bl _,.non=>true | .non,.str _=>true | .str _,.non=>true
 | .int _,.int _=>true | .bl _,.bl _=>true | .str _,.str _=>true | .byt _,.byt _=>true
 | .int _,.str _=>true | .str _,.int _=>true | .bl _,.str _=>true | .str _,.bl _=>true
 | _,_=>false
noncomputable def rEq:R2:=fun x y H Q=>scal x y=true/\Q (.bl (decide (x=y))) H
noncomputable def rNe:R2:=fun x y H Q=>scal x y=true/\Q (.bl (!decide (x=y))) H
theorem zIL {i j:Int}:decide (V.int i=V.int j)=(i==j):=by
 rw[Bool.eq_iff_iff]
 simp
theorem zKJ {i j:Bool}:decide (V.bl i=V.bl j)=(i==j):=by
 rw[Bool.eq_iff_iff]
 simp
theorem zIK {i j:Str}:decide (V.str i=V.str j)=(i==j):=by
 rw[Bool.eq_iff_iff]
 simp
theorem zIM {i j:Array UInt8}:decide (V.byt i=V.byt j)=(i.toList==j.toList):=by
 rw[Bool.eq_iff_iff]
 cases i
 cases j
 simp
section
variable {X:Cx}{a b c:Expr}{ta tb tc:TE}{pos:Pos}
theorem zA0 {pins:List (Addr×Obj)}{σ:St}{H:Hp}{s:Shared}{Q:VK}{k k':Bool}(I:Inv X pins σ H s)(q:Q (.bl k) H)(e:k=k'):EP X pins σ Q (.bool k') s:=by
 subst e
 exact⟨.bl k,H,I,rfl,q⟩
theorem zCD:OpR X (compareOp .Eq) rEq:=by
 intro pins s σ H x y v u Q I rx ry h
 obtain⟨hs,q⟩:=h
 cases x with
 | non=>
  cases rx
  cases y with
  | non=>cases ry;exact PySem.EqNone.eq_none_none (zA0 I q (by simp))
  | bl j=>cases ry;exact PySem.EqNone.eq_none_bool (zA0 I q (by simp))
  | int j=>obtain⟨t',rfl⟩:=ry;exact PySem.EqNone.eq_none_int (zA0 I q (by simp))
  | str j=>obtain⟨t',rfl⟩:=ry;exact PySem.EqNone.eq_none_str (zA0 I q (by simp))
  | _=>exact absurd (show false=true from hs) zT
 | bl i=>
  cases rx
  cases y with
  | non=>cases ry;exact PySem.EqNone.eq_bool_none (zA0 I q (by simp))
  | bl j=>cases ry;exact eq_bool (zA0 I q zKJ)
  | str j=>obtain⟨t',rfl⟩:=ry;exact PySem.EqMixed.eq_bool_str (zA0 I q (by simp))
  | _=>exact absurd (show false=true from hs) zT
 | int i=>
  obtain⟨t,rfl⟩:=rx
  cases y with
  | non=>cases ry;exact PySem.EqNone.eq_int_none (zA0 I q (by simp))
  | int j=>obtain⟨t',rfl⟩:=ry;exact eq_int (zA0 I q zIL)
  | str j=>obtain⟨t',rfl⟩:=ry;exact PySem.EqMixed.eq_int_str (zA0 I q (by simp))
  | _=>exact absurd (show false=true from hs) zT
 | str i=>
  obtain⟨t,rfl⟩:=rx
  cases y with
  | non=>cases ry;exact PySem.EqNone.eq_str_none (zA0 I q (by simp))
  | bl j=>cases ry;exact PySem.EqMixed.eq_str_bool (zA0 I q (by simp))
  | int j=>obtain⟨t',rfl⟩:=ry;exact PySem.EqMixed.eq_str_int (zA0 I q (by simp))
  | str j=>obtain⟨t',rfl⟩:=ry;exact eq_str (zA0 I q zIK)
  | _=>exact absurd (show false=true from hs) zT
 | byt i=>
  obtain⟨t,rfl⟩:=rx
  cases y with
  | byt j=>obtain⟨t',rfl⟩:=ry;exact PySem.W.eq_bytes (zA0 I q zIM)
  | _=>exact absurd (show false=true from hs) zT
 | _=>cases y <;> exact absurd (show false=true from hs) zT
theorem zHi:OpR X (compareOp .NotEq) rNe:=by
 intro pins s σ H x y v u Q I rx ry h
 obtain⟨hs,q⟩:=h
 cases x with
 | non=>
  cases rx
  cases y with
  | non=>cases ry;exact PySem.EqNone.ne_none_none (zA0 I q (by simp))
  | bl j=>cases ry;exact PySem.EqNone.ne_none_bool (zA0 I q (by simp))
  | int j=>obtain⟨t',rfl⟩:=ry;exact PySem.EqNone.ne_none_int (zA0 I q (by simp))
  | str j=>obtain⟨t',rfl⟩:=ry;exact PySem.EqNone.ne_none_str (zA0 I q (by simp))
  | _=>exact absurd (show false=true from hs) zT
 | bl i=>
  cases rx
  cases y with
  | non=>cases ry;exact PySem.EqNone.ne_bool_none (zA0 I q (by simp))
  | bl j=>cases ry;exact ne_bool (zA0 I q (congrArg not zKJ))
  | str j=>obtain⟨t',rfl⟩:=ry;exact PySem.EqMixed.ne_bool_str (zA0 I q (by simp))
  | _=>exact absurd (show false=true from hs) zT
 | int i=>
  obtain⟨t,rfl⟩:=rx
  cases y with
  | non=>cases ry;exact PySem.EqNone.ne_int_none (zA0 I q (by simp))
  | int j=>obtain⟨t',rfl⟩:=ry;exact ne_int (zA0 I q (congrArg not zIL))
  | str j=>obtain⟨t',rfl⟩:=ry;exact PySem.EqMixed.ne_int_str (zA0 I q (by simp))
  | _=>exact absurd (show false=true from hs) zT
 | str i=>
  obtain⟨t,rfl⟩:=rx
  cases y with
  | non=>cases ry;exact PySem.EqNone.ne_str_none (zA0 I q (by simp))
  | bl j=>cases ry;exact PySem.EqMixed.ne_str_bool (zA0 I q (by simp))
  | int j=>obtain⟨t',rfl⟩:=ry;exact PySem.EqMixed.ne_str_int (zA0 I q (by simp))
  | str j=>obtain⟨t',rfl⟩:=ry;exact ne_str (zA0 I q (congrArg not zIK))
  | _=>exact absurd (show false=true from hs) zT
 | byt i=>
  obtain⟨t,rfl⟩:=rx
  cases y with
  | byt j=>obtain⟨t',rfl⟩:=ry;exact PySem.W.ne_bytes (zA0 I q (congrArg not zIM))
  | _=>exact absurd (show false=true from hs) zT
 | _=>cases y <;> exact absurd (show false=true from hs) zT
theorem zLA:OpR X (compareOp .Lt) (rI0 fun i j=>.bl (decide (i<j))):=opB0 fun _ _ _ _ _ _ _ q=>lt_int q
theorem zLB:OpR X (compareOp .LtE) (rI0 fun i j=>.bl (decide (i<=j))):=opB0 fun _ _ _ _ _ _ _ q=>le_int q
theorem op_gt:OpR X (compareOp .Gt) (rI0 fun i j=>.bl (decide (j<i))):=opB0 fun _ _ _ _ _ _ _ q=>gt_int q
theorem zLC:OpR X (compareOp .GtE) (rI0 fun i j=>.bl (decide (j<=i))):=opB0 fun _ _ _ _ _ _ _ q=>ge_int q
theorem zCT:OpR X (compareOp .Is) (fun x y H Q=>y = .non/\Q (.bl (decide (x = .non))) H):=by
 intro pins s σ H x y v u Q I rx ry h
 obtain⟨rfl,q⟩:=h
 cases ry
 refine is_none_gen (zA0 I q ?_)
 cases x <;> first
  | (cases rx;rfl)
  | (obtain⟨t,rfl⟩:=rx;rfl)
theorem zHg:OpR X (compareOp .IsNot) (fun x y H Q=>y = .non/\Q (.bl (!decide (x = .non))) H):=by
 intro pins s σ H x y v u Q I rx ry h
 obtain⟨rfl,q⟩:=h
 cases ry
 refine isnot_none_gen (zA0 I q ?_)
 cases x <;> first
  | (cases rx;rfl)
  | (obtain⟨t,rfl⟩:=rx;rfl)
theorem zAN (b:Expr){op:CmpOp}(h:op ≠ .In:=by decide)(h2:op ≠ .NotIn:=by decide):behindInMarks op b=false:=by
 have e1:(op==CmpOp.In)=false:=by cases op <;> first | rfl | exact absurd rfl h
 have e2:(op==CmpOp.NotIn)=false:=by cases op <;> first | rfl | exact absurd rfl h2
 cases b <;> simp[behindInMarks,e1,e2]
theorem zBr {op:CmpOp}{r:R2}(ho:OpR X (compareOp op) r)(ha:PE X a ta)(hb:PE X b tb)(hm:behindInMarks op b=false):PE X (.Compare a [op] [b] pos) (tOp r ta tb):=by
 intro pins s σ H Q I h
 exact wpAny_Compare1 (binT ha hb I h fun v u s2 x y H2 I2 rx ry q=>ho pins s2 σ H2 x y v u Q I2 rx ry q) hm
noncomputable def tTest (t:TE):TT:=fun σ H Q=>t σ H fun x H'=>∃k,x = .bl k/\Q k H'
theorem zAG {op:CmpOp}{r:R2}(ho:OpR X (compareOp op) r)(ha:PE X a ta)(hb:PE X b tb)(hm:behindInMarks op b=false):PT X (.Compare a [op] [b] pos) (tTest (tOp r ta tb)):=by
 intro pins s σ H Q I h
 refine wpAny_isTrue_Compare1 (thn (ha pins s σ H _ I h) fun v s1 ⟨x,H1,I1,r1,q1⟩=>thn (hb pins s1 σ H1 _ I1 q1) fun u s2 ⟨y,H2,I2,r2,q2⟩=>
  thn (ho pins s2 σ H2 x y v u _ I2 r1 r2 q2) fun c s3 ⟨z,H3,I3,r3,k,e,q3⟩=>?_) hm
 subst e
 cases r3
 exact zBL ⟨H3,I3,q3⟩
noncomputable def TruV (K:PySem.W.Frag)(x:V)(H:Hp)(k:Bool):Prop:=
 match x with
 | .non=>k=false
 | .bl b=>k=b
 | .int i=>k=(i != 0)
 | .str y=>y.length<=sizeLine/\k=((y.length:Int) != 0)
 | .byt y=>y.size<=sizeLine/\k=((y.size:Int) != 0)
 | .ref p=>(∃xs,SqL K H p xs/\k = !xs.isEmpty)\/(∃xs,SqT K H p xs/\k = !xs.isEmpty)\/∃kvs,H p=some (.dK kvs)/\k = !kvs.isEmpty
 | _=>False
theorem zGw {κ:Type}{kvs:List (κ×V)}{vs:List (κ×Value)}(r:KV kvs vs):(!vs.isEmpty) = !kvs.isEmpty:=by
 cases r <;> rfl
theorem zEQ {xs:List V}{its:List Value}(r:zA2 xs its):(!its.toArray.isEmpty) = !xs.isEmpty:=by
 cases r <;> simp
theorem zFL:(sizeLine:Nat)<2 ^ 63:=by rw[sizeLine_eq];decide
theorem tru_ok:TruR X (fun x H Q=>∃k,TruV X.K x H k/\Q k H):=by
 intro pins s σ H x v Q I rx h
 obtain⟨k,e,q⟩:=h
 have hl:=zFL
 have hs:sizeLine=16777216:=sizeLine_eq
 cases x with
 | non=>
  cases rx
  have e':k=false:=e
  subst e'
  exact truthy_none ⟨H,I,q⟩
 | bl b=>
  cases rx
  have e':k=b:=e
  subst e'
  exact zBL ⟨H,I,q⟩
 | int i=>
  obtain⟨t,rfl⟩:=rx
  have e':k=(i != 0):=e
  subst e'
  exact PySem.P.truthy_int ⟨H,I,q⟩
 | str y=>
  obtain⟨t,rfl⟩:=rx
  obtain⟨hy,e'⟩:y.length<=sizeLine/\k=((y.length:Int) != 0):=e
  subst e'
  exact PySem.P.truthy_str (by omega) ⟨H,I.tok _,q⟩
 | byt y=>
  obtain⟨t,rfl⟩:=rx
  obtain⟨hy,e'⟩:y.size<=sizeLine/\k=((y.size:Int) != 0):=e
  subst e'
  exact PySem.W.truthy_bytes (by omega) ⟨H,I.tok _,q⟩
 | ref p=>
  cases rx
  have e':(∃xs,SqL X.K H p xs/\k = !xs.isEmpty)\/(∃xs,SqT X.K H p xs/\k = !xs.isEmpty)\/∃kvs,H p=some (.dK kvs)/\k = !kvs.isEmpty:=e
  rcases e' with ⟨xs,hx,e'⟩ | ⟨xs,hx,e'⟩ | ⟨kvs,hx,e'⟩
  . subst e'
    obtain⟨its,r,pl,hz⟩:=I.list hx
    have hlen:=r.length
    exact wpAny_truthy_list pl.isList (by simp only[zI];omega) ⟨H,I.tok _,by rw[zEQ r];exact q⟩
  . subst e'
    obtain⟨its,r,pl,hz⟩:=I.tuple hx
    have hlen:=r.length
    exact truthy_tuple pl (by simp only[zI];omega) ⟨H,I.tok _,by rw[zEQ r];exact q⟩
  . subst e'
    obtain⟨hz,hS,vs,r,m⟩:kvs.length<=sizeLine/\(p==sysModules)=false/\∃vs,KV kvs vs/\s.heap.DictOf (zBC X.prog X.w) p vs:=I.hok p _ hx
    have hlen:kvs.length=vs.length:=Paired.length r
    exact wpAny_truthy_dict hS m (by omega) ⟨H,I.tok _,by rw[zGw r];exact q⟩
 | _=>exact (show False from e).elim
theorem zJB (ha:PE X a ta)(he:∀whole,isTrue a X.env whole=(do let v <-whole;standAt a.pos;holding [v] (truthy v))) :
 PT X a (fun σ H Q=>ta σ H fun x H'=>∃k,TruV X.K x H' k/\Q k H'):=by
 intro pins s σ H Q I h
 exact isTrue_plain (thn (ha pins s σ H _ I h) fun v s1 ⟨x,H1,I1,r1,q1⟩=>tru_ok pins s1 σ H1 x v Q I1 r1 q1) (he _)
theorem zCa {x:V}{us:List Value}(r:zA2 [x] us):∃u,us=[u]/\zBY x u:=by
 cases r with
 | cons r1 r2=>cases r2;exact⟨_,rfl,r1⟩
theorem zE0 {x y:V}{us:List Value}(r:zA2 [x,y] us):∃u w',us=[u,w']/\zBY x u/\zBY y w':=by
 cases r with
 | cons r1 r2=>
  cases r2 with
  | cons r3 r4=>cases r4;exact⟨_,_,rfl,r1,r3⟩
theorem zDo (hc:X.calm=true):zB6 X (.builtin "max") (fun xs H Q=>∃i j,xs=[.int i,.int j]/\Q (.int (if j > i then j else i)) H):=by
 intro pins s σ H xs us Q I r h
 obtain⟨i,j,rfl,q⟩:=h
 obtain⟨u,w',rfl,⟨t,rfl⟩,⟨t',rfl⟩⟩:=zE0 r
 refine max_two_ints (I.ok.hd hc) fun h' tk k=>⟨_,H,I.kept k,?_,q⟩
 by_cases hj:j > i
 . rw[if_pos hj,if_pos hj];exact⟨_,rfl⟩
 . rw[if_neg hj,if_neg hj];exact⟨_,rfl⟩
theorem zCt (hc:X.calm=true):zB6 X (.builtin "min") (fun xs H Q=>∃i j,xs=[.int i,.int j]/\Q (.int (if j<i then j else i)) H):=by
 intro pins s σ H xs us Q I r h
 obtain⟨i,j,rfl,q⟩:=h
 obtain⟨u,w',rfl,⟨t,rfl⟩,⟨t',rfl⟩⟩:=zE0 r
 refine min_two_ints (I.ok.hd hc) fun h' tk k=>⟨_,H,I.kept k,?_,q⟩
 by_cases hj:j<i
 . rw[if_pos hj,if_pos hj];exact⟨_,rfl⟩
 . rw[if_neg hj,if_neg hj];exact⟨_,rfl⟩
theorem zIW:zB6 X (.type "int") (fun xs H Q=>(∃i,xs=[.int i]/\Q (.int i) H)\/∃k,xs=[.bl k]/\Q (.int (if k then 1 else 0)) H):=by
 intro pins s σ H xs us Q I r h
 rcases h with ⟨i,rfl,q⟩ | ⟨k,rfl,q⟩
 . obtain⟨u,rfl,t,rfl⟩:=zCa r
   exact call_int_int ⟨.int i,H,I,⟨_,rfl⟩,q⟩
 . obtain⟨u,rfl,r1⟩:=zCa r
   cases r1
   exact call_int_bool ⟨.int (if k then 1 else 0),H,I.tok _,⟨_,rfl⟩,q⟩
end
end L2
namespace L2
open PySem PySem.Spec PyProof.Rows
structure zLt (h:Heap)(x dx C:Addr)(mA:Str->Option Value):Prop where
 obj:h.get? x=some (PySem.W.instObj C dx)
 ns:h.Ns1 dx mA
 ne:dx≠x
theorem zHu {h:Heap}{dx:Addr}{mA:Str->Option Value}(n:h.Ns1 dx mA):∃od,h.get? dx=some od/\∀name,PySem.W.lookIn name od=some (mA name):=by
 obtain⟨o,es,ep,ho,hd,hk,_,hm⟩:=n
 refine⟨o,ho,fun name=>?_⟩
 have e:=hm name
 unfold nsFind findBy at e
 rw[<-Array.find?_toList] at e
 unfold PySem.W.lookIn
 rw[hd]
 dsimp only
 split
 . rename_i y q
   rw[q] at e
   exact congrArg some e
 . rename_i q
   rw[q] at e
   have a:es.toList.any (·.refKey)=false:=by
    rw[List.any_eq_false]
    intro y hy
    obtain⟨z,t,hkey⟩:=hk y (Array.mem_toList_iff.mp hy)
    simp[DictEntry.refKey,hkey]
   have a':¬ es.toList.any (·.refKey)=true:=by rw[a];exact zT
   rw[if_neg a']
   exact congrArg some e
theorem zLt.look {h:Heap}{x dx C:Addr}{mA:Str->Option Value}(I:zLt h x dx C mA):∃od,PySem.W.InstAt h x (PySem.W.instObj C dx) C (some od)/\∀name,PySem.W.lookIn name od=some (mA name):=
 let ⟨od,ho,hl⟩:=zHu I.ns
 ⟨od,⟨I.obj,rfl,rfl,ho⟩,hl⟩
section
variable {prog:Program}{w:World}{A:Around}{E:Value->Shared->Prop}{s:Shared}{K:PySem.W.Frag}{x dx C f:Addr}{mA:Str->Option Value}{name:Str}{v:Value}
theorem zLf {expr:Bool}{Q:Value->Shared->Prop}(X:K.In s.heap)(I:zLt s.heap x dx C mA)(hg:PySem.W.plainGet K C name=true)(hh:PySem.W.hasDictIn K C=true)
 (ha:PySem.W.findIn K (.ref C) name=some none)(hv:mA name=some v)(hv':PySem.W.handedIn v=true)(h:Q v { s with toks:=s.toks+1 }) :
 wpAny (model prog w) A (getAttr (.ref x) name expr) Q E s:=by
 obtain⟨od,J,hl⟩:=I.look
 exact PySem.W.get_value X J (PySem.W.plainGet_of hg).1 (PySem.W.findObj_own hh ha rfl (by rw[hl,hv])) hv' h
theorem zJU {pl:Sem Bool}{Q:Value×List Value->Shared->Prop}(X:K.In s.heap)(I:zLt s.heap x dx C mA)(hg:PySem.W.plainGet K C name=true)
 (hf:PySem.W.findIn K (.ref C) name=some (some (.ref f)))(ht:PySem.W.isFn K (.ref f)=true)(hv:mA name=none)(h:Q (.ref f,[.ref x]) s) :
 wpAny (model prog w) A (getMethod (.ref x) name pl) Q E s:=by
 obtain⟨od,J,hl⟩:=I.look
 exact PySem.W.method_fn X J (PySem.W.plainGet_of hg).1 (PySem.W.plainGet_of hg).2 hf (beq_iff_eq.mp ht) (by show (PySem.W.lookIn name od).map (·.isSome)=some false;rw[hl,hv];rfl) h
theorem zKq {ns:List Str}{Q:Unit->Shared->Prop}(X:K.In s.heap)(I:zLt s.heap x dx C mA)
 (hs:PySem.W.findIn K (.ref C) "__setattr__" = some (some (.builtin "object.__setattr__"))) (hp:PySem.W.plainOver K C=true)(ht:PySem.W.takerIn K C name=some none)(hh:PySem.W.hasDictIn K C=true)
 (hw:PySem.Within mA ns)(hsz:ns.length<=sizeLine)
 (h:∀h',zLt h' x dx C (fun y=>if y=name then some v else mA y)->Heap.SameBut dx s.heap h'->Q () { s with heap:=h',toks:=s.toks+2 }) :
 wpAny (model prog w) A (setAttr (.ref x) name v) Q E s:=by
 obtain⟨od,J,hl⟩:=I.look
 refine PySem.W.set_plain X J hs (PySem.W.osa_open (s:={ s with toks:=s.toks+1 }) (r:=none) X J hp ht fun b=>?_)
 obtain⟨cd,hc,hd'⟩:=PySem.W.any_some hh
 have hx:s.heap.get? x=some ⟨.ref C,some dx,.plain,#[]⟩:=I.obj
 refine zA (zG (zA (zA (wpAny_loadPart hx (zA (PySem.W.Looks.here (s:={ s with toks:=s.toks+1 }) (PySem.W.looks_clsIn X hc) ?_))))))
 rw[hd']
 refine zG (a:=some dx) (zA (zG (zA ?_)))
 refine wpAny_nsSet1 (s:={ s with toks:=s.toks+1 }) I.ns fun h' hn2 hs2=>?_
 obtain⟨oD,esD,epD,hoD,hdD,hcD⟩:=hn2.count (PySem.Within.cons name v hw)
 refine zA (wpAny_lookBehind hoD (by rw[hdD];exact pastItsLine_dict (zAp hcD (by rw[zh];omega))) ?_)
 exact zG (h _ ⟨(hs2.2 _ (Ne.symm I.ne)).trans I.obj,hn2,I.ne⟩ hs2)
theorem zGW {R:Result->Shared->Prop}{vs:List Value}{kw:List (Str×Value)}(X:K.In s.heap)(hm:PySem.W.makesIn K C=true)
 (hi:PySem.W.findIn K (.ref C) "__init__" = some (some (.ref f))) (hf:PySem.W.typeIn K (.ref f)=some (.type "function"))
 (h:codeAny (model prog w) (A.under (.builtin "type.__call__" ⟨.ref C::vs,kw⟩)) (.call (.ref f) ⟨.ref (s.heap.objs.size+1)::vs,kw⟩) (PySem.W.InitBack (s.heap.objs.size+1) R)
  { s with heap:=(s.heap.push PySem.W.emptyDict).push (PySem.W.instObj C s.heap.objs.size) }) :
 codeAny (model prog w) A (.call (.ref C) ⟨vs,kw⟩) R s:=by
 obtain⟨hh,g,d,t,os⟩:=s
 exact PySem.W.make_core (PySem.W.makes_of X hm) (PySem.W.looks_findIn X hi) (fun self=>PySem.W.bind_fn X self hf) (.inl rfl) h
end
noncomputable def zC2 (f:Str)(v:V):List (Str×V)->List (Str×V)
 | []=>[(f,v)]
 | (g,x)::r=>if g=f then (g,v)::r else (g,x)::zC2 f v r
theorem zDa (f g:Str)(v:V):∀fs:List (Str×V),(zC2 f v fs).lookup g=if g=f then some v else fs.lookup g
 | []=>by
  show List.lookup g [(f,v)]=_
  by_cases h:g=f
  . have hb:(g==f)=true:=beq_iff_eq.mpr h
    simp only[List.lookup,hb,if_pos h]
  . have hb:(g==f)=false:=beq_eq_false_iff_ne.mpr h
    simp only[List.lookup,hb,if_neg h]
 | (k,x)::r=>by
  have ih:=zDa f g v r
  rw[show zC2 f v ((k,x)::r)=(if k=f then (k,v)::r else (k,x)::zC2 f v r) from rfl]
  by_cases hk:k=f
  . rw[if_pos hk]
    by_cases h:g=k
    . have hb:(g==k)=true:=beq_iff_eq.mpr h
      simp only[List.lookup,hb,if_pos (h.trans hk)]
    . have hb:(g==k)=false:=beq_eq_false_iff_ne.mpr h
      simp only[List.lookup,hb,if_neg (fun e:g=f=>h (e.trans hk.symm))]
  . rw[if_neg hk]
    by_cases h:g=k
    . have hb:(g==k)=true:=beq_iff_eq.mpr h
      simp only[List.lookup,hb,if_neg (fun e:g=f=>hk (h.symm.trans e))]
    . have hb:(g==k)=false:=beq_eq_false_iff_ne.mpr h
      simp only[List.lookup,hb]
      exact ih
theorem zDe (f:Str)(v:V):∀fs:List (Str×V),f∈(zC2 f v fs).map (·.1)/\∀g,g∈fs.map (·.1)->g∈(zC2 f v fs).map (·.1)
 | []=>⟨by simp[zC2],fun g h=>by simp at h⟩
 | (k,x)::r=>by
  obtain⟨i1,i2⟩:=zDe f v r
  rw[show zC2 f v ((k,x)::r)=(if k=f then (k,v)::r else (k,x)::zC2 f v r) from rfl]
  by_cases hk:k=f
  . rw[if_pos hk]
    subst hk
    exact⟨by simp,fun g h=>by simpa using h⟩
  . rw[if_neg hk]
    refine⟨?_,fun g h=>?_⟩
    . rw[zv]
      exact zf _ i1
    . rw[zv] at h ⊢
      rcases za.mp h with e | e
      . exact za.mpr (.inl e)
      . exact zf _ (i2 g e)
theorem zDc (f:Str)(v:V):∀fs:List (Str×V),(zC2 f v fs).length<=fs.length+1
 | []=>by simp[zC2]
 | (k,x)::r=>by
  have ih:=zDc f v r
  rw[show zC2 f v ((k,x)::r)=(if k=f then (k,v)::r else (k,x)::zC2 f v r) from rfl]
  by_cases hk:k=f
  . rw[if_pos hk,zh,zh];omega
  . rw[if_neg hk,zh,zh];omega
theorem zEx.some_of {v:V}{o:Option Value}(r:zEx (some v) o):∃u,o=some u/\zBY v u:=by
 cases o with
 | none=>exact (show False from r).elim
 | some u=>exact⟨u,rfl,r⟩
theorem zEx.none_of {o:Option Value}(r:zEx none o):o=none:=by
 cases o with
 | none=>rfl
 | some u=>exact (show False from r).elim
theorem zIE {v:V}{u:Value}(r:zBY v u):PySem.W.handedIn u=true:=by
 cases v with
 | non=>cases (show u=Value.none from r);rfl
 | bl b=>cases (show u=Value.bool b from r);rfl
 | int i=>obtain⟨t,e⟩:=(show ∃t,u=Value.int i t from r);cases e;rfl
 | str x=>obtain⟨t,e⟩:=(show ∃t,u=Value.str x t from r);cases e;rfl
 | byt b=>obtain⟨t,e⟩:=(show ∃t,u=Value.bytes b t from r);cases e;rfl
 | flt b=>obtain⟨t,e⟩:=(show ∃t,u=Value.float b t from r);cases e;rfl
 | ref a=>cases (show u=Value.ref a from r);rfl
 | ty n=>cases (show u=Value.type n from r);rfl
section
variable {P:Program}{w:World}{H H':Hp}{h h':Heap}{a C dx:Addr}{fs fs':List (Str×V)}
theorem zDi (hok:HOk P w H h)(e:H a=some (.ins C dx fs)):∃mA,zLt h a dx C mA/\(∀f,zEx (fs.lookup f) (mA f))/\PySem.Within mA (fs.map (·.1))/\fs.length<=1000/\H dx=some (.own a):=by
 obtain⟨d,z,ne,ob,mA,n,r,q⟩:=(show zBA P w H h a (.ins C dx fs) from hok a _ e)
 exact⟨mA,⟨ob,n,ne⟩,r,q,z,d⟩
end
structure Cls (K:PySem.W.Frag)(C:Addr):Prop where
 pg:PySem.W.plainGet K C Str.empty=true
 hd:PySem.W.hasDictIn K C=true
 po:PySem.W.plainOver K C=true
 sa:PySem.W.findIn K (.ref C) "__setattr__" = some (some (.builtin "object.__setattr__"))
theorem Cls.get {K:PySem.W.Frag}{C:Addr}(c:Cls K C)(f:Str):PySem.W.plainGet K C f=true:=c.pg
noncomputable def zCB (K:PySem.W.Frag)(C:Addr)(f:Str):Prop:=PySem.W.findIn K (.ref C) f=some none
theorem zCB.taker {K:PySem.W.Frag}{C:Addr}{f:Str}(n:zCB K C f):PySem.W.takerIn K C f=some none:=by
 unfold PySem.W.takerIn
 rw[show PySem.W.findIn K (.ref C) f=some none from n]
 rfl
structure zKN (K:PySem.W.Frag)(C:Addr)(m:Str)(f:Addr):Prop where
 at_:PySem.W.findIn K (.ref C) m=some (some (.ref f))
 fn:PySem.W.isFn K (.ref f)=true
 kp:PySem.W.keepIn K (.ref f)=true
section
variable {X:Cx}{pins:List (Addr×Obj)}{σ:St}{H:Hp}{s:Shared}{a C dx:Addr}{fs:List (Str×V)}{f:Str}{v:V}{A:Around}{E:Value->Shared->Prop}
theorem zGy {b:Bool}{Q:Value->Shared->Prop}(I:Inv X pins σ H s)(e:H a=some (.ins C dx fs))(c:Cls X.K C)(n:zCB X.K C f)(l:fs.lookup f=some v)
 (h:∀u s',Inv X pins σ H s'->zBY v u->Q u s'):wpAny (model X.prog X.w) A (getAttr (.ref a) f b) Q E s:=by
 obtain⟨mA,O,r,_,_,_⟩:=zDi I.hok e
 obtain⟨u,hu,ru⟩:=zEx.some_of (v:=v) (o:=mA f) (by rw[<-l];exact r f)
 exact zLf I.kIn O (c.get f) c.hd n hu (zIE ru) (h u _ (I.tok _) ru)
theorem zER {m:Str}{g:Addr}{pl:Sem Bool}{Q:Value×List Value->Shared->Prop}(I:Inv X pins σ H s)(e:H a=some (.ins C dx fs))(c:Cls X.K C)(k:zKN X.K C m g)(l:fs.lookup m=none)
 (h:Q (.ref g,[.ref a]) s):wpAny (model X.prog X.w) A (getMethod (.ref a) m pl) Q E s:=by
 obtain⟨mA,O,r,_,_,_⟩:=zDi I.hok e
 have hn:mA m=none:=zEx.none_of (by rw[<-l];exact r m)
 exact zJU I.kIn O (c.get m) k.at_ k.fn hn h
theorem zGi {y:V}{u:Value}{Q:Unit->Shared->Prop}(I:Inv X pins σ H s)(e:H a=some (.ins C dx fs))(c:Cls X.K C)(n:zCB X.K C f)(hl:fs.length<1000)(ry:zBY y u)
 (h:∀s',Inv X pins σ (upd H a (.ins C dx (zC2 f y fs))) s'->Q () s'):wpAny (model X.prog X.w) A (setAttr (.ref a) f u) Q E s:=by
 obtain⟨mA,O,r,wi,_,ho⟩:=zDi I.hok e
 have hz:(fs.map (·.1)).length<=sizeLine:=by rw[zD,sizeLine_eq];omega
 refine zKq I.kIn O c.sa c.po n.taker c.hd wi hz fun h' O' sb=>h _ ?_
 have hd:∃o,h'.get? dx=some o:=let ⟨o,_,_,e',_⟩:=O'.ns;⟨o,e'⟩
 refine I.write (x:=a) (e:=dx) (by rw[e];exact True.intro) (.inr ho) (fun b q hb z=>(sb.2 b hb).trans z) hd ?_
 refine⟨by rw[zV O.ne];exact ho,?_,O.ne,O'.obj,_,O'.ns,fun g=>?_,fun g hg=>?_⟩
 . have:=zDc f y fs;omega
 . show zEx ((zC2 f y fs).lookup g) (if g=f then some u else mA g)
   rw[zDa]
   by_cases q:g=f
   . rw[if_pos q,if_pos q];exact ry
   . rw[if_neg q,if_neg q];exact r g
 . by_cases q:g=f
   . rw[q];exact (zDe f y fs).1
   . refine (zDe f y fs).2 g (wi g fun z=>hg ?_)
     show (if g=f then some u else mA g)=none
     rw[if_neg q];exact z
theorem Inv.made (I:Inv X pins σ H s):Inv X pins σ (upd (upd H s.heap.objs.size (.own (s.heap.objs.size+1))) (s.heap.objs.size+1) (.ins C s.heap.objs.size []))
 { s with heap:=(s.heap.push PySem.W.emptyDict).push (PySem.W.instObj C s.heap.objs.size) }:=by
 have e1:(s.heap.push PySem.W.emptyDict).get? s.heap.objs.size=some PySem.W.emptyDict:=zP s.heap rfl
 have e2:((s.heap.push PySem.W.emptyDict).push (PySem.W.instObj C s.heap.objs.size)).get? (s.heap.objs.size+1)=some (PySem.W.instObj C s.heap.objs.size):=by
  have:=zP (s.heap.push PySem.W.emptyDict) (o:=PySem.W.instObj C s.heap.objs.size) rfl
  rwa [zAj] at this
 have e3:(s.heap.push PySem.W.emptyDict).Ns s.heap.objs.size (fun _=>none):=⟨PySem.W.emptyDict,#[],_,e1,rfl,(fun e he=>absurd he (by simp)),fun _=>rfl⟩
 have I1:=I.laid (a:=s.heap.objs.size) (o:=.own (s.heap.objs.size+1)) (h':=s.heap.push PySem.W.emptyDict) (t':=s.toks) (fun b u q=>zJ _ q) (zM _) ⟨_,e1⟩
 refine I1.laid (a:=s.heap.objs.size+1) (o:=.ins C s.heap.objs.size []) (t':=s.toks) (fun b u q=>zJ _ q) (Nat.le_of_eq (zAj _ _)) ?_
 have ne:s.heap.objs.size≠s.heap.objs.size+1:=zW (zBG _)
 refine⟨by rw[zV ne,zH],zj _,ne,e2,fun _=>none,(Heap.Ns1.of_empty e3).at fun o q=>zJ _ q,fun _=>True.intro,fun y hy=>absurd rfl hy⟩
theorem zLr {prog:Program}{w:World}{env:Env}{e:Expr}{f:Str}{pos:Pos}{s:Shared}{Q:Value->Shared->Prop}(hb:attributeBase e f env (eval e env)=eval e env)
 (h:wpAny (model prog w) A (eval e env) (fun o s₁=>wpAny (model prog w) A (getAttr o f true) Q E s₁) E s):wpAny (model prog w) A (eval (.Attribute e f pos) env) Q E s:=
 Attribute_any_ h (by rw[arm_eval_Attribute,hb])
end
noncomputable def tFld (K:PySem.W.Frag)(ta:TE)(f:Str):TE:=fun σ H Q=>ta σ H fun x H1=>∃a C dx fs v,x = .ref a/\H1 a=some (.ins C dx fs)/\Cls K C/\zCB K C f/\fs.lookup f=some v/\Q v H1
noncomputable def sFld (K:PySem.W.Frag)(ta tv:TE)(f:Str):TS:=fun D σ H=>tv σ H fun y H1=>ta σ H1 fun x H2=>∃a C dx fs,x = .ref a/\H2 a=some (.ins C dx fs)/\Cls K C/\zCB K C f/\fs.length<1000 /\
 D.nx σ (upd H2 a (.ins C dx (zC2 f y fs)))
section
variable {X:Cx}{o e value:Expr}{f:Str}{pos pos' tpos:Pos}{ta tv:TE}
theorem zCg (he:PE X e ta)(hb:attributeBase e f X.env (eval e X.env)=eval e X.env):PE X (.Attribute e f pos) (tFld X.K ta f):=by
 intro pins s σ H Q I h
 refine zLr hb (thn (he pins s σ H _ I h) fun u s1 ⟨x,H1,I1,rx,a,C,dx,fs,v,ex,ea,c,n,l,q⟩=>?_)
 subst ex
 obtain rfl:u=Value.ref a:=rx
 exact zGy I1 ea c n l fun u' s2 I2 ru=>⟨v,H1,I2,ru,q⟩
theorem zEK (ha:PE X o ta)(hv:PE X value tv)(hs:swapsWith value (some (.Attribute o f pos')) pos.line X.env=pure false):PS X (.Assign [.Attribute o f pos'] value pos) (sFld X.K ta tv f):=by
 intro pins s σ H D I h
 refine plainObj_wpAny_Assign_Attribute (thn (hv pins s σ H _ I h) fun u s1 ⟨y,H1,I1,ry,q⟩=>thn (ha pins s1 σ H1 _ I1 q) fun ov s2 ⟨x,H2,I2,rx,a,C,dx,fs,ex,ea,c,n,l,q2⟩=>?_) hs
 subst ex
 obtain rfl:ov=Value.ref a:=rx
 exact zGi I2 ea c n l ry fun s3 I3=>⟨σ,_,I3,q2⟩
end
section
variable {X:Cx}{pins:List (Addr×Obj)}{σ:St}{H:Hp}{s:Shared}{A:Around}{E:Value->Shared->Prop}{Q:Value->Shared->Prop}{c:Value}{b:Bool}
inductive zFn (K:PySem.W.Frag)(H:Hp):V->Value->Prop where
 | non:zFn K H .non (.type "NoneType")
 | bl (x:Bool):zFn K H (.bl x) (.type "bool")
 | int (i:Int):zFn K H (.int i) (.type "int")
 | str (x:Str):zFn K H (.str x) (.type "str")
 | flt (x:UInt64):zFn K H (.flt x) (.type "float")
 | lst {a:Addr}{xs:List V}(e:H a=some (.lst xs)):zFn K H (.ref a) (.type "list")
 | frz {a:Addr}{o:Obj}{xs:List V}(e:H a=some (.frz o (.lst xs))):zFn K H (.ref a) (.type "list")
 | tup {a:Addr}{xs:List V}(e:H a=some (.tup xs)):zFn K H (.ref a) (.type "tuple")
 | dK {a:Addr}{kvs:List (Key×V)}(e:H a=some (.dK kvs)):zFn K H (.ref a) (.type "dict")
 | dT {a:Addr}{kvs:List (List Key×V)}(e:H a=some (.dT kvs)):zFn K H (.ref a) (.type "dict")
 | ins {a C dx:Addr}{fs:List (Str×V)}(e:H a=some (.ins C dx fs))(cl:Cls K C)(ha:PySem.W.findIn K (.ref C) "__class__" = some (some (.builtin "object.__class__")))
  (hn:PySem.W.specialIn K (.builtin "object.__class__") "__get__" = some (some (.builtin "getset_descriptor.__get__"))) (htk:PySem.W.takesIn K (.builtin "object.__class__")=some true)
  (hm:PySem.W.mroIn K C (.type "object")=some true):zFn K H (.ref a) (.ref C)
theorem zH5 {x:V}{u t:Value}(I:Inv X pins σ H s)(rx:zBY x u)(ty:zFn X.K H x t)(e:PySem.W.kitOne X.K t c=some b)(h:∀tk,Q (.bool b) { s with toks:=tk }) :
 wpAny (model X.prog X.w) A (call (.builtin "isinstance") [u,c]) Q E s:=by
 cases ty with
 | non=>cases (show u=Value.none from rx);exact PySem.W.kia_one PySem.W.kitx_none I.kIn True.intro e (fun z=>nomatch z) h
 | bl y=>cases (show u=Value.bool y from rx);exact PySem.W.kia_one PySem.W.kitx_bool I.kIn True.intro e (fun z=>nomatch z) h
 | int i=>obtain⟨t,q⟩:=(show ∃t,u=Value.int i t from rx);cases q;exact PySem.W.kia_one PySem.W.kitx_int I.kIn True.intro e (fun z=>nomatch z) h
 | str y=>obtain⟨t,q⟩:=(show ∃t,u=Value.str y t from rx);cases q;exact PySem.W.kia_one PySem.W.kitx_str I.kIn True.intro e (fun z=>nomatch z) h
 | flt y=>obtain⟨t,q⟩:=(show ∃t,u=Value.float y t from rx);cases q;exact PySem.W.kia_one PySem.W.kitx_float I.kIn True.intro e (fun z=>nomatch z) h
 | @lst a xs ea=>
  cases (show u=Value.ref a from rx)
  obtain⟨_,_,n,_,h1⟩:=(show zBA X.prog X.w H s.heap a (.lst xs) from I.hok a _ ea)
  exact PySem.W.kia_one PySem.W.kitx_list I.kIn ⟨_,h1,rfl⟩ e (fun z=>nomatch z) h
 | @frz a ob xs ea=>
  cases (show u=Value.ref a from rx)
  obtain⟨_,_,_,n,_,h1⟩:=(show zBA X.prog X.w H s.heap a (.frz ob (.lst xs)) from I.hok a _ ea)
  exact PySem.W.kia_one PySem.W.kitx_list I.kIn ⟨_,h1,rfl⟩ e (fun z=>nomatch z) h
 | @tup a xs ea=>
  cases (show u=Value.ref a from rx)
  obtain⟨_,_,_,p⟩:=(show zBA X.prog X.w H s.heap a (.tup xs) from I.hok a _ ea)
  obtain⟨o,h1,h2,_⟩:=p
  exact PySem.W.kia_one PySem.W.kitx_tuple I.kIn ⟨o,h1,h2⟩ e (fun z=>nomatch z) h
 | @dK a kvs ea=>
  cases (show u=Value.ref a from rx)
  obtain⟨_,_,vs,_,p⟩:=(show zBA X.prog X.w H s.heap a (.dK kvs) from I.hok a _ ea)
  obtain⟨o,es,ep,h1,h2,_⟩:=p
  exact PySem.W.kia_one PySem.W.kitx_dict I.kIn ⟨o,h1,h2.1⟩ e (fun z=>nomatch z) h
 | @dT a kvs ea=>
  cases (show u=Value.ref a from rx)
  obtain⟨_,_,xs,_,o,es,ep,h1,h2,_⟩:=(show zBA X.prog X.w H s.heap a (.dT kvs) from I.hok a _ ea)
  exact PySem.W.kia_one PySem.W.kitx_dict I.kIn ⟨o,h1,h2.1⟩ e (fun z=>nomatch z) h
 | @ins a C dx fs ea cl ha hn htk hm=>
  cases (show u=Value.ref a from rx)
  obtain⟨mA,O,_⟩:=zDi I.hok ea
  obtain⟨od,J,_⟩:=O.look
  exact PySem.W.kia_one (PySem.W.kitx_own (cl.get _) cl.hd ha hn htk hm) I.kIn J e (fun z=>nomatch z) h
end
end L2
namespace L2
open PySem PySem.Spec PyProof.Rows
structure zCF (k:Nat)(A:Around):Prop where
 hd:A.handled=none
 dp:A.depth+3*k+5<recursionLimit
 un:A.units+16*k+200<cLine
 gd:A.guards=some []
theorem zCF.mono {j k:Nat}{A:Around}(r:zCF k A)(h:j<=k):zCF j A:=⟨r.hd,by have:=r.dp;omega,by have:=r.un;omega,r.gd⟩
theorem zCF.deeper {k:Nat}{A:Around}(r:zCF (k+1) A)(env:Env):zCF k (A.deeper env):=
 ⟨r.hd,by have:=r.dp;show A.depth+1+3*k+5<_;omega,by have:=r.un;show A.units+3+16*k+200<_;omega,r.gd⟩
theorem zCF.in1 {k:Nat}{A:Around}(r:zCF (k+1) A):zCF k A.in1:=
 ⟨r.hd,by have:=r.dp;show A.depth+3*k+5<_;omega,by have:=r.un;show A.units+1+16*k+200<_;omega,r.gd⟩
theorem zGs {A:Around}{C:Addr}{us:List Value}{kw:List (Str×Value)}:(A.under (.builtin "type.__call__" ⟨.ref C::us,kw⟩)).depth=A.depth+1:=by
 first | rfl | simp[Around.under,Code.weight,Code.isCreation,Code.isGuard,Code.isCaller,Code.frames,Code.isFrame,guardIds]
theorem zGr {A:Around}{C:Addr}{us:List Value}{kw:List (Str×Value)}:(A.under (.builtin "type.__call__" ⟨.ref C::us,kw⟩)).units=A.units+1:=by
 first | rfl | simp[Around.under,Code.cUnits,Code.frames,Code.isFrame]
theorem zCF.make {k:Nat}{A:Around}(r:zCF (k+1) A)(C:Addr)(us:List Value)(kw:List (Str×Value)):zCF k (A.under (.builtin "type.__call__" ⟨.ref C::us,kw⟩)):=
 ⟨r.hd,by have:=r.dp;rw[zGs];omega,by have:=r.un;rw[zGr];omega,by first | exact r.gd | (simp[Around.under,Code.guards,Code.isGuard,guardIds,pushGuards];exact r.gd)⟩
theorem zCF.depth {k:Nat}{A:Around}(r:zCF k A):A.depth<recursionLimit:=by have:=r.dp;omega
theorem zCF.units {k:Nat}{A:Around}(r:zCF k A):A.units+64<cLine:=by have:=r.un;omega
theorem zCF.units0 {k:Nat}{A:Around}(r:zCF k A):A.units<cLine:=by have:=r.un;omega
noncomputable def tNil:TA:=fun _ H Q=>Q [] H
noncomputable def zKV (ta:TE)(tr:TA):TA:=fun σ H Q=>ta σ H fun x H1=>tr σ H1 fun xs H2=>Q (x::xs) H2
section
variable {X:Cx}{e:Expr}{es:List Expr}{te:TE}{t:TA}{pos:Pos}
theorem zK:PA X [] tNil:=fun _ _ _ _ H Q I h=>Calls.spliced_nil ⟨[],H,I,.nil,h⟩
theorem zB (ha:PE X e te)(hr:PA X es t)(hs:starEach (e::es) X.env=(false,eval e X.env)::starEach es X.env:=by rfl):PA X (e::es) (zKV te t):=by
 intro pos pins s σ H Q I h
 rw[hs]
 show wpAny _ _ (spliced ((false,eval e X.env)::backTo pos (starEach es X.env))) _ _ s
 refine Calls.spliced_cons (thn (ha pins s σ H _ I h) fun u s1 ⟨x,H1,I1,r1,q1⟩=>?_)
 exact thn (hr pos pins s1 σ H1 _ I1 q1) fun us s2 ⟨xs,H2,I2,r2,q2⟩=>⟨x::xs,H2,I2,.cons r1 r2,q2⟩
noncomputable def tTup (t:TA):TE:=fun σ H Q=>t σ H fun xs H1=>xs.length<=sizeLine/\∀p,H1 p=none->Q (.ref p) (upd H1 p (.tup xs))
noncomputable def tLst (t:TA):TE:=fun σ H Q=>t σ H fun xs H1=>xs.length<=sizeLine/\∀p,H1 p=none->Q (.ref p) (upd H1 p (.lst xs))
theorem zAY {x1} (h:PA X es t):PE X (.Tuple es x1 pos) (tTup t):=by
 intro pins s σ H Q I hq
 refine wpAny_Tuple_spliced (thn (h pos pins s σ H _ I hq) fun us s1 ⟨xs,H1,I1,r,z,q⟩=>⟨by rw[<-r.length];exact z,?_⟩)
 have hf:H1 s1.heap.objs.size=none:=I1.hok.fresh (zM _)
 refine⟨.ref s1.heap.objs.size,upd H1 s1.heap.objs.size (.tup xs),I1.laid (t':=s1.toks) (fun b u e=>zJ _ e) (zM _) ?_,rfl,q _ hf⟩
 exact⟨⟨z,_,zP _ rfl,rfl⟩,us,r,⟨_,zP _ rfl,rfl,_,rfl⟩⟩
theorem zBF (h:PA X es t):PE X (.List es pos) (tLst t):=by
 intro pins s σ H Q I hq
 refine wpAny_List_spliced (thn (h pos pins s σ H _ I hq) fun us s1 ⟨xs,H1,I1,r,z,q⟩=>⟨by rw[<-r.length];exact z,?_⟩)
 have hf:H1 s1.heap.objs.size=none:=I1.hok.fresh (zM _)
 refine⟨.ref s1.heap.objs.size,upd H1 s1.heap.objs.size (.lst xs),I1.laid (t':=s1.toks) (fun b u e=>zJ _ e) (zM _) ?_,rfl,q _ hf⟩
 exact⟨z,us,0,r,zP _ rfl⟩
end
noncomputable abbrev Sp:=List V->Hp->VK->XK->Prop
noncomputable abbrev CXT:=List Env->Hp->Shared->XK->Value->Shared->Prop
structure zLv (P:Program)(w:World)(K:PySem.W.Frag)(mg:Str->Option Value)(base:Heap)(A:Around)(outer:List Env)(s:Shared)(H:Hp):Prop where
 frames:A.frames=some outer
 mod:Mod K mg base
 bs:∀b o,base.get? b=some o->s.heap.get? b=some o/\H b=none
 bsz:base.objs.size<=s.heap.objs.size
 funs:s.heap.FunFrames base outer
 frf:∀b∈frs outer,H b=none
 hok:HOk P w H s.heap
 bare:AllBare s.gens
noncomputable def CE (outer:List Env)(P:Program)(w:World)(H:Hp)(s:Shared)(Q:VK)(u:Value)(s':Shared):Prop:=
 ∃v H',s'.os=s.os/\AllBare s'.gens/\Un (frs outer) [] H H' s.heap s'.heap/\HOk P w H' s'.heap/\zBY v u/\Q v H'
noncomputable def CR (CX:CXT)(outer:List Env)(P:Program)(w:World)(H:Hp)(s:Shared)(Q:VK)(E:XK)(r:Result)(s':Shared):Prop:=
 match r with
 | .ok (.ret u)=>CE outer P w H s Q u s'
 | .ok _=>False
 | .error e=>CX outer H s E e s'
structure zy (P:Program)(w:World)(K:PySem.W.Frag)(mg:Str->Option Value)(base:Heap)(CX:CXT)(k:Nat)(f:Addr)(fd:FuncData)(ps:List Str)(sp:Sp):Prop where
 len:∀vs H Q E,sp vs H Q E->vs.length=ps.length
 run:∀(A:Around)(outer:List Env)(s:Shared)(H:Hp)(args:Args)(us:List Value)(vs:List V)(Q:VK)(E:XK),zCF k A->zLv P w K mg base A outer s H->BindsTo s fd args (ps.zip us)->zA2 vs us->sp vs H Q E ->
  codeAny (model P w) A (.call (.ref f) args) (CR CX outer P w H s Q E) s
theorem zy.mono {P:Program}{w:World}{K:PySem.W.Frag}{mg:Str->Option Value}{base:Heap}{CX:CXT}{j k:Nat}{f:Addr}{fd:FuncData}{ps:List Str}{sp:Sp}(F:zy P w K mg base CX j f fd ps sp)(h:j<=k) :
 zy P w K mg base CX k f fd ps sp:=⟨F.len,fun A outer s H args us vs Q E hr=>F.run A outer s H args us vs Q E (hr.mono h)⟩
theorem zy.imp {P:Program}{w:World}{K:PySem.W.Frag}{mg:Str->Option Value}{base:Heap}{CX:CXT}{k:Nat}{f:Addr}{fd:FuncData}{ps:List Str}{sp sp':Sp}(F:zy P w K mg base CX k f fd ps sp)
 (h:∀vs H Q E,sp' vs H Q E->sp vs H Q E):zy P w K mg base CX k f fd ps sp':=
 ⟨fun vs H Q E q=>F.len vs H Q E (h _ _ _ _ q),fun A outer s H args us vs Q E hr he hb hv hs=>F.run A outer s H args us vs Q E hr he hb hv (h _ _ _ _ hs)⟩
theorem zLv.make {P:Program}{w:World}{K:PySem.W.Frag}{mg:Str->Option Value}{base:Heap}{A:Around}{outer:List Env}{s:Shared}{H:Hp}(e:zLv P w K mg base A outer s H)(C:Addr)(us:List Value)(kw:List (Str×Value)) :
 zLv P w K mg base (A.under (.builtin "type.__call__" ⟨.ref C::us,kw⟩)) outer s H:=⟨by first | exact e.frames | (simpa [Around.under,Code.envs,Code.isFrame,pushEnvs] using e.frames),e.mod,e.bs,e.bsz,e.funs,e.frf,e.hok,e.bare⟩
section
variable {X:Cx}{pins:List (Addr×Obj)}{σ:St}{H:Hp}{s s':Shared}
theorem Inv.env0 (I:Inv X pins σ H s):zLv X.prog X.w X.K X.mg X.base X.A X.stack s H:=
 ⟨I.ok.frames,I.ok.mod,I.bs,zAp I.ok.bsz I.sz,I.stack,I.stkFree,I.hok,I.bare⟩
theorem Inv.after {Q:VK}{u:Value}(I:Inv X pins σ H s)(h:CE X.stack X.prog X.w H s Q u s'):EP X pins σ Q u s':=by
 obtain⟨v,H',os,bare,un,hok,r,q⟩:=h
 obtain⟨hh,g,d,t,os'⟩:=s'
 obtain rfl:os'=s.os:=os
 exact⟨v,H',I.call (h':=hh) (g':=g) (d':=d) (t':=t) (ch:=[]) un hok bare (fun b z=>absurd z (by simp)),r,q⟩
end
noncomputable def tCall (sp:Sp)(dvs:List V)(E:XK)(t:TA):TE:=fun σ H Q=>t σ H fun vs H1=>sp (vs++dvs) H1 Q E
noncomputable def tMeth (C:Addr)(m:Str)(sp:Sp)(dvs:List V)(E:XK)(ta:TE)(t:TA):TE:=fun σ H Q=>ta σ H fun x H1=>∃a dx fs,x = .ref a/\H1 a=some (.ins C dx fs)/\fs.lookup m=none /\
 t σ H1 fun vs H2=>sp (x::(vs++dvs)) H2 Q E
noncomputable def tMake (C:Addr)(sp:Sp)(dvs:List V)(E:XK)(t:TA):TE:=fun σ H Q=>t σ H fun vs H1=>∀x dx,H1 x=none->H1 dx=none->dx≠x ->
 sp (.ref x::(vs++dvs)) (upd (upd H1 dx (.own x)) x (.ins C dx [])) (fun v H2=>v = .non/\Q (.ref x) H2) E
noncomputable def zt (K:PySem.W.Frag)(fd:FuncData)(ps:List Str)(ds:List Value):Prop:=
 ∀(s:Shared)(us:List Value),K.In s.heap->(us++ds).length=ps.length->BindsTo s fd ⟨us,[]⟩ (ps.zip (us++ds))
theorem zt.all {K:PySem.W.Frag}{fd:FuncData}{ps:List Str}(h:∀us:List Value,us.length=ps.length->bindArgs fd ⟨us,[]⟩=pure (ps.zip us)):zt K fd ps []:=fun s us _ hl=>by
 rw[zr] at hl ⊢
 exact .of_eq (h us hl)
noncomputable def zDI (CX:CXT)(X:Cx)(E:XK):Prop:=∀(pins:List (Addr×Obj))(σ:St)(H:Hp)(s:Shared)(e:Value)(s':Shared),Inv X pins σ H s->CX X.stack H s E e s'->X.xe e s'
section
variable {X:Cx}{CX:CXT}{k:Nat}{f C:Addr}{fd:FuncData}{ps:List Str}{sp:Sp}{dvs:List V}{ds:List Value}{E:XK}{x m:Str}{p pos apos:Pos}{e o:Expr}{es:List Expr}{ta:TE}{t:TA}
theorem zHR {pins:List (Addr×Obj)}{σ:St}{H:Hp}{s:Shared}{Q:VK}{us:List Value}{vs:List V}(F:zy X.prog X.w X.K X.mg X.base CX k f fd ps sp)(hr:zCF k X.A)(hb:zt X.K fd ps ds)(hd:zA2 dvs ds)(hx:zDI CX X E)
 (I:Inv X pins σ H s)(r:zA2 vs us)(h:sp (vs++dvs) H Q E):wpAny (model X.prog X.w) X.A (call (.ref f) us) (EP X pins σ Q) X.xe s:=by
 have r2:zA2 (vs++dvs) (us++ds):=r.append hd
 have hl:(us++ds).length=ps.length:=by rw[<-r2.length];exact F.len _ _ _ _ h
 refine wpAny_call (codeAny_mono (F.run X.A X.stack s H ⟨us,[]⟩ (us++ds) (vs++dvs) Q E hr I.env0 (hb s us I.kIn hl) r2 h) fun r s' hq=>?_)
 cases r with
 | error e=>exact hx pins σ H s e s' I hq
 | ok fl=>
  cases fl with
  | ret u=>exact I.after hq
  | next=>exact False.elim hq
  | brk=>exact False.elim hq
  | cont=>exact False.elim hq
theorem zg (F:zy X.prog X.w X.K X.mg X.base CX k f fd ps sp)(hr:zCF k X.A)(hg:Gl X x)(hm:X.mg x=some (.ref f))(hk:PySem.W.keepIn X.K (.ref f)=true)(hb:zt X.K fd ps ds)(hd:zA2 dvs ds)(hx:zDI CX X E)
 (ha:PA X (e::es) t)(hdb:(x==("__debug__" : Str))=false:=by decide) (he:starEach (e::es) X.env=(false,eval e X.env)::starEach es X.env:=by rfl)(hpl:(backTo pos (starEach es X.env)).any (·.1)=false:=by rfl) :
 PE X (.Call (.Name x p) (e::es) [] pos) (tCall sp dvs E t):=by
 intro pins s σ H Q I h
 refine zAv (zCY I hg hm ?_ hdb)
 refine PySem.W.callWith_K (h₀:=X.base) I.ok.mod.kin hk (thn (ha pos pins s σ H _ I h) fun us s1 ⟨vs,H1,I1,r,q⟩=>⟨I1.kIn,?_⟩) he hpl
 exact zHR F hr hb hd hx I1 r q
theorem zCK {pl:Sem Bool}(he:PE X o ta)(c:Cls X.K C)(hm:zKN X.K C m f)(F:zy X.prog X.w X.K X.mg X.base CX k f fd ps sp)(hr:zCF k X.A)(hb:zt X.K fd ps ds)(hd:zA2 dvs ds)(hx:zDI CX X E)(ha:PA X (e::es) t)
 (hst:starEach (e::es) X.env=(false,eval e X.env)::starEach es X.env:=by rfl)(hpl:(backTo pos (starEach es X.env)).any (·.1)=false:=by rfl)
 (ht:eval (.Call (.Attribute o m apos) (e::es) [] pos) X.env=(do
  let ov <-eval o X.env
  standAt apos.atName
  let (f,first) <-holding [ov] (getMethod ov m pl)
  callWith pos f first (backTo pos (starEach (e::es) X.env)) (backToKw pos (keywordEach [] X.env))):=by rfl) :
 PE X (.Call (.Attribute o m apos) (e::es) [] pos) (tMeth C m sp dvs E ta t):=by
 intro pins s σ H Q I h
 refine PySem.W.methodCall_KW (pl:=pl) (thn (he pins s σ H _ I h) fun u s1 ⟨x,H1,I1,rx,a,dx,fs,ex,ea,l,q⟩=>?_) ht
 subst ex
 obtain rfl:u=Value.ref a:=rx
 refine zER I1 ea c hm l ?_
 refine PySem.W.callWith_K (first:=[.ref a]) (h₀:=X.base) I.ok.mod.kin hm.kp (thn (ha pos pins s1 σ H1 _ I1 q) fun us s2 ⟨vs,H2,I2,r,q2⟩=>⟨I2.kIn,?_⟩) hst hpl
 exact zHR (us:=.ref a::us) (vs:=.ref a::vs) F hr hb hd hx I2 (.cons rfl r) q2
theorem zGO {pl:Sem Bool}(he:PE X o ta)(c:Cls X.K C)(hm:zKN X.K C m f)(F:zy X.prog X.w X.K X.mg X.base CX k f fd ps sp)(hr:zCF k X.A)(hb:zt X.K fd ps ds)(hd:zA2 dvs ds)(hx:zDI CX X E)
 (ht:eval (.Call (.Attribute o m apos) [] [] pos) X.env=(do
  let ov <-eval o X.env
  standAt apos.atName
  let (f,first) <-holding [ov] (getMethod ov m pl)
  callWith pos f first (backTo pos (starEach [] X.env)) (backToKw pos (keywordEach [] X.env))):=by rfl) :
 PE X (.Call (.Attribute o m apos) [] [] pos) (tMeth C m sp dvs E ta tNil):=by
 intro pins s σ H Q I h
 refine PySem.W.methodCall_KW (pl:=pl) (thn (he pins s σ H _ I h) fun u s1 ⟨x,H1,I1,rx,a,dx,fs,ex,ea,l,q⟩=>?_) ht
 subst ex
 obtain rfl:u=Value.ref a:=rx
 refine zER I1 ea c hm l ?_
 exact PySem.W.callWith_K0 (first:=[.ref a]) I1.kIn hm.kp (zHR (us:=[.ref a]) (vs:=[.ref a]) F hr hb hd hx I1 (.cons rfl .nil) q)
structure Mk (K:PySem.W.Frag)(C f:Addr):Prop where
 makes:PySem.W.makesIn K C=true
 init:PySem.W.findIn K (.ref C) "__init__" = some (some (.ref f))
 fn:PySem.W.isFn K (.ref f)=true
 kp:PySem.W.keepIn K (.ref C)=true
theorem zI4 {pins:List (Addr×Obj)}{σ:St}{H:Hp}{s:Shared}{Q:VK}{us:List Value}{vs:List V}(M:Mk X.K C f)(F:zy X.prog X.w X.K X.mg X.base CX k f fd ps sp)(hr:zCF (k+1) X.A)(hb:zt X.K fd ps ds)(hd:zA2 dvs ds)
 (hx:zDI CX X E)(I:Inv X pins σ H s)(r:zA2 vs us)
 (h:∀x dx,H x=none->H dx=none->dx≠x->sp (.ref x::(vs++dvs)) (upd (upd H dx (.own x)) x (.ins C dx [])) (fun v H2=>v = .non/\Q (.ref x) H2) E) :
 wpAny (model X.prog X.w) X.A (call (.ref C) us) (EP X pins σ Q) X.xe s:=by
 have hq:=h (s.heap.objs.size+1) s.heap.objs.size (I.hok.fresh (Nat.le_succ _)) (I.hok.fresh (zM _)) (zW (zBG _))
 have I2:=Inv.made (C:=C) I
 have r2:zA2 (V.ref (s.heap.objs.size+1)::(vs++dvs)) (Value.ref (s.heap.objs.size+1)::(us++ds)):=.cons rfl (r.append hd)
 have hl:(Value.ref (s.heap.objs.size+1)::us++ds).length=ps.length:=by
  have e:=r2.length
  rw[F.len _ _ _ _ hq] at e
  exact e.symm
 refine wpAny_call (zGW (f:=f) I.kIn M.makes M.init (beq_iff_eq.mp M.fn) (codeAny_mono (F.run _ X.stack _ _ ⟨Value.ref (s.heap.objs.size+1)::us,[]⟩ (Value.ref (s.heap.objs.size+1)::(us++ds)) _ _ E (hr.make C us [])
  (I2.env0.make C us []) (hb _ (Value.ref (s.heap.objs.size+1)::us) I2.kIn hl) r2 hq) fun r s' hq'=>?_))
 cases r with
 | error e=>exact hx pins σ _ _ e s' I2 hq'
 | ok fl=>
  cases fl with
  | ret u=>
   obtain⟨v,H',I3,rv,ev,q3⟩:=I2.after hq'
   subst ev
   exact⟨rv,⟨V.ref (s.heap.objs.size+1),H',I3,rfl,q3⟩⟩
  | next=>exact False.elim hq'
  | brk=>exact False.elim hq'
  | cont=>exact False.elim hq'
theorem zK4 (M:Mk X.K C f)(F:zy X.prog X.w X.K X.mg X.base CX k f fd ps sp)(hr:zCF (k+1) X.A)(hg:Gl X x)(hm:X.mg x=some (.ref C))(hb:zt X.K fd ps ds)(hd:zA2 dvs ds)(hx:zDI CX X E)
 (ha:PA X (e::es) t)(hdb:(x==("__debug__" : Str))=false:=by decide) (he:starEach (e::es) X.env=(false,eval e X.env)::starEach es X.env:=by rfl)(hpl:(backTo pos (starEach es X.env)).any (·.1)=false:=by rfl) :
 PE X (.Call (.Name x p) (e::es) [] pos) (tMake C sp dvs E t):=by
 intro pins s σ H Q I h
 refine zAv (zCY I hg hm ?_ hdb)
 refine PySem.W.callWith_K (h₀:=X.base) I.ok.mod.kin M.kp (thn (ha pos pins s σ H _ I h) fun us s1 ⟨vs,H1,I1,r,q⟩=>⟨I1.kIn,?_⟩) he hpl
 exact zI4 M F hr hb hd hx I1 r q
end
section
variable {X:Cx}{CX:CXT}{k:Nat}{f C:Addr}{fd:FuncData}{ps ks:List Str}{sp:Sp}{E:XK}{x m:Str}{p pos apos kpos:Pos}{e o:Expr}{es:List Expr}{kws:List Keyword}{te ta:TE}{t tk:TA}{nm:Option Str}
variable {g:List Value->List Value->List Value}{gV:List V->List V->List V}
end
structure zAA (N P:List Str)(sc:Scope):Prop where
 kind:sc.kind = .function
 co:sc.isCoroutine=false
 gen:sc.isGenerator=false
 nd:N.Nodup
 pre:N.take P.length=P
 par:∀x∈P,sc.names.lookup x=some .local\/sc.names.lookup x=some .cell
 nofree:∀y∈sc.names,y.2 ≠ .free
theorem zFe {kindOf:Str->Option NameKind}{x:Str}:∀{binds:List (Str×Value)}{m:Str->Option Value},(∀v,(x,v)∉binds)->bindL kindOf binds m x=m x
 | [],_,_=>rfl
 | (n,v)::r,m,h=>by
  unfold bindL
  rw[zFe fun w hw=>h w (zf _ hw)]
  split
  . have:x≠n:=by rintro rfl;exact h v ze
    simp[this]
  . rfl
theorem zFg {kindOf:Str->Option NameKind}{x:Str}:∀{binds:List (Str×Value)}{m:Str->Option Value},(∀v,(x,v)∉binds)->bindC kindOf binds m x=m x
 | [],_,_=>rfl
 | (n,v)::r,m,h=>by
  unfold bindC
  rw[zFg fun w hw=>h w (zf _ hw)]
  split
  . rfl
  . have:x≠n:=by rintro rfl;exact h v ze
    simp[this]
theorem zFf {kindOf:Str->Option NameKind}{x:Str}{v:Value}:∀{P:List Str}{vs:List Value}{i:Nat}{m:Str->Option Value},P.Nodup->P[i]? = some x->vs[i]? = some v->kindOf x=some .local ->
 bindL kindOf (P.zip vs) m x=some v
 | [],_,_,_,_,h,_,_=>by simp at h
 | _::_,[],_,_,_,_,h,_=>by simp at h
 | p::P,w::vs,0,m,nd,h1,h2,hk=>by
  simp at h1 h2;subst h1;subst h2
  show bindL kindOf ((p,w)::P.zip vs) m p=_
  unfold bindL
  rw[zFe fun v hv=>(zAi.mp nd).1 (List.of_mem_zip hv).1,if_pos hk]
  simp
 | p::P,w::vs,i+1,m,nd,h1,h2,hk=>by
  show bindL kindOf ((p,w)::P.zip vs) m x=_
  unfold bindL
  exact zFf (i:=i) (zAi.mp nd).2 (by simpa using h1) (by simpa using h2) hk
theorem zFh {kindOf:Str->Option NameKind}{x:Str}{v:Value}:∀{P:List Str}{vs:List Value}{i:Nat}{m:Str->Option Value},P.Nodup->P[i]? = some x->vs[i]? = some v->kindOf x≠some .local ->
 bindC kindOf (P.zip vs) m x=some v
 | [],_,_,_,_,h,_,_=>by simp at h
 | _::_,[],_,_,_,_,h,_=>by simp at h
 | p::P,w::vs,0,m,nd,h1,h2,hk=>by
  simp at h1 h2;subst h1;subst h2
  show bindC kindOf ((p,w)::P.zip vs) m p=_
  unfold bindC
  rw[zFg fun v hv=>(zAi.mp nd).1 (List.of_mem_zip hv).1,if_neg hk]
  simp
 | p::P,w::vs,i+1,m,nd,h1,h2,hk=>by
  show bindC kindOf ((p,w)::P.zip vs) m x=_
  unfold bindC
  exact zFh (i:=i) (zAi.mp nd).2 (by simpa using h1) (by simpa using h2) hk
noncomputable def start (N:List Str)(vs:List V):St:=vs.map some++List.replicate (N.length-vs.length) none
noncomputable def zGa (CX:CXT)(P:Program)(w:World)(K:PySem.W.Frag)(mg:Str->Option Value)(base:Heap)(N:List Str)(qual:Str)(scope:Scope)(f:Addr)(cd:Value)(A:Around)(outer:List Env)(s:Shared)(H:Hp)(E:XK):Cx where
 prog:=P
 w:=w
 K:=K
 mg:=mg
 base:=base
 A:=A.deeper (envOfC qual scope s.heap.objs.size f cd)
 N:=N
 s₀:=s
 H₀:=H
 env:=envOfC qual scope s.heap.objs.size f cd
 outer:=outer
 stack:=envOfC qual scope s.heap.objs.size f cd::outer
 ex:=[]
 calm:=true
 fn:=fun _=>true
 pn:=[]
 xe:=fun e s'=>wpAny (model P w) (A.deeper (envOfC qual scope s.heap.objs.size f cd)) (leaving (envOfC qual scope s.heap.objs.size f cd) e) (fun _ s''=>CX outer H s E e s'') (fun e' s''=>CX outer H s E e' s'') s'
theorem zGc {sc:Scope}{n:Nat}{x:Str}(h:sc.names.lookup x=some .cell):∃c,(cellsFrom n sc.names []).lookup x=some c:=by
 have q:=PySem.W.cellsFrom_some sc.names n [] (.inl h)
 exact zBD.mp q
theorem zH7 {CX:CXT}{P:Program}{w:World}{K:PySem.W.Frag}{mg:Str->Option Value}{base:Heap}{N ps:List Str}{qual:Str}{scope:Scope}{f:Addr}{cd:Value}{A:Around}{outer:List Env}{s s1:Shared}{H:Hp}{E:XK}{us:List Value}{vs:List V}
 (S:zAA N ps scope)(hd:A.handled=none)(e0:zLv P w K mg base A outer s H)(hl:vs.length=ps.length)(r:zA2 vs us)
 (x:InCallC s s.heap.objs.size (bindL (envOfC qual scope s.heap.objs.size f cd).kindOf (ps.zip us) fun _=>none) (cellsFrom (s.heap.objs.size+1) scope.names []) (bindC (envOfC qual scope s.heap.objs.size f cd).kindOf (ps.zip us) fun _=>none) s1) :
 Inv (zGa CX P w K mg base N qual scope f cd A outer s H E) [] (start N vs) H s1:=by
 have hpl:ps.length<=N.length:=by have:=congrArg List.length S.pre;rw[zAF] at this;omega
 obtain⟨h1,tk,rfl,hk⟩:=x.done
 have noA:∀b:Addr,b∉(zGa CX P w K mg base N qual scope f cd A outer s H E).ex:=fun b z=>absurd (show b∈([]:List Addr) from z) (by simp)
 refine⟨⟨e0.mod,S.kind,rfl,rfl,zM _,fun y z c h1 h2=>?_,fun y hy=>?_,fun y c _ h=>?_,fun _=>hd,Around.frames_deeper e0.frames,.inr ⟨rfl,rfl⟩,fun b z=>absurd z (noA b),e0.bs,e0.bsz,fun b _ _=>noA b,fun b z=>absurd z (noA b),e0.funs,e0.frf⟩,
  rfl,e0.bare,Un.kept hk,⟨_,x.toInCall.ns,fun i y v h1 h2 h3=>?_⟩,fun y c h=>⟨_,x.cell y c h⟩,e0.hok.fresh (zM _),fun y c h=>?_,fun p hp=>absurd (show p∈([]:List (Addr×Obj)) from hp) (by simp),e0.hok.kept hk,?_⟩
 . exact name_of_addr x.apart (PySem.mem_of_lookup h1) (PySem.mem_of_lookup h2)
 . have hy:scope.names.lookup y=some .cell\/scope.names.lookup y=some .free:=hy
   rcases hy with hy | hy
   . exact zGc hy
   . exact absurd rfl (S.nofree _ (PySem.mem_of_lookup hy))
 . exact zAE (x.above y c (PySem.mem_of_lookup h))
 . have hi:i<vs.length:=by
    unfold start at h2
    by_cases hi:i<vs.length
    . exact hi
    . rw[zo (by simpa using hi)] at h2
      rw[List.getElem?_replicate] at h2
      split at h2 <;> cases h2
   have ha:vs[i]? = some v:=by
    unfold start at h2
    rw[zu (by simpa using hi),zU] at h2
    cases e:vs[i]? with
    | none=>rw[e] at h2;cases h2
    | some a=>rw[e] at h2;cases h2;rfl
   obtain⟨u,hu,rv⟩:=r.get ha
   have hp:ps[i]? = some y:=by
    rw[<-S.pre,List.getElem?_take_of_lt (by omega)];exact h1
   have ndP:ps.Nodup:=by rw[<-S.pre];exact S.nd.sublist (List.take_sublist _ _)
   refine⟨u,rv,?_⟩
   rcases S.par y (zl hp) with k | k
   . exact .inl ⟨k,zFf ndP hp hu k⟩
   . obtain⟨c,e⟩:=zGc (n:=s.heap.objs.size+1) k
     refine .inr ⟨.inl k,c,e,?_⟩
     have q:=x.cell y c e
     rw[zFh ndP hp hu (by show scope.names.lookup y≠_;rw[k];decide)] at q
     exact q
 . exact e0.hok.fresh (zAE (x.above y c (PySem.mem_of_lookup h)))
 . unfold start
   show _=N.length
   rw[zN,zD,zAq]
   omega
theorem zLl {CX:CXT}{P:Program}{w:World}{K:PySem.W.Frag}{mg:Str->Option Value}{base:Heap}{k:Nat}{f:Addr}{name qual:Str}{params:Arguments}{body:List Stmt}{scope:Scope}{dV kV doc pm cdv ct oc:Value}{an od:Option Addr}
 {osl:Array (Option Value)}{N ps:List Str}{sp:Sp}(lk:K.lookup f=some ⟨oc,od,.func (PySem.W.fnOf name qual params body scope dV kV doc pm an cdv ct),osl⟩)(hcd:PySem.W.codeIn K cdv qual=true)(S:zAA N ps scope)
 (len:∀vs H Q E,sp vs H Q E->vs.length=ps.length)
 (hbody:∀(A:Around)(outer:List Env)(s:Shared)(H:Hp)(vs:List V)(Q:VK)(E:XK),zCF k (A.deeper (envOfC qual scope s.heap.objs.size f cdv))->sp vs H Q E ->
  ∃t,PSs (zGa CX P w K mg base N qual scope f cdv A outer s H E) body t/\t { nx:=fun _ H'=>Q .non H',rt:=Q } (start N vs) H) :
 zy P w K mg base CX (k+1) f (PySem.W.fnOf name qual params body scope dV kV doc pm an cdv ct) ps sp:=by
 refine⟨len,fun A outer s H args us vs Q E hr e0 hb r hsp=>?_⟩
 have hl:=len _ _ _ _ hsp
 have KX:K.In s.heap:=e0.mod.kin.keeps fun b o e=>(e0.bs b o e).1
 have lim:s.heap.NoLimit:=e0.mod.nolimit.keeps fun b o e=>(e0.bs b o e).1
 have hkind:∀y∈ps.zip us,scope.names.lookup y.1=some .local\/(scope.names.lookup y.1=some .cell/\((cellsFrom (s.heap.objs.size+1) scope.names []).lookup y.1).isSome=true):=fun ⟨n,v⟩ hy=>by
  rcases S.par n (List.of_mem_zip hy).1 with q | q
  . exact .inl q
  . exact .inr ⟨q,PySem.W.cellsFrom_some _ _ _ (.inl q)⟩
 refine codeAny_call_function hr.depth (KX _ _ lk) rfl S.co S.gen rfl (PySem.W.codeRec_of KX hcd) (hb _ _ _ _ ?_)
 refine wpAny_newFunctionEnv_cells S.kind hkind fun env he s1 x=>?_
 subst he
 refine⟨lim.keeps x.toInCall.keep,codeAny_func ?_⟩
 obtain⟨t,ht,hq⟩:=hbody A outer s H vs Q E (hr.deeper _) hsp
 have I:Inv (zGa CX P w K mg base N qual scope f cdv A outer s H E) [] (start N vs) H s1:=zH7 S hr.hd e0 hl r x
 refine zAg (ht [] s1 (start N vs) H _ I hq) (fun fl s' hs=>?_) fun e s' hs=>hs
 have fin:∀{σ':St}{H':Hp}{v:V}{u:Value},Inv (zGa CX P w K mg base N qual scope f cdv A outer s H E) [] σ' H' s'->zBY v u->Q v H'->CE outer P w H s Q u s':=
  fun {σ' H' v u} J rv q=>⟨v,H',J.os,J.bare,J.base,J.hok,rv,q⟩
 cases fl with
 | ret u=>
  obtain⟨v,σ',H',J,rv,q⟩:=hs
  exact fin J rv q
 | next=>
  obtain⟨σ',H',J,q⟩:=hs
  exact fin (v:=V.non) (u:=Value.none) J rfl q
 | brk=>
  obtain⟨_,_,_,q⟩:=hs
  exact False.elim q
 | cont=>
  obtain⟨_,_,_,q⟩:=hs
  exact False.elim q
end L2
namespace L2
open PySem PySem.Spec PyProof.Rows
section
variable {X:Cx}{x:Str}{p pos:Pos}{e:Expr}{es:List Expr}{t:TA}{id T:String}{r:List V->Hp->VK->Prop}
noncomputable def tCB (r:List V->Hp->VK->Prop)(t:TA):TE:=fun σ H Q=>t σ H fun vs H1=>r vs H1 Q
theorem zn (hc:zB6 X (.builtin id) r)(hg:Gl X x)(hm:X.mg x=none)(hv:bootBuiltins x=some (.builtin id))(ha:PA X (e::es) t)(hn:x ≠ "__name__" := by decide) (hdb:(x==("__debug__" : Str))=false:=by decide)
 (he:starEach (e::es) X.env=(false,eval e X.env)::starEach es X.env:=by rfl)(hpl:(backTo pos (starEach es X.env)).any (·.1)=false:=by rfl):PE X (.Call (.Name x p) (e::es) [] pos) (tCB r t):=by
 intro pins s σ H Q I h
 refine zAv (zCU I hg hm hv ?_ hn hdb)
 exact PyProof.Rows.callWith_builtin1 (thn (ha pos pins s σ H _ I h) fun us s1 ⟨vs,H1,I1,r1,q1⟩=>hc pins s1 σ H1 vs us Q I1 r1 q1) he hpl
theorem zAd (hc:zB6 X (.type T) r)(hg:Gl X x)(hm:X.mg x=none)(hv:bootBuiltins x=some (.type T))(ha:PA X (e::es) t)(hn:x ≠ "__name__" := by decide) (hdb:(x==("__debug__" : Str))=false:=by decide)
 (he:starEach (e::es) X.env=(false,eval e X.env)::starEach es X.env:=by rfl)(hpl:(backTo pos (starEach es X.env)).any (·.1)=false:=by rfl):PE X (.Call (.Name x p) (e::es) [] pos) (tCB r t):=by
 intro pins s σ H Q I h
 refine zAv (zCU I hg hm hv ?_ hn hdb)
 exact PyProof.Rows.callWith_type1 (thn (ha pos pins s σ H _ I h) fun us s1 ⟨vs,H1,I1,r1,q1⟩=>hc pins s1 σ H1 vs us Q I1 r1 q1) he hpl
end
end L2
namespace L2
open PySem PySem.Spec PyProof.Rows
section
variable {κ:Type} [DecidableEq κ]
noncomputable def zCG (kvs:List (κ×V))(k:κ):Option V:=(kvs.find? fun kv=>decide (kv.1=k)).map (·.2)
noncomputable def zDK (kvs:List (κ×V))(k:κ)(v:V):List (κ×V):=
 if (kvs.any fun kv=>decide (kv.1=k))=true then kvs.map (fun kv=>if kv.1=k then (kv.1,v) else kv) else kvs++[(k,v)]
noncomputable def zB1 (kvs:List (κ×V))(k:κ):List (κ×V):=kvs.filter fun kv=>decide (kv.1≠k)
theorem zIm {k:κ}:zCG ([]:List (κ×V)) k=none:=rfl
theorem zBT {p:κ×V}{r:List (κ×V)}{k:κ}(e:p.1=k):zCG (p::r) k=some p.2:=by simp[zCG,List.find?_cons,e]
theorem zBO {p:κ×V}{r:List (κ×V)}{k:κ}(e:¬ p.1=k):zCG (p::r) k=zCG r k:=by simp[zCG,List.find?_cons,e]
theorem zB2 (k:κ):∀kvs:List (κ×V),(kvs.any fun kv=>decide (kv.1=k))=(zCG kvs k).isSome
 | []=>rfl
 | p::r=>by
  rw[List.any_cons]
  by_cases e:p.1=k
  . simp only[zBT e,zZ e,Bool.true_or,Option.isSome_some]
  . rw[zBO e,zb e,Bool.false_or];exact zB2 k r
theorem zGD (k j:κ)(y:V):∀kvs:List (κ×V),zCG (kvs.map fun kv=>if kv.1=k then (kv.1,y) else kv) j=(zCG kvs j).map fun x=>if j=k then y else x
 | []=>rfl
 | p::r=>by
  have ih:=zGD k j y r
  rw[zv]
  by_cases h:p.1=k
  . rw[if_pos h]
    by_cases e:p.1=j
    . rw[zBT (p:=(p.1,y)) e,zBT e,zA8,if_pos (e.symm.trans h)]
    . rw[zBO (p:=(p.1,y)) e,zBO e,ih]
  . rw[if_neg h]
    by_cases e:p.1=j
    . rw[zBT (p:=p) e,zBT e,zA8,if_neg (fun z=>h (e.trans z))]
    . rw[zBO (p:=p) e,zBO e,ih]
theorem zE1 (k j:κ)(y:V):∀kvs:List (κ×V),zCG kvs k=none->zCG (kvs++[(k,y)]) j=if j=k then some y else zCG kvs j
 | [],_=>by
  by_cases e:k=j
  . rw[if_pos e.symm];exact zBT (p:=(k,y)) e
  . rw[if_neg (fun z=>e z.symm)];exact zBO (p:=(k,y)) e
 | p::r,hn=>by
  rw[List.cons_append]
  have hk:¬ p.1=k:=fun z=>by rw[zBT z] at hn;cases hn
  rw[zBO hk] at hn
  have ih:=zE1 k j y r hn
  by_cases e:p.1=j
  . rw[zBT e,zBT e,if_neg (fun z=>hk (e.trans z))]
  . rw[zBO e,zBO e,ih]
theorem zIl (kvs:List (κ×V))(k j:κ)(y:V):zCG (zDK kvs k y) j=if j=k then some y else zCG kvs j:=by
 unfold zDK
 by_cases a:(kvs.any fun kv=>decide (kv.1=k))=true
 . rw[if_pos a,zGD]
   rw[zB2] at a
   by_cases e:j=k
   . obtain⟨x,hx⟩:=zBD.mp a
     rw[if_pos e,e,hx,zA8,if_pos rfl]
   . rw[if_neg e]
     cases zCG kvs j with
     | none=>rfl
     | some x=>rw[zA8,if_neg e]
 . rw[if_neg a]
   refine zE1 k j y kvs ?_
   rw[zB2] at a
   cases q:zCG kvs k with
   | none=>rfl
   | some x=>rw[q] at a;exact (a rfl).elim
theorem zCX (kvs:List (κ×V))(k:κ)(v:V):(zDK kvs k v).length<=kvs.length+1:=by
 unfold zDK
 split
 . rw[zD];omega
 . rw[zN,zh,List.length_nil];omega
theorem zJA {kvs:List (κ×V)}{k:κ}(v:V)(h:zCG kvs k=none):zDK kvs k v=kvs++[(k,v)]:=by
 unfold zDK
 rw[zB2,h]
 exact if_neg (by decide)
theorem zEx.isSome_eq {o:Option V}{u:Option Value}(r:zEx o u):o.isSome=u.isSome:=by
 cases o with
 | none=>cases u with
  | none=>rfl
  | some _=>exact (show False from r).elim
 | some _=>cases u with
  | none=>exact (show False from r).elim
  | some _=>rfl
theorem zEx.getD {o:Option V}{u:Option Value}{d:V}{d':Value}(r:zEx o u)(rd:zBY d d'):zBY (o.getD d) (u.getD d'):=by
 cases o with
 | none=>cases u with
  | none=>exact rd
  | some _=>exact (show False from r).elim
 | some _=>cases u with
  | none=>exact (show False from r).elim
  | some _=>exact r
theorem KV.val {kvs:List (κ×V)}{vs:List (κ×Value)}(r:KV kvs vs)(k:κ):zEx (zCG kvs k) (valueAt vs k):=by
 unfold KV at r
 induction r with
 | nil=>exact True.intro
 | @cons p q ps qs h t ih=>
  obtain⟨h1,h2⟩:=h
  by_cases e:p.1=k
  . have e':q.1=k:=h1.symm.trans e
    have b:valueAt (q::qs) k=some q.2:=by simp[valueAt,List.find?_cons,e']
    rw[zBT e,b];exact h2
  . have e':¬ q.1=k:=fun z=>e (h1.trans z)
    have b:valueAt (q::qs) k=valueAt qs k:=by simp[valueAt,List.find?_cons,e']
    rw[zBO e,b];exact ih
theorem KV.any {kvs:List (κ×V)}{vs:List (κ×Value)}(r:KV kvs vs)(k:κ):(kvs.any fun kv=>decide (kv.1=k))=vs.any fun kv=>decide (kv.1=k):=by
 unfold KV at r
 induction r with
 | nil=>rfl
 | cons h t ih=>rw[List.any_cons,List.any_cons,ih,h.1]
theorem KV.repl {kvs:List (κ×V)}{vs:List (κ×Value)}(r:KV kvs vs)(k:κ){y:V}{u:Value}(ry:zBY y u) :
 KV (kvs.map fun kv=>if kv.1=k then (kv.1,y) else kv) (vs.map fun kv=>if kv.1=k then (kv.1,u) else kv):=by
 unfold KV at r ⊢
 induction r with
 | nil=>exact .nil
 | @cons p q ps qs h t ih=>
  rw[zv,zv]
  refine .cons ?_ ih
  obtain⟨h1,h2⟩:=h
  by_cases e:p.1=k
  . rw[if_pos e,if_pos (h1.symm.trans e)];exact⟨h1,ry⟩
  . rw[if_neg e,if_neg (fun z=>e (h1.trans z))];exact⟨h1,h2⟩
theorem KV.put {kvs:List (κ×V)}{vs:List (κ×Value)}(r:KV kvs vs)(k:κ){y:V}{u:Value}(ry:zBY y u):KV (zDK kvs k y) (stored vs k u):=by
 unfold zDK stored
 rw[r.any k]
 by_cases e:(vs.any fun kv=>decide (kv.1=k))=true
 . rw[if_pos e,if_pos e];exact r.repl k ry
 . rw[if_neg e,if_neg e];exact Paired.snoc r ⟨rfl,ry⟩
theorem KV.drop {kvs:List (κ×V)}{vs:List (κ×Value)}(r:KV kvs vs)(k:κ):KV (zB1 kvs k) (without vs k):=by
 unfold KV at r ⊢
 unfold zB1 without
 induction r with
 | nil=>exact .nil
 | @cons p q ps qs h t ih=>
  obtain⟨h1,h2⟩:=h
  rw[zBU,zBU]
  by_cases e:p.1=k
  . have a:¬ decide (p.1≠k)=true:=by simp[e]
    have b:¬ decide (q.1≠k)=true:=by simp[h1.symm.trans e]
    rw[if_neg a,if_neg b];exact ih
  . have e':¬ q.1=k:=fun z=>e (h1.trans z)
    have a:decide (p.1≠k)=true:=by simp[e]
    have b:decide (q.1≠k)=true:=by simp[e']
    rw[if_pos a,if_pos b];exact .cons ⟨h1,h2⟩ ih
theorem KV.length {kvs:List (κ×V)}{vs:List (κ×Value)}(r:KV kvs vs):kvs.length=vs.length:=Paired.length r
theorem zJa (kvs:List (κ×V))(k:κ):(zB1 kvs k).length<=kvs.length:=zAr _ _
end
theorem zGv {P:Program}{w:World}{k:Key}{u:Value}(r:zBY (kV k) u):(zBC P w).is k u=true:=by
 cases k with
 | inl i=>obtain⟨t,e⟩:=(show ∃t,u=Value.int i t from r);subst e;exact zF2 P w i t
 | inr x=>obtain⟨t,e⟩:=(show ∃t,u=Value.str x t from r);subst e;exact zF1 P w x t
theorem zFO {P:Program}{w:World}:∀{ks:List Key}{us:List Value},zA2 (ks.map kV) us->ItemsAre (zBC P w) ks us
 | [],_,r=>by rw[List.map_nil] at r;cases r;exact .nil
 | k::ks,_,r=>by
  rw[zv] at r
  cases r with
  | cons h t=>exact .cons (zGv h) (zFO t)
noncomputable abbrev KT (H:Hp):List (List Key×V)->List (List Key×Addr×Value)->Prop:=Paired fun p q=>p.1=q.1/\H q.2.1=some (.tup (p.1.map kV))/\zBY p.2 q.2.2
theorem KT.val {H:Hp}{kvs:List (List Key×V)}{xs:List (List Key×Addr×Value)}(r:KT H kvs xs)(k:List Key):zEx (zCG kvs k) ((atKey xs k).map (·.2)):=by
 induction r with
 | nil=>exact True.intro
 | @cons p q ps qs h t ih=>
  obtain⟨h1,_,h2⟩:=h
  by_cases e:p.1=k
  . have e':q.1=k:=h1.symm.trans e
    have b:atKey (q::qs) k=some q.2:=by simp[atKey,List.find?_cons,e']
    rw[zBT e,b];exact h2
  . have e':¬ q.1=k:=fun z=>e (h1.trans z)
    have b:atKey (q::qs) k=atKey qs k:=by simp[atKey,List.find?_cons,e']
    rw[zBO e,b];exact ih
theorem KT.repl {H:Hp}{kvs:List (List Key×V)}{xs:List (List Key×Addr×Value)}(r:KT H kvs xs)(k:List Key){y:V}{u:Value}(ry:zBY y u) :
 KT H (kvs.map fun kv=>if kv.1=k then (kv.1,y) else kv) (xs.map (putAt k u)):=by
 induction r with
 | nil=>exact .nil
 | @cons p q ps qs h t ih=>
  rw[zv,zv]
  refine .cons ?_ ih
  obtain⟨h1,h2,h3⟩:=h
  unfold putAt
  by_cases e:p.1=k
  . rw[if_pos e,if_pos (h1.symm.trans e)];exact⟨h1,h2,ry⟩
  . rw[if_neg e,if_neg (fun z=>e (h1.trans z))];exact⟨h1,h2,h3⟩
theorem KT.put {H:Hp}{kvs:List (List Key×V)}{xs:List (List Key×Addr×Value)}(r:KT H kvs xs)(k:List Key){b:Addr}{y:V}{u:Value}(hb:H b=some (.tup (k.map kV)))(ry:zBY y u) :
 KT H (zDK kvs k y) (storedH xs k b u):=by
 have e:(kvs.any fun kv=>decide (kv.1=k))=(atKey xs k).isSome:=by
  rw[zB2,(r.val k).isSome_eq,Option.isSome_map]
 unfold zDK storedH
 rw[e]
 by_cases q:(atKey xs k).isSome=true
 . rw[if_pos q,if_pos q];exact r.repl k ry
 . rw[if_neg q,if_neg q];exact Paired.snoc r ⟨rfl,hb,ry⟩
theorem KT.keeps {H H':Hp}{kvs:List (List Key×V)}{xs:List (List Key×Addr×Value)}(r:KT H kvs xs)(ht:∀b ys,H b=some (.tup ys)->H' b=some (.tup ys)):KT H' kvs xs:=
 Paired.mapP r fun _ _ z=>⟨z.1,ht _ _ z.2.1,z.2.2⟩
section
variable {P:Program}{w:World}{H:Hp}{h:Heap}{a:Addr}
theorem rd_of {u:HO}(ok:HOk P w H h)(e:Rd H a u):zBA P w H h a u:=e.ok ok
theorem zLn {kvs:List (Key×V)}(ok:HOk P w H h)(e:Rd H a (.dK kvs)):kvs.length<=sizeLine/\(a==sysModules)=false/\∃vs,KV kvs vs/\h.DictOf (zBC P w) a vs:=
 show zBA P w H h a (.dK kvs) from rd_of ok e
theorem zII {kvs:List (Key×V)}(ok:HOk P w H h)(e:H a=some (.dK kvs)):kvs.length<=sizeLine/\(a==sysModules)=false/\∃vs,KV kvs vs/\h.DictOf (zBC P w) a vs:=zLn ok (.inl e)
theorem zH1 {ks:List Key}(ok:HOk P w H h)(e:H a=some (.tup (ks.map kV))):(tupleKind (zBC P w)).is h ks a:=by
 obtain⟨_,its,r,o,h1,h2,n,h3⟩:=(show zBA P w H h a (.tup (ks.map kV)) from ok a _ e)
 exact⟨o,its.toArray,n,h1,h2,h3,by simpa using zFO r⟩
theorem zLm {kvs:List (List Key×V)}(ok:HOk P w H h)(e:Rd H a (.dT kvs)):kvs.length<=sizeLine/\(a==sysModules)=false /\
 ∃xs,KT H kvs xs/\h.DictOfH (tupleKind (zBC P w)) a xs:=by
 obtain⟨z,y,xs,r,o,es,ep,h1,h2,h3,h4,h5⟩:=(show zBA P w H h a (.dT kvs) from rd_of ok e)
 refine⟨z,y,xs,r,o,es,ep,h1,h2,h3,h4,fun x hx=>?_,h5⟩
 have all:∀{l:List (List Key×V)}{m:List (List Key×Addr×Value)},KT H l m->∀x∈m,(tupleKind (zBC P w)).is h x.1 x.2.1:=by
  intro l m q
  induction q with
  | nil=>intro x hx;exact nomatch hx
  | @cons p q ps qs hq t ih=>
   intro x hx
   rcases za.mp hx with e | hx
   . subst e
     exact zH1 ok (by rw[<-hq.1];exact hq.2.1)
   . exact ih x hx
 exact all r x hx
theorem dt_of {kvs:List (List Key×V)}(ok:HOk P w H h)(e:H a=some (.dT kvs)):kvs.length<=sizeLine/\(a==sysModules)=false /\
 ∃xs,KT H kvs xs/\h.DictOfH (tupleKind (zBC P w)) a xs:=zLm ok (.inl e)
end
noncomputable def DGet (H:Hp)(a:Addr)(y:V)(r:Option V):Prop:=
 (∃kvs k,Rd H a (.dK kvs)/\y=kV k/\r=zCG kvs k)\/∃kvs k b,Rd H a (.dT kvs)/\y = .ref b/\H b=some (.tup (k.map kV))/\r=zCG kvs k
noncomputable def DPut (H:Hp)(a:Addr)(y v:V)(H':Hp):Prop:=
 (∃kvs k,H a=some (.dK kvs)/\y=kV k/\kvs.length<sizeLine/\H'=upd H a (.dK (zDK kvs k v))) \/
 ∃kvs k b,H a=some (.dT kvs)/\y = .ref b/\H b=some (.tup (k.map kV))/\kvs.length<sizeLine/\H'=upd H a (.dT (zDK kvs k v))
theorem DGet.k {H:Hp}{a:Addr}{kvs:List (Key×V)}{k:Key}(e:H a=some (.dK kvs)):DGet H a (kV k) (zCG kvs k):=.inl ⟨kvs,k,.inl e,rfl,rfl⟩
theorem DPut.k {H:Hp}{a:Addr}{kvs:List (Key×V)}{k:Key}{v:V}(e:H a=some (.dK kvs))(hl:kvs.length<sizeLine):DPut H a (kV k) v (upd H a (.dK (zDK kvs k v))):=.inl ⟨kvs,k,e,rfl,hl,rfl⟩
section
variable {X:Cx}{pins:List (Addr×Obj)}{σ:St}{H:Hp}{s:Shared}{a:Addr}{y v:V}{u r:Value}{o:Option V}{A:Around}{E:Value->Shared->Prop}
theorem Inv.big (I:Inv X pins σ H s):sysModules<s.heap.objs.size:=by
 have h:mainGlobals<s.heap.objs.size:=(I.mod.glob.keeps I.bk).lt
 exact zAX (by decide) h
theorem zEt {h':Heap}{t':Nat}{ob:HO}(I:Inv X pins σ H s)(mu:Mut (H a))(hs:Heap.SameBut a s.heap h')(he:∃q,h'.get? a=some q)(new:zBA X.prog X.w (upd H a ob) h' a ob) :
 Inv X pins σ (upd H a ob) { s with heap:=h',toks:=t' }:=
 I.write (x:=a) (e:=a) mu (.inl rfl) (fun b q hb z=>(hs.2 b hb).trans z) he new
theorem zIJ {P:Program}{w:World}{H':Hp}{h':Heap}{kvs:List (Key×V)}{vs:List (Key×Value)}(z:kvs.length<=sizeLine)(hd:(a==sysModules)=false)(rel:KV kvs vs)(dd:h'.DictOf (zBC P w) a vs) :
 zBA P w H' h' a (.dK kvs):=⟨z,hd,vs,rel,dd⟩
theorem zIN {H':Hp}{Q:Unit->Shared->Prop}(hu:A.units+1<cLine)(I:Inv X pins σ H s)(g:DPut H a y v H')(ry:zBY y u)(rv:zBY v r)(h:∀s',Inv X pins σ H' s'->Q () s') :
 wpAny (model X.prog X.w) A (setItem (.ref a) u r) Q E s:=by
 rcases g with ⟨kvs,k,e,ey,l,eH⟩ | ⟨kvs,k,b,e,ey,eb,l,eH⟩
 . subst ey eH
   obtain⟨z,hd,vs,rel,dd⟩:=zII I.hok e
   have hz:vs.length<=sizeLine:=by rw[<-rel.length];exact z
   have hl:(zDK kvs k v).length<=sizeLine:=by have:=zCX kvs k v;omega
   refine wpAny_setItem_pairs (hsz:=hz) (zGv ry) dd fun h' dd' hs=>h _ ?_
   have he:∃q,h'.get? a=some q:=let ⟨q,_,_,hq,_⟩:=dd';⟨q,hq⟩
   exact zEt I (by rw[e];exact True.intro) hs he (zIJ hl hd (rel.put k rv) dd')
 . subst ey eH
   cases (show u=Value.ref b from ry)
   obtain⟨z,hd,xs,rel,dd⟩:=dt_of I.hok e
   have hz:xs.length<=sizeLine:=by rw[<-Paired.length rel];exact z
   have hl:(zDK kvs k v).length<=sizeLine:=by have:=zCX kvs k v;omega
   refine wpAny_setItem_heap (hsz:=hz) (tupleKind_room_in1 hu) (zH1 I.hok eb) dd fun h' dd' hs=>h _ ?_
   obtain⟨q,es,ep,hq,h2,h3,h4,_,h5⟩:=dd'
   refine zEt I (by rw[e];exact True.intro) hs ⟨q,hq⟩ ⟨hl,hd,_,(rel.put k eb rv).keeps fun c ys ec=>?_,q,es,ep,hq,h2,h3,h4,h5⟩
   rw[zV (zAJ ec e (fun z=>nomatch z))]
   exact ec
end
section
variable {X:Cx}{pins:List (Addr×Obj)}{σ:St}{H:Hp}{s:Shared}{a:Addr}{kvs:List (Key×V)}{k:Key}{u:Value}{A:Around}{E:Value->Shared->Prop}
theorem d_pop {v:V}{more:List Value}{Q:Value->Shared->Prop}(I:Inv X pins σ H s)(e:H a=some (.dK kvs))(ry:zBY (kV k) u)(l:zCG kvs k=some v)(hm:more=[]\/∃x,more=[x])
 (h:∀w' s',Inv X pins σ (upd H a (.dK (zB1 kvs k))) s'->zBY v w'->Q w' s'):wpAny (model X.prog X.w) A (call (.builtin "dict.pop") (.ref a::u::more)) Q E s:=by
 obtain⟨z,hd,vs,rel,dd⟩:=zII I.hok e
 obtain⟨w',hw,rw'⟩:=zEx.some_of (v:=v) (o:=valueAt vs k) (by rw[<-l];exact rel.val k)
 have hp:(keyPart u).isSome=true:=by
  cases k with
  | inl i=>obtain⟨t,q⟩:=(show ∃t,u=Value.int i t from ry);subst q;rfl
  | inr x=>obtain⟨t,q⟩:=(show ∃t,u=Value.str x t from ry);subst q;rfl
 have ha:argsOk "dict.pop" ⟨.ref a::u::more,[]⟩:=by
  rcases hm with q | ⟨x,q⟩
  . subst q;exact PySem.F.args_dict_pop_2 _ _
  . subst q;exact PySem.F.args_dict_pop_3 _ _ _
 refine call_meetsIn PySem.F.slot_dict_pop dd.typeIs PySem.F.entry_dict_pop ha (meets_dict_pop_there (zBC X.prog X.w) a (zGv ry) more hm hp)
  ⟨vs,w',dd,by rw[<-rel.length];exact z,hw,fun h' dd' hs=>h w' _ ?_ rw'⟩
 have he:∃q,h'.get? a=some q:=let ⟨q,_,_,hq,_⟩:=dd';⟨q,hq⟩
 exact zEt I (by rw[e];exact True.intro) hs he (zIJ (zAp (zJa kvs k) z) hd (rel.drop k) dd')
end
noncomputable def NoSl (i:Expr):Prop:=∀ov iv,subscripted i false ov iv=operate [ov,iv] (getItem ov iv)
theorem zKX {prog:Program}{w:World}{A:Around}{E:Value->Shared->Prop}{s:Shared}{env:Env}{value slice:Expr}{pos:Pos}{T id:String}{Q:Value->Shared->Prop}
 (hl:typeLookup (.type T) "__getitem__" = pure (some (.builtin id))) (hs:NoSl slice)
 (h:wpAny (model prog w) A (eval value env) (fun o s₁=>wpAny (model prog w) A (eval slice env) (fun i s₂=>s₂.TypeIs o T/\wpAny (model prog w) A (getItem o i) Q E s₂) E s₁) E s) :
 wpAny (model prog w) A (eval (.Subscript value slice pos) env) Q E s:=by
 refine Subscript_ (zAg h (fun o s₁ h₁=>zAg h₁ (fun i s₂ h₂=>?_) fun _ _ x=>x) fun _ _ x=>x)
 obtain⟨hT,h₂⟩:=h₂
 unfold subscriptTail
 refine zA ?_
 rw[getitemInPython_of_ne hT.not_modules]
 refine zA (wpAny_specialOf hT hl ?_)
 have fin:wpAny (model prog w) A (subscripted slice false o i) (fun r s₃=>wpAny (model prog w) A (letTemporaryGo value o r >>= fun _=>pure r) Q E s₃) E s₂:=by
  rw[hs o i]
  exact wpAny_operating (zAg h₂ (fun r s₃ h₃=>zA (wpAny_letTemporaryGo (zG h₃))) fun _ _ x=>x)
 first
  | exact zG (zA fin)
  | exact zA (zG (zA fin))
  | exact zA fin
noncomputable def sDPut (td ty tv:TE):TS:=fun D σ H=>tv σ H fun v H1=>td σ H1 fun x H2=>ty σ H2 fun y H3=>∃a H4,x = .ref a/\DPut H3 a y v H4/\D.nx σ H4
section
variable {X:Cx}{o i e value:Expr}{pos pos' tpos:Pos}{td ty tv:TE}
theorem zK0 (hu:X.A.units+1<cLine)(ho:PE X o td)(hi:PE X i ty)(hv:PE X value tv)(hs:swapsWith value (some (.Subscript o i pos')) pos.line X.env=pure false) :
 PS X (.Assign [.Subscript o i pos'] value pos) (sDPut td ty tv):=by
 intro pins s σ H D I h
 refine wpAny_Assign_Subscript (thn (hv pins s σ H _ I h) fun r s1 ⟨v,H1,I1,rv,q1⟩=>thn (ho pins s1 σ H1 _ I1 q1) fun u s2 ⟨x,H2,I2,rx,q2⟩=>thn (hi pins s2 σ H2 _ I2 q2) fun iv s3 ⟨y,H3,I3,ry,a,H4,ex,g,q3⟩=>?_) hs
 subst ex
 obtain rfl:u=Value.ref a:=rx
 exact zIN hu I3 g ry rv fun s4 I4=>⟨σ,H4,I4,q3⟩
end
theorem zJb {P:Program}{w:World}{H:Hp}(h:Heap)(hb:sysModules<h.objs.size):zBA P w H (h.push { cls:=.type "dict",data:=.dict #[] }) h.objs.size (.dK []):=
 ⟨zj _,beq_eq_false_iff_ne.mpr (Ne.symm (zW hb)),[],.nil,Heap.DictOf.new h⟩
section
variable {X:Cx}{pos:Pos}
end
noncomputable def zG9:List (TE×TE)->St->Hp->(List (V×V)->Hp->Prop)->Prop
 | [],_,H,Q=>Q [] H
 | (tk,tv)::r,σ,H,Q=>tk σ H fun x H1=>tv σ H1 fun y H2=>zG9 r σ H2 fun ps H3=>Q ((x,y)::ps) H3
noncomputable abbrev VV:List (V×V)->List (Value×Value)->Prop:=Paired fun p q=>zBY p.1 q.1/\zBY p.2 q.2
noncomputable def PPs (X:Cx)(pos:Pos)(keys:List (Option Expr))(values:List Expr)(trs:List (TE×TE)):Prop:=
 ∀(pins:List (Addr×Obj))(s:Shared)(σ:St)(H:Hp)(Q:List (V×V)->Hp->Prop),Inv X pins σ H s->zG9 trs σ H Q ->
  wpAny (model X.prog X.w) X.A (evalPairs (pairTrees keys values X.env pos)) (fun vs s'=>∃ps H',Inv X pins σ H' s'/\VV ps vs/\Q ps H') X.xe s
theorem zK1 {X:Cx}{pos:Pos}:PPs X pos [] [] []:=fun pins s σ H Q I h=>pairTrees_nil_walk ⟨[],H,I,.nil,h⟩
theorem zJC {X:Cx}{pos:Pos}{k v:Expr}{ks:List (Option Expr)}{vs:List Expr}{tk tv:TE}{trs:List (TE×TE)}(hk:PE X k tk)(hv:PE X v tv)(hr:PPs X pos ks vs trs) :
 PPs X pos (some k::ks) (v::vs) ((tk,tv)::trs):=fun pins s σ H Q I h=>
 pairTrees_cons_walk (thn (hk pins s σ H _ I h) fun u s1 ⟨x,H1,I1,rx,q1⟩=>thn (hv pins s1 σ H1 _ I1 q1) fun w2 s2 ⟨y,H2,I2,ry,q2⟩=>
  thn (hr pins s2 σ H2 _ I2 q2) fun ws s3 ⟨ps,H3,I3,rel,q3⟩=>⟨(x,y)::ps,H3,I3,.cons ⟨rx,ry⟩ rel,q3⟩)
noncomputable def zEO (kvs more:List (Key×V)):List (Key×V):=more.foldl (fun acc kv=>zDK acc kv.1 kv.2) kvs
theorem KV.merge:∀{more:List (Key×V)}{rs:List (Key×Value)}{kvs:List (Key×V)}{vs:List (Key×Value)},KV more rs->KV kvs vs->KV (zEO kvs more) (merged vs rs):=by
 intro more rs kvs vs r
 unfold KV at r
 induction r generalizing kvs vs with
 | nil=>intro q;exact q
 | @cons p q ps qs h t ih=>
  intro r0
  have e:KV (zDK kvs p.1 p.2) (stored vs q.1 q.2):=by
   have:=r0.put p.1 h.2
   rw[<-h.1];exact this
  exact ih e
theorem zCl:∀(more kvs:List (Key×V)),(zEO kvs more).length<=kvs.length+more.length
 | [],kvs=>by show kvs.length<=kvs.length+0;omega
 | p::r,kvs=>by
  have h1:=zCl r (zDK kvs p.1 p.2)
  have h2:=zCX kvs p.1 p.2
  show (zEO (zDK kvs p.1 p.2) r).length<=_
  rw[zh];omega
theorem zEU {P:Program}{w:World}:∀{kvs:List (Key×V)}{ws:List (Value×Value)},VV (kvs.map fun kv=>(kV kv.1,kv.2)) ws->∃rs,Carries (zBC P w) ws rs/\KV kvs rs
 | [],_,r=>by rw[List.map_nil] at r;cases r;exact⟨[],True.intro,.nil⟩
 | p::kvs,_,r=>by
  rw[zv] at r
  cases r with
  | @cons a b as bs h t=>
   obtain⟨rs,c,q⟩:=zEU (P:=P) (w:=w) t
   obtain⟨b1,b2⟩:=b
   exact⟨(p.1,b2)::rs,⟨zGv h.1,rfl,c⟩,.cons ⟨rfl,h.2⟩ q⟩
noncomputable def tDisp (trs:List (TE×TE)):TE:=fun σ H Q=>∀p,H p=none->zG9 trs σ (upd H p (.dK [])) fun ps H2=>H2 p=some (.dK [])/\∃kvs:List (Key×V),ps=kvs.map (fun kv=>(kV kv.1,kv.2))/\kvs.length<=15/\Q (.ref p) (upd H2 p (.dK (zEO [] kvs)))
theorem zK6 {X:Cx}{pos:Pos}{keys:List (Option Expr)}{values:List Expr}{trs:List (TE×TE)}(h:PPs X pos keys values trs)(hall:keys.all (·.isSome)=true)(hl:keys.length=values.length)(h0:keys≠[])
 (h15:keys.length<=15):PE X (.Dict keys values pos) (tDisp trs):=by
 intro pins s σ H Q I q
 have hn:=I.hok.fresh (zM s.heap.objs.size)
 have I1:=I.laid (a:=s.heap.objs.size) (o:=.dK []) (h':=s.heap.push { cls:=.type "dict",data:=.dict #[] }) (t':=s.toks) (fun _ _ q=>zJ _ q) (zM _) (zJb s.heap I.big)
 refine wpAny_Dict_walk (knd:=zBC X.prog X.w) hall hl h0 h15 (thn (h pins _ σ _ _ I1 (q _ hn)) fun ws s2 ⟨ps,H2,I2,rel,e,kvs,ep,lk,q2⟩=>?_)
 subst ep
 obtain⟨rs,c,rk⟩:=zEU (P:=X.prog) (w:=X.w) rel
 obtain⟨z,hd,vs0,r0,dd⟩:=zII I2.hok e
 cases r0
 refine⟨rs,c,dd,fun h' dd' hs=>⟨.ref s.heap.objs.size,_,?_,rfl,q2⟩⟩
 have hz:(zEO [] kvs).length<=sizeLine:=by
  have h1:=zCl kvs []
  rw[List.length_nil] at h1
  rw[sizeLine_eq];omega
 have he:∃q,h'.get? s.heap.objs.size=some q:=let ⟨q,_,_,hq,_⟩:=dd';⟨q,hq⟩
 exact zEt I2 (by rw[e];exact True.intro) hs he (zIJ hz hd (rk.merge .nil) dd')
structure M1 (X:Cx)(o:Expr)(m:Str)(apos:Pos)(e:Expr)(cpos:Pos):Prop where
 base:attributeBase o m X.env (eval o X.env)=eval o X.env
 few:((backTo cpos (starEach [e] X.env)).all (fun x=>!x.1) && (backToKw cpos (keywordEach [] X.env)).all (fun x=>x.1.isSome)
  && decide (([e]:List Expr).length+([]:List Keyword).length+(if ([]:List Keyword).isEmpty then 0 else 1)<30))=true
 line:(apos.endLine==cpos.line)=true
 trees:backTo cpos (starEach [e] X.env)=[(false,eval e X.env)]
structure M2 (X:Cx)(o:Expr)(m:Str)(apos:Pos)(e f:Expr)(cpos:Pos):Prop where
 base:attributeBase o m X.env (eval o X.env)=eval o X.env
 few:((backTo cpos (starEach [e,f] X.env)).all (fun x=>!x.1) && (backToKw cpos (keywordEach [] X.env)).all (fun x=>x.1.isSome)
  && decide (([e,f]:List Expr).length+([]:List Keyword).length+(if ([]:List Keyword).isEmpty then 0 else 1)<30))=true
 line:(apos.endLine==cpos.line)=true
 trees:backTo cpos (starEach [e,f] X.env)=[(false,eval e X.env),(false,eval f X.env)]
noncomputable def IsD (H:Hp)(a:Addr):Prop:=(∃kvs,Rd H a (.dK kvs))\/∃kvs,Rd H a (.dT kvs)
theorem zKE {X:Cx}{pins:List (Addr×Obj)}{σ:St}{H:Hp}{s:Shared}{a:Addr}(I:Inv X pins σ H s)(d:IsD H a) :
 s.TypeIs (.ref a) "dict" /\ (∀b,Value.ref a = .ref b->∃ob,s.heap.get? b=some ob/\ob.dict=none)/\(a==sysModules)=false:=by
 rcases d with ⟨kvs,e⟩ | ⟨kvs,e⟩
 . obtain⟨_,hd,vs,_,dd⟩:=zLn I.hok e
   refine⟨dd.typeIs,fun b q=>?_,hd⟩
   cases q
   obtain⟨ob,_,_,h1,h2,_⟩:=dd
   exact⟨ob,h1,h2.2.1⟩
 . obtain⟨_,hd,xs,_,dd⟩:=zLm I.hok e
   refine⟨dd.typeIs,fun b q=>?_,hd⟩
   cases q
   obtain⟨ob,_,_,h1,h2,_⟩:=dd
   exact⟨ob,h1,h2.2.1⟩
section
variable {X:Cx}{pins:List (Addr×Obj)}{σ:St}{H:Hp}{s:Shared}{a:Addr}{y d:V}{u r:Value}{o:Option V}{A:Around}{E:Value->Shared->Prop}
theorem d_get2 {Q:Value->Shared->Prop}(hu:A.units+1<cLine)(I:Inv X pins σ H s)(g:DGet H a y o)(ry:zBY y u)(rd:zBY d r)(h:∀w' s',Inv X pins σ H s'->zBY (o.getD d) w'->Q w' s') :
 wpAny (model X.prog X.w) A (call (.builtin "dict.get") [.ref a,u,r]) Q E s:=by
 rcases g with ⟨kvs,k,e,ey,l⟩ | ⟨kvs,k,b,e,ey,eb,l⟩
 . subst ey
   obtain⟨z,hd,vs,rel,dd⟩:=zLn I.hok e
   refine call_meetsIn PySem.F.slot_dict_get dd.typeIs PySem.F.entry_dict_get (PySem.F.args_dict_get_3 _ _ _) (meets_dict_get_default (zBC X.prog X.w) a (zGv ry) hd r) ⟨_,dd.mapOf,h _ _ (I.tok _) ?_⟩
   rw[l]
   exact (rel.val k).getD rd
 . subst ey
   cases (show u=Value.ref b from ry)
   obtain⟨z,hd,xs,rel,dd⟩:=zLm I.hok e
   refine call_meetsIn PySem.F.slot_dict_get dd.typeIs PySem.F.entry_dict_get (PySem.F.args_dict_get_3 _ _ _) (meetsH_dict_get_default (tupleKind (zBC X.prog X.w)) a b hd r) ⟨tupleKind_room_in1 hu,k,xs,zH1 I.hok eb,dd,h _ _ (I.tok _) ?_⟩
   rw[l]
   exact (rel.val k).getD rd
end
noncomputable def tDGet2 (td ty tx:TE):TE:=fun σ H Q=>td σ H fun x H1=>∃a,x = .ref a/\IsD H1 a/\ty σ H1 fun y H2=>tx σ H2 fun z H3=>∃o,DGet H3 a y o/\Q (o.getD z) H3
noncomputable def tDPop1 (td ty:TE):TE:=fun σ H Q=>td σ H fun x H1=>∃a,x = .ref a/\IsD H1 a/\ty σ H1 fun y H2=>∃kvs k v,H2 a=some (.dK kvs)/\y=kV k/\zCG kvs k=some v/\Q v (upd H2 a (.dK (zB1 kvs k)))
section
variable {X:Cx}{o e f:Expr}{apos cpos:Pos}{td ty tx:TE}
theorem zJF (hu:X.A.units+1<cLine)(ho:PE X o td)(he:PE X e ty)(hf:PE X f tx)(m:M2 X o "get" apos e f cpos):PE X (.Call (.Attribute o "get" apos) [e,f] [] cpos) (tDGet2 td ty tx):=by
 intro pins s σ H Q I h
 refine wpAny_Call_method m.base m.few m.line PySem.F.plainAttrs_dict PySem.F.slot_dict_get PySem.F.type_dict_get (thn (ho pins s σ H _ I h) fun u s1 ⟨x,H1,I1,rx,a,ex,d,q1⟩=>?_)
 subst ex
 obtain rfl:u=Value.ref a:=rx
 obtain⟨t1,t2,_⟩:=zKE I1 d
 refine⟨t1,t2,?_⟩
 rw[m.trees]
 refine Calls.callWith_builtin rfl (Calls.evalArgs_plain (Calls.spliced_cons (thn (he pins s1 σ H1 _ I1 q1) fun iv s2 ⟨y,H2,I2,ry,q2⟩=>
  Calls.spliced_cons (thn (hf pins s2 σ H2 _ I2 q2) fun fv s3 ⟨z,H3,I3,rz,ov,g,q3⟩=>Calls.spliced_nil ?_))))
 exact d_get2 hu I3 g ry rz fun w' s4 I4 rw'=>⟨_,H3,I4,rw',q3⟩
theorem zJE (ho:PE X o td)(he:PE X e ty)(m:M1 X o "pop" apos e cpos):PE X (.Call (.Attribute o "pop" apos) [e] [] cpos) (tDPop1 td ty):=by
 intro pins s σ H Q I h
 refine wpAny_Call_method m.base m.few m.line PySem.F.plainAttrs_dict PySem.F.slot_dict_pop PySem.F.type_dict_pop (thn (ho pins s σ H _ I h) fun u s1 ⟨x,H1,I1,rx,a,ex,d,q1⟩=>?_)
 subst ex
 obtain rfl:u=Value.ref a:=rx
 obtain⟨t1,t2,_⟩:=zKE I1 d
 refine⟨t1,t2,?_⟩
 rw[m.trees]
 refine Calls.callWith_builtin rfl (Calls.evalArgs_plain (Calls.spliced_cons (thn (he pins s1 σ H1 _ I1 q1) fun iv s2 ⟨y,H2,I2,ry,kvs,k,v,ea,ey,l,q2⟩=>Calls.spliced_nil ?_)))
 subst ey
 exact d_pop I2 ea ry l (.inl rfl) fun w' s3 I3 rw'=>⟨v,_,I3,rw',q2⟩
end
section
variable {X:Cx}{pins:List (Addr×Obj)}{σ:St}{H:Hp}{s:Shared}{a:Addr}{kvs:List (Key×V)}{A:Around}{E:Value->Shared->Prop}
end
section
variable {X:Cx}{pins:List (Addr×Obj)}{σ:St}{H:Hp}{s:Shared}{a:Addr}{y:V}{u:Value}{A:Around}{E:Value->Shared->Prop}
end
end L2
namespace HT
open PySem PyProof.Rows
noncomputable def lexLt:List Int->List Int->Bool
 | [],[]=>false
 | [],_::_=>true
 | _::_,[]=>false
 | x::xs,y::ys=>if x=y then lexLt xs ys else decide (x<y)
theorem lexLt_cons (x y:Int)(xs ys:List Int):lexLt (x::xs) (y::ys)=if x=y then lexLt xs ys else decide (x<y):=rfl
theorem zEo:lexLt [] []=false:=rfl
theorem zD0 (y:Int)(ys:List Int):lexLt [] (y::ys)=true:=rfl
theorem zD1 (x:Int)(xs:List Int):lexLt (x::xs) []=false:=rfl
theorem zJZ (A:Around)(s:Shared)(a:Int)(t:Tok)(c:Int)(u:Tok):∃e,SeqAt.EqAt A s (.int a t) (.int c u) e/\(e=true↔a=c):=
 ⟨(a==c),SeqAt.EqAt.int_int a t c u,by simp⟩
theorem zI7 (A:Around)(s:Shared)(a:Int)(t:Tok)(c:Int)(u:Tok)(prog:Program)(w:World)(E:Value->Shared->Prop)(Q:Value->Shared->Prop)(h:Q (.bool (decide (a<c))) s) :
 wpAny (model prog w) A (richCompare .Lt (.int a t) (.int c u)) Q E s:=
 (PyProof.Rows.lt_int h:wpAny (model prog w) A (compareOp .Lt (.int a t) (.int c u)) Q E s)
section
open PySem.SeqAt
open PySem.AutoSeq1 (wpAny_loadPart')
open PySem.MeetsSeq PySem.MeetsSeq2 PySem.MeetsSeq3
theorem zEY (l b:Addr)(items items2:Array Value)(n n2:Nat)(dd dd2:Option Addr)(sl sl2:Array (Option Value))(ns ms:List Int)(hi:IntsAre items.toList ns)(hj:IntsAre items2.toList ms) :
 Meets (Builtin.«tuple.__lt__» ⟨[.ref l,.ref b],[]⟩)
  (fun _ R s=>s.heap.get? l=some { cls:=.type "tuple",dict:=dd,data:=.seq items n,slots:=sl }/\s.heap.get? b=some { cls:=.type "tuple",dict:=dd2,data:=.seq items2 n2,slots:=sl2 } /\
   R (.ok (.ret (.bool (lexLt ns ms)))) s):=
 .of_wp fun prog w A R s h=>by
  obtain⟨hp,g,d,tk,os⟩:=s;obtain⟨hl,hb,h⟩:=h
  have f2:=AutoSeq1.sub_tuple_tuple
  have z1:items.size=ns.length:=by rw[<-hi.length];simp
  have z2:items2.size=ms.length:=by rw[<-hj.length];simp
  wp_walk using wpAny_loadPart' hl,wpAny_loadPart' hb,wpAny_forIn_list _ (fun rest b s'=>b.1=none/\s'=⟨hp,g,d,tk,os⟩/\∃(vs ws:List Value)(ns' ms':List Int),rest=vs.zip ws /\
   IntsAre vs ns'/\IntsAre ws ms'/\ns'.length+items2.size=ms'.length+items.size/\R (.ok (.ret (.bool (lexLt ns' ms')))) ⟨hp,g,d,tk,os⟩) _
  case turn=>
   rintro ⟨y,x⟩ rest b s' ⟨hb',rfl,vs,ws,ns',ms',hz,hvi,hwi,hlen,hR⟩
   cases hvi with
   | nil=>rw[List.zip_nil_left] at hz;cases hz
   | cons a t hvi'=>
    cases hwi with
    | nil=>rw[List.zip_nil_right] at hz;cases hz
    | cons c u hwi'=>
     rw[List.zip_cons_cons] at hz
     injection hz with hyx hrest
     injection hyx with hy hx
     subst hy hx
     rw[lexLt_cons] at hR
     simp only[zh] at hlen
     obtain⟨e,he,hiff⟩:=zJZ A.in1 ⟨hp,g,d,tk,os⟩ a t c u
     refine zA (he prog w _ _ ?_)
     cases e with
     | true=>
      rw[if_pos (hiff.mp rfl)] at hR
      wp_walk
      exact⟨rfl,rfl,_,_,_,_,hrest,hvi',hwi',by omega,hR⟩
     | false=>
      rw[if_neg (fun q=>absurd (hiff.mpr q) zT)] at hR
      have hri:=zI7 A.in1 ⟨hp,g,d,tk,os⟩ a t c u prog w
      wp_walk using hri
      exact⟨_,rfl,by simpa using hR⟩
  case fin=>
   rintro ⟨b1,b2⟩ s' ⟨hb',rfl,vs,ws,ns',ms',hz,hvi,hwi,hlen,hR⟩
   simp only at hb'
   subst hb'
   have hv:lexLt ns' ms'=decide (items.size<items2.size):=by
    cases hvi with
    | nil=>
     cases hwi with
     | nil=>
      simp only[List.length_nil] at hlen
      rw[zEo]
      exact (zb (by omega)).symm
     | cons c u hw=>
      simp only[List.length_nil,zh] at hlen
      rw[zD0]
      exact (zZ (by omega)).symm
    | cons a t hv=>
     cases hwi with
     | nil=>
      simp only[List.length_nil,zh] at hlen
      rw[zD1]
      exact (zb (by omega)).symm
     | cons c u hw=>
      rw[List.zip_cons_cons] at hz
      cases hz
   rw[hv] at hR
   wp_walk
   exact⟨_,rfl,by simpa [Builtin.Tuple.tupleCompareSizes] using hR⟩
  case h=>
   exact⟨rfl,rfl,items.toList,items2.toList,ns,ms,rfl,hi,hj,by omega,h⟩
end
section
variable {prog:Program}{w:World}{A:Around}{E:Value->Shared->Prop}{s:Shared}
theorem lt_tupInts {l b:Addr}{items items2:Array Value}{ns ms:List Int}{Q:Value->Shared->Prop}(hl:IsTup s.heap l items)(hb:IsTup s.heap b items2)(hi:IntsAre items.toList ns)(hj:IntsAre items2.toList ms)
 (hu:A.units<cLine)(h:Q (.bool (lexLt ns ms)) s):wpAny (model prog w) A (compareOp .Lt (.ref l) (.ref b)) Q E s:=by
 obtain⟨⟨cls,dd,data,sl⟩,ho,hc,n,hd⟩:=id hl
 obtain⟨⟨cls2,dd2,data2,sl2⟩,ho2,hc2,n2,hd2⟩:=id hb
 simp only at hc hd hc2 hd2
 subst hc hd hc2 hd2
 exact richCompare_meets_room (op:=.Lt) ⟨_,ho,rfl⟩ ⟨_,ho2,rfl⟩ PySem.F.slot_tuple_lt PySem.F.entry_tuple_lt (PySem.F.args_tuple_lt_2 _ _) (zEY l b items items2 n n2 dd dd2 sl sl2 ns ms hi hj)
  ⟨ho,ho2,show Value.bool (lexLt ns ms)≠Value.notImplemented/\Q (.bool (lexLt ns ms)) s from ⟨(fun x=>nomatch x),h⟩⟩ hu
theorem cat_tup {t b:Addr}{vs ws:List Value}{Q:Value->Shared->Prop}(ht:IsTup s.heap t vs.toArray)(hb:IsTup s.heap b ws.toArray)(hv:vs≠[])
 (h1:ws=[]->Q (.ref t) s)(h2:ws≠[]->Q (.ref s.heap.objs.size) { s with heap:=s.heap.push { cls:=.type "tuple",data:=.seq (vs++ws).toArray } })
 (hsz:vs.length+ws.length<=sizeLine):wpAny (model prog w) A (binaryOp .Add (.ref t) (.ref b)) Q E s:=by
 obtain⟨⟨cls,dd,data,sl⟩,ho,hc,n,hd⟩:=id ht
 obtain⟨⟨cls2,dd2,data2,sl2⟩,ho2,hc2,n2,hd2⟩:=id hb
 simp only at hc hd hc2 hd2
 subst hc hd hc2 hd2
 have e:vs.toArray++ws.toArray=(vs++ws).toArray:=by simp
 by_cases hw:ws=[]
 . exact concat_meets ⟨_,ho,rfl⟩ ⟨_,ho2,rfl⟩ noFill_tuple_add seq_tuple_add PySem.F.slot_tuple_add PySem.F.entry_tuple_add (PySem.F.args_tuple_add_2 _ _)
    (tuple_addW1 t b vs.toArray ws.toArray n n2 dd dd2 sl sl2 (by simpa using hv) (by simp[hw])) ⟨ho,ho2,h1 hw⟩
 . refine concat_meets ⟨_,ho,rfl⟩ ⟨_,ho2,rfl⟩ noFill_tuple_add seq_tuple_add PySem.F.slot_tuple_add PySem.F.entry_tuple_add (PySem.F.args_tuple_add_2 _ _)
    (tuple_addW2 t b vs.toArray ws.toArray n n2 dd dd2 sl sl2 (by simpa using hv) (by simpa using hw) (by rw[zI,zI];exact hsz)) ⟨ho,ho2,?_⟩
   rw[e]
   exact h2 hw
noncomputable def sIx (n d:Nat):Option Int->Nat
 | none=>d
 | some v=>if v<0 then (v+(n:Int)).toNat else min v.toNat n
theorem sIx_none (n d:Nat):sIx n d none=d:=rfl
theorem sIx_nat (n d k:Nat):sIx n d (some (k:Int))=min k n:=by
 show (if (k:Int)<0 then ((k:Int)+(n:Int)).toNat else min (k:Int).toNat n)=min k n
 rw[if_neg (by omega),zBc]
theorem sIx_le (n d:Nat)(hd:d<=n)(o:Option Int):sIx n d o<=n:=by
 cases o with
 | none=>exact hd
 | some v=>
  show (if v<0 then (v+(n:Int)).toNat else min v.toNat n)<=n
  by_cases hv:v<0
  . rw[if_pos hv];omega
  . rw[if_neg hv];exact Nat.min_le_right _ _
theorem zIR (v:Int)(n d:Nat):(if v<0 then max (v+(n:Int)) 0 else min v (n:Int))=((sIx n d (some v):Nat):Int):=by
 show (if v<0 then max (v+(n:Int)) 0 else min v (n:Int))=(((if v<0 then (v+(n:Int)).toNat else min v.toNat n):Nat):Int)
 by_cases hv:v<0
 . simp only[if_pos hv];omega
 . simp only[if_neg hv];omega
theorem zGz (lo hi:Option Int) (n:Nat):Builtin.Slice.sliceAdjust lo hi 1 (n:Int)=(((sIx n 0 lo:Nat):Int),((sIx n n hi:Nat):Int)):=by
 have h1:¬ ((1:Int)<0):=by omega
 unfold Builtin.Slice.sliceAdjust
 simp only[h1,if_false]
 refine Prod.ext ?_ ?_
 . cases lo with
   | none=>rfl
   | some v=>exact zIR v n 0
 . cases hi with
   | none=>rfl
   | some v=>exact zIR v n n
theorem zGl (i j:Nat):Builtin.Slice.slicePlaces (i:Int) (j:Int) 1=j-i:=by
 unfold Builtin.Slice.slicePlaces
 have h1:(1:Int) > 0:=by omega
 simp only[h1,if_true,Int.ediv_one]
 split <;> omega
theorem zEG {v:Value} {o:Option Int} {Q:Option Int->Shared->Prop} (p:IsPart v o) (h:Q o s):wpAny (model prog w) A (Builtin.Slice.slicePartIndex v) Q E s:=by
 cases p with
 | none=>exact slicePart_none h
 | int i t=>exact slicePart_int h
theorem zCA {sl:Addr}{vl vu:Value}{lo hi:Option Int}{n:Nat}{Q:Int×Int×Nat->Shared->Prop}(hs:s.heap.IsSliceOf sl vl vu .none)(pl:IsPart vl lo)(pu:IsPart vu hi)
 (h:Q (((sIx n 0 lo:Nat):Int),1,sIx n n hi-sIx n 0 lo) s):wpAny (model prog w) A (Builtin.Slice.sliceApplied (.ref sl) (pure (n:Int))) Q E s:=by
 obtain⟨os,hos,hcs,hds⟩:=id hs
 unfold Builtin.Slice.sliceApplied Builtin.Slice.sliceFields
 refine zA (zA (zA1 hos hds (x:=vl) rfl (zA (zA1 hos hds (x:=vu) rfl (zA (zA1 hos hds (x:=.none) rfl (zG ?_)))))))
 refine zA (slicePart_none ?_)
 show wpAny _ _ (if ((1:Int)==0)=true then _ else _) _ _ s
 rw[if_neg (by decide)]
 refine zA (zEG pl (zA (zEG pu (zA (zG ?_)))))
 show wpAny _ _ (match Builtin.Slice.sliceAdjust lo hi 1 (n:Int) with | (lo,hi)=>pure (lo,(1:Int),Builtin.Slice.slicePlaces lo hi 1)) _ _ s
 rw[zGz lo hi n]
 show wpAny _ _ (pure (((sIx n 0 lo:Nat):Int),(1:Int),Builtin.Slice.slicePlaces ((sIx n 0 lo:Nat):Int) ((sIx n n hi:Nat):Int) 1)) _ _ s
 rw[zGl]
 exact zG h
theorem zJD (xs:Array Value)(i k:Nat):((List.range k).filterMap fun (m:Nat)=>xs[((i:Int)+(m:Int)*1).toNat]?).toArray=((xs.toList.drop i).take k).toArray:=by
 have e:(fun (m:Nat)=>xs[((i:Int)+(m:Int)*1).toNat]?)=fun m=>xs[i+m]?:=by
  funext m
  have:((i:Int)+(m:Int)*1).toNat=i+m:=by omega
  rw[this]
 rw[e]
 have:=pick_run xs i k
 rw[List.filterMap_map] at this
 have e2:((fun x=>xs[x]?)∘fun x=>i+x)=fun m=>xs[i+m]?:=rfl
 rw[e2] at this
 rw[this]
theorem getItem_tuple_cut {t sl:Addr}{items:Array Value}{vl vu:Value}{lo hi:Option Int}{Q:Value->Shared->Prop}(ht:IsTup s.heap t items)(hs:s.heap.IsSliceOf sl vl vu .none)(pl:IsPart vl lo)(pu:IsPart vu hi)
 (hw:¬ (sIx items.size 0 lo=0/\sIx items.size items.size hi=items.size))
 (h:Q (.ref s.heap.objs.size) { s with heap:=s.heap.push { cls:=.type "tuple",data:=.seq ((items.toList.drop (sIx items.size 0 lo)).take (sIx items.size items.size hi-sIx items.size 0 lo)).toArray } })
 (hsz:items.size<=sizeLine):wpAny (model prog w) A (getItem (.ref t) (.ref sl)) Q E s:=by
 have htake:sizeOk (.seq ((items.toList.drop (sIx items.size 0 lo)).take (sIx items.size items.size hi-sIx items.size 0 lo)).toArray):=by
  show ((items.toList.drop (sIx items.size 0 lo)).take (sIx items.size items.size hi-sIx items.size 0 lo)).toArray.size<=sizeLine
  rw[zI,zAF,List.length_drop,Array.length_toList]
  omega
 have hj:sIx items.size items.size hi<=items.size:=sIx_le _ _ (zM _) hi
 obtain⟨os,hos,hcs,hds⟩:=id hs
 have hTs:s.TypeIs (.ref sl) "slice" := ⟨os,hos,hcs⟩
 unfold getItem
 try with_reducible refine zAa ?_
 first | refine zA (zG ?_) | skip
 refine zA (wpAny_sequenceKey ht.typeIs (by decide) ?_)
 refine zA (zAb (name:=Str.ofString "__getitem__") ht.typeIs PyProof.Rows.slot_tuple_getitem
  (zAl PyProof.Rows.slot_tuple_getitem ht.typeIs entry_tuple_getitem ?_ (args_tuple_getitem _ _)))
 show wpAny _ _ (Builtin.Tuple.tupleItemsOf (.ref t) >>= _) _ _ s
 refine zA (tupleItemsOf_ ht ?_)
 refine zA (wpAny_typeOf hTs ?_)
 rw[if_pos (by decide)]
 refine zA (zCA hs pl pu ?_)
 have hno:¬ ((((sIx items.size 0 lo:Nat):Int)==0 && (1:Int)==1 && (sIx items.size items.size hi-sIx items.size 0 lo)==items.size)=true):=by
  intro q
  rw[zBH,zBH] at q
  have q1:((sIx items.size 0 lo:Nat):Int)=0:=eq_of_beq q.1.1
  have q2:sIx items.size items.size hi-sIx items.size 0 lo=items.size:=eq_of_beq q.2
  exact hw ⟨by omega,by omega⟩
 show wpAny _ _ (if (((sIx items.size 0 lo:Nat):Int)==0 && (1:Int)==1 && (sIx items.size items.size hi-sIx items.size 0 lo)==items.size)=true then _ else _) _ _ s
 rw[if_neg hno,zJD]
 first
  | exact zA (m:=Builtin.Tuple.tupleExact _) (zAo (zG ⟨_,rfl,zG h⟩) htake)
  | exact zA (m:=Builtin.Tuple.tupleExact _) (zAo (zA (zG (zG ⟨_,rfl,zG h⟩))) htake)
  | exact zA (zA (m:=Builtin.Tuple.tupleExact _) (zAo (zG (zG ⟨_,rfl,zG h⟩)) htake))
  | exact zA (zA (m:=Builtin.Tuple.tupleExact _) (zAo (zG ⟨_,rfl,zG h⟩) htake))
end
end HT
namespace L2
open PySem PySem.Spec PyProof.Rows
noncomputable abbrev TO:=St->Hp->(Option Int->Hp->Prop)->Prop
noncomputable def PO (X:Cx)(e:Option Expr)(t:TO):Prop:=
 ∀(pins:List (Addr×Obj))(s:Shared)(σ:St)(H:Hp)(Q:Option Int->Hp->Prop),Inv X pins σ H s->t σ H Q ->
  wpAny (model X.prog X.w) X.A (evalPart e X.env) (fun u s'=>∃o H',Inv X pins σ H' s'/\IsPart u o/\Q o H') X.xe s
noncomputable def zKS:TO:=fun _ H Q=>Q none H
noncomputable def tPart (t:TE):TO:=fun σ H Q=>t σ H fun x H1=>∃i,x = .int i/\Q (some i) H1
theorem zBR {ns:List Int}:∀{us:List Value},zA2 (ns.map V.int) us->IntsAre us ns:=by
 induction ns with
 | nil=>intro us r;rw[List.map_nil] at r;cases r;exact .nil
 | cons n ns ih=>
  intro us r
  rw[zv] at r
  cases r with
  | cons r1 r2=>
   obtain⟨t,e⟩:=r1
   subst e
   exact .cons n t (ih r2)
section
variable {X:Cx}{e:Expr}{te:TE}{lo hi:Option Expr}{tl th:TO}{pos p2:Pos}
theorem zB0:PO X none zKS:=by
 intro pins s σ H Q I h
 rw[evalPart_none]
 exact zG ⟨none,H,I,.none,h⟩
theorem zBq (h:PE X e te):PO X (some e) (tPart te):=by
 intro pins s σ H Q I hw
 rw[evalPart_some]
 refine thn (h pins s σ H _ I hw) fun u s1 ⟨x,H1,I1,r1,q1⟩=>?_
 obtain⟨i,rfl,q⟩:=q1
 obtain⟨t,rfl⟩:=r1
 exact⟨some i,H1,I1,.int i t,q⟩
noncomputable def SlR (X:Cx)(r:V->Option Int->Option Int->Hp->VK->Prop):Prop:=
 ∀(pins:List (Addr×Obj))(s:Shared)(σ:St)(H:Hp)(x:V)(v vl vu:Value)(lo hi:Option Int)(sl:Addr)(Q:VK),Inv X pins σ H s->zBY x v->s.heap.IsSliceOf sl vl vu .none->IsPart vl lo->IsPart vu hi->r x lo hi H Q ->
  ∃T id,typeLookup (.type T) "__getitem__" = pure (some (.builtin id))/\s.TypeIs v T/\wpAny (model X.prog X.w) X.A (getItem v (.ref sl)) (EP X pins σ Q) X.xe s
noncomputable def tSl (r:V->Option Int->Option Int->Hp->VK->Prop)(te:TE)(tl th:TO):TE:=fun σ H Q=>te σ H fun x H1=>tl σ H1 fun l H2=>th σ H2 fun u H3=>r x l u H3 Q
theorem zBg {r:V->Option Int->Option Int->Hp->VK->Prop}(hr:SlR X r)(he:PE X e te)(hl:PO X lo tl)(hu:PO X hi th):PE X (.Subscript e (.Slice lo hi none p2) pos) (tSl r te tl th):=by
 intro pins s σ H Q I h
 refine Subscript_ (thn (he pins s σ H _ I h) fun v s1 ⟨x,H1,I1,r1,q1⟩=>?_)
 refine wpAny_Slice (thn (hl pins s1 σ H1 _ I1 q1) fun vl s2 ⟨l,H2,I2,pl,q2⟩=>thn (hu pins s2 σ H2 _ I2 q2) fun vu s3 ⟨u,H3,I3,pu,q3⟩=>?_)
 rw[evalPart_none]
 refine zG ?_
 have I4:Inv X pins σ H3 { s3 with heap:=s3.heap.push { cls:=.type "slice",data:=.fields #[vl,vu,.none] } }:=I3.kept (t':=s3.toks) fun b ob q=>zJ _ q
 obtain⟨T,id,hT,ht,hg⟩:=hr pins { s3 with heap:=s3.heap.push { cls:=.type "slice",data:=.fields #[vl,vu,.none] } } σ H3 x v vl vu l u s3.heap.objs.size Q I4 r1 (Heap.IsSliceOf.new ..) pl pu q3
 show wpAny (model X.prog X.w) X.A (subscriptTail e (.Slice lo hi none p2) v (.ref s3.heap.objs.size)) (EP X pins σ Q) X.xe { s3 with heap:=s3.heap.push { cls:=.type "slice",data:=.fields #[vl,vu,.none] } }
 exact tail_any (ops:=[.ref s3.heap.objs.size,v]) ht hT hg (by with_unfolding_all rfl)
noncomputable def zC0 (xs:List V)(lo hi:Option Int):List V:=(xs.drop (HT.sIx xs.length 0 lo)).take (HT.sIx xs.length xs.length hi-HT.sIx xs.length 0 lo)
theorem zDn (xs:List V)(lo hi:Option Int):(zC0 xs lo hi).length<=xs.length:=by
 unfold zC0
 rw[zAF,List.length_drop]
 omega
noncomputable def rSlT (K:PySem.W.Frag):V->Option Int->Option Int->Hp->VK->Prop:=fun x lo hi H Q=>∃a xs,x = .ref a/\SqT K H a xs /\
 ¬ (HT.sIx xs.length 0 lo=0/\HT.sIx xs.length xs.length hi=xs.length)/\∀p,H p=none->Q (.ref p) (upd H p (.tup (zC0 xs lo hi)))
theorem sl_tup:SlR X (rSlT X.K):=by
 intro pins s σ H x v vl vu lo hi sl Q I rx hs pl pu h
 obtain⟨a,xs,rfl,hx,hw,q⟩:=h
 cases rx
 obtain⟨its,r,ht,hz⟩:=I.tuple hx
 have hlen:its.toArray.size=xs.length:=by rw[zI];exact r.length.symm
 refine⟨"tuple",_,PyProof.Rows.slot_tuple_getitem.lookup,ht.typeIs,?_⟩
 refine HT.getItem_tuple_cut ht hs pl pu (by rw[hlen];exact hw) ?_ (by rw[hlen];exact hz)
 rw[hlen]
 refine⟨.ref s.heap.objs.size,_,I.laid (t':=s.toks) (o:=.tup (zC0 xs lo hi)) (fun b ob q=>zJ _ q) (zM _) ?_,rfl,q _ (I.hok.fresh (zM _))⟩
 exact⟨⟨zAp (zDn xs lo hi) hz,_,zP _ rfl,rfl⟩,_,(r.drop (HT.sIx xs.length 0 lo)).take (HT.sIx xs.length xs.length hi-HT.sIx xs.length 0 lo),IsTup.new _ _⟩
noncomputable def rCatT (K:PySem.W.Frag):R2:=fun x y H Q=>∃a b xs ys,x = .ref a/\y = .ref b/\SqT K H a xs/\SqT K H b ys/\xs≠[]/\xs.length+ys.length<=sizeLine /\
 (ys=[]->Q (.ref a) H)/\(ys≠[]->∀p,H p=none->Q (.ref p) (upd H p (.tup (xs++ys))))
theorem zA2.nil_iff {xs:List V}{us:List Value}(r:zA2 xs us):us=[]↔xs=[]:=by
 cases r with
 | nil=>simp
 | cons _ _=>simp
theorem zLD:OpR X (binaryOp .Add) (rCatT X.K):=by
 intro pins s σ H x y v u Q I rx ry h
 obtain⟨a,b,xs,ys,rfl,rfl,ha,hb,hx,hz,q1,q2⟩:=h
 cases rx
 cases ry
 obtain⟨its,r1,p1,_⟩:=I.tuple ha
 obtain⟨its2,r2,p2,_⟩:=I.tuple hb
 refine HT.cat_tup p1 p2 (fun z=>hx (r1.nil_iff.mp z)) (fun z=>⟨.ref a,H,I,rfl,q1 (r2.nil_iff.mp z)⟩) (fun z=>?_) (by rw[<-r1.length,<-r2.length];exact hz)
 refine⟨.ref s.heap.objs.size,_,I.laid (t':=s.toks) (o:=.tup (xs++ys)) (fun b ob q=>zJ _ q) (zM _) ?_,rfl,q2 (fun w=>z (r2.nil_iff.mpr w)) _ (I.hok.fresh (zM _))⟩
 exact⟨⟨by rw[zN];exact hz,_,zP _ rfl,rfl⟩,_,r1.append r2,IsTup.new _ _⟩
end
end L2
namespace L2
open PySem PySem.Spec PyProof.Rows
noncomputable def ixN (n:Nat)(i:Int):Option Nat:=if 0<=i then (if i<n then some i.toNat else none) else if -(n:Int)<=i then some (i+n).toNat else none
noncomputable def atI {α:Type}(xs:List α)(i:Int):Option α:=(ixN xs.length i).bind fun j=>xs[j]?
theorem zH4 {n:Nat}{i:Int}{j:Nat}(h:ixN n i=some j):seqIndex? i n=some j/\j<n /\ -(n:Int)<=i/\i<n:=by
 unfold ixN at h
 by_cases h0:0<=i
 . rw[if_pos h0] at h
   by_cases h1:i<n
   . rw[if_pos h1] at h
     have e:i.toNat=j:=zQ h
     exact⟨by rw[seqIndex_of h0 h1,e],by omega,by omega,h1⟩
   . rw[if_neg h1] at h;cases h
 . rw[if_neg h0] at h
   by_cases h1 : -(n:Int)<=i
   . rw[if_pos h1] at h
     have e:(i+n).toNat=j:=zQ h
     exact⟨by rw[seqIndex_neg (by omega) h1,e],by omega,h1,by omega⟩
   . rw[if_neg h1] at h;cases h
theorem zIY {α:Type}{xs:List α}{i:Int}{v:α}(h:atI xs i=some v):∃j,seqIndex? i xs.length=some j/\xs[j]? = some v/\j<xs.length /\ -(xs.length:Int)<=i/\i<xs.length:=by
 unfold atI at h
 cases e:ixN xs.length i with
 | none=>rw[e] at h;cases h
 | some j=>
  rw[e] at h
  obtain⟨h1,h2,h3,h4⟩:=zH4 e
  exact⟨j,h1,h,h2,h3,h4⟩
theorem zDr {α:Type}{xs:List α}{j:Nat}{v:α}(h:xs[j]? = some v):atI xs (j:Int)=some v:=by
 have hj:j<xs.length:=(zL.mp h).1
 have e:ixN xs.length (j:Int)=some j:=by
  unfold ixN
  rw[if_pos (by omega),if_pos (by omega)];simp
 unfold atI;rw[e];exact h
noncomputable def zLs (b:Expr):Prop:=∀o i,subscripted b false o i=operate [o,i] (getItem o i)
noncomputable def IxR (X:Cx)(r:R2):Prop:=
 ∀(value slice:Expr)(pins:List (Addr×Obj))(s:Shared)(σ:St)(H:Hp)(x y:V)(v u:Value)(Q:VK),Inv X pins σ H s->zBY x v->zBY y u->r x y H Q ->
  subscripted slice false v u=operate [v,u] (getItem v u)->wpAny (model X.prog X.w) X.A (subscriptTail value slice v u) (EP X pins σ Q) X.xe s
noncomputable def MtR (X:Cx)(id:String)(r:V->List V->Hp->VK->Prop):Prop:=
 ∀(pins:List (Addr×Obj))(s:Shared)(σ:St)(H:Hp)(x:V)(xs:List V)(v:Value)(us:List Value)(Q:VK),Inv X pins σ H s->zBY x v->zA2 xs us->r x xs H Q ->
  wpAny (model X.prog X.w) X.A (call (.builtin id) (v::us)) (EP X pins σ Q) X.xe s
section
variable {X:Cx}{a b:Expr}{ta tb:TE}{pos:Pos}
theorem zAC {r:R2}(hr:IxR X r)(ha:PE X a ta)(hb:PE X b tb)(hs:zLs b):PE X (.Subscript a b pos) (tOp r ta tb):=by
 intro pins s σ H Q I h
 exact Subscript_ (binT ha hb I h fun v u s2 x y H2 I2 rx ry q=>hr a b pins s2 σ H2 x y v u Q I2 rx ry q (hs _ _))
noncomputable def rIxL (K:PySem.W.Frag):R2:=fun x y H Q=>∃p xs i v,x = .ref p/\y = .int i/\SqL K H p xs/\atI xs i=some v/\Q v H
noncomputable def rIxT (K:PySem.W.Frag):R2:=fun x y H Q=>∃p xs i v,x = .ref p/\y = .int i/\SqT K H p xs/\atI xs i=some v/\Q v H
theorem zAV:IxR X (rIxL X.K):=by
 intro value slice pins s σ H x y v u Q I rx ry h hs
 obtain⟨p,xs,i,z,rfl,rfl,hq,he,q⟩:=h
 cases rx
 obtain⟨t,rfl⟩:=ry
 obtain⟨its,r,pl,hz⟩:=I.list hq
 obtain⟨j,h1,h2,h3,h4,h5⟩:=zIY he
 obtain⟨w,ew,rw'⟩:=r.get h2
 have hl:=r.length
 have hn:=zFL
 have fin:EP X pins σ Q w s:=⟨z,H,I,rw',q⟩
 by_cases h0:0<=i
 . have hj:i.toNat=j:=by
    rw[seqIndex_of h0 h5] at h1
    exact zQ h1
   exact item_listR pl.isList h0 (by omega) (by rw[hj];simpa using ew) fin hs
 . have hj:(i+(its.toArray.size:Int)).toNat=j:=by
    rw[seqIndex_neg (by omega) h4] at h1
    rw[zI,<-hl]
    exact zQ h1
   exact subscriptTail_builtinR (x:=w) pl.isList.typeIs slot_list_getitem.lookup
    (wpAny_getItem_list_neg (Q:=fun r s'=>r=w/\EP X pins σ Q r s') pl.isList (by omega) (by rw[zI] <;> omega) (by omega) (by rw[hj];simpa using ew) ⟨rfl,fin⟩) hs
theorem zAR:IxR X (rIxT X.K):=by
 intro value slice pins s σ H x y v u Q I rx ry h hs
 obtain⟨p,xs,i,z,rfl,rfl,hq,he,q⟩:=h
 cases rx
 obtain⟨t,rfl⟩:=ry
 obtain⟨its,r,pl,hz⟩:=I.tuple hq
 obtain⟨j,h1,h2,h3,h4,h5⟩:=zIY he
 obtain⟨w,ew,rw'⟩:=r.get h2
 have hl:=r.length
 have hn:=zFL
 have fin:EP X pins σ Q w s:=⟨z,H,I,rw',q⟩
 exact subscriptTail_builtinR (x:=w) pl.typeIs slot_tuple_getitem.lookup
  (getItem_tuple (j:=j) (Q:=fun r s'=>r=w/\EP X pins σ Q r s') pl (by omega) (by omega) (by rw[zI,<-hl];exact h1) (by simpa using ew) ⟨rfl,fin⟩) hs
theorem zGq (its:List Value)(n j:Nat)(u:Value):Obj.mapSeq (·.setIfInBounds j u) { cls:=.type "list",data:=.seq its.toArray n }={ cls:=.type "list",data:=.seq (its.set j u).toArray n }:=by
 simp[Obj.mapSeq]
theorem Inv.lst {pins:List (Addr×Obj)}{σ:St}{H:Hp}{s:Shared}{p:Addr}{xs:List V}(I:Inv X pins σ H s)(h:H p=some (.lst xs)) :
 ∃(its:List Value)(n:Nat),zA2 xs its/\s.heap.get? p=some { cls:=.type "list",data:=.seq its.toArray n }/\xs.length<=sizeLine:=by
 obtain⟨z,its,n,r,e⟩:=I.hok p _ h
 exact⟨its,n,r,e,z⟩
theorem Inv.lstUpd {pins:List (Addr×Obj)}{σ:St}{H:Hp}{s:Shared}{p:Addr}{xs ys:List V}{its its':List Value}{n n':Nat}{f:Obj->Obj}(I:Inv X pins σ H s)(h:H p=some (.lst xs))
 (ho:s.heap.get? p=some { cls:=.type "list",data:=.seq its.toArray n }) (hf:f { cls:=.type "list",data:=.seq its.toArray n }={ cls:=.type "list",data:=.seq its'.toArray n' }) (r:zA2 ys its')(hz:ys.length<=sizeLine)(t:Nat) :
 Inv X pins σ (upd H p (.lst ys)) { s with heap:=s.heap.update p f,toks:=t }:=by
 have e:(s.heap.update p f).get? p=some { cls:=.type "list",data:=.seq its'.toArray n' }:=by
  rw[Heap.get?_update_self f ho (by rw[hf] <;> rfl),hf]
 refine I.write (x:=p) (e:=p) (by rw[h];trivial) (.inl rfl) (fun b u hb q=>(Heap.get?_update_other _ _ (Ne.symm hb)).trans q) ⟨_,e⟩ ?_
 exact⟨hz,its',n',r,e⟩
noncomputable def rSetL:V->V->V->Hp->(Hp->Prop)->Prop:=fun o i v H Q=>∃p xs k j,o = .ref p/\i = .int k/\H p=some (.lst xs)/\ixN xs.length k=some j/\Q (upd H p (.lst (xs.set j v)))
theorem zCc:PSet X rSetL:=by
 intro pins s σ H o i v ov iv u Q I ro ri rv h
 obtain⟨p,xs,k,j,rfl,rfl,hp,hj,q⟩:=h
 cases ro
 obtain⟨t,rfl⟩:=ri
 obtain⟨its,n,r,ho,hz⟩:=I.lst hp
 obtain⟨h1,h2,h3,h4⟩:=zH4 hj
 have hl:=r.length
 have hn:=zFL
 have I':Inv X pins σ (upd H p (.lst (xs.set j v))) { s with heap:=s.heap.update p (Obj.mapSeq (·.setIfInBounds j u)) }:=
  I.lstUpd hp ho (zGq its n j u) (r.set rv j) (by rw[List.length_set];exact hz) s.toks
 by_cases h0:0<=k
 . have hk:k.toNat=j:=by
    rw[seqIndex_of h0 h4] at h1
    exact zQ h1
   exact PySem.W.ki_setAt ho h0 (by omega) (by rw[zI,<-hl];exact h4) (by rw[hk];exact⟨_,I',q⟩)
 . have hk:(k+(its.toArray.size:Int)).toNat=j:=by
    rw[seqIndex_neg (by omega) h3] at h1
    rw[zI,<-hl]
    exact zQ h1
   exact PySem.W.ki_setBack ho (by omega) (by rw[zI,<-hl];exact h3) (by omega) (by rw[hk];exact⟨_,I',q⟩)
theorem zE7 (lo hi:Option Int)(n:Nat):(sliceBounds lo hi none n).1=((HT.sIx n 0 lo:Nat):Int)/\(sliceBounds lo hi none n).2.1=((HT.sIx n n hi:Nat):Int)/\(sliceBounds lo hi none n).2.2=1:=by
 refine⟨?_,?_,rfl⟩
 . cases lo with
   | none=>simp[sliceBounds,HT.sIx]
   | some i=>
    simp only[sliceBounds,HT.sIx,Option.getD_none,show (1:Int) > 0 by decide,if_true]
    by_cases h:i<0
    . simp only[h,if_true] <;> omega
    . simp only[h,if_false] <;> omega
 . cases hi with
   | none=>simp[sliceBounds,HT.sIx]
   | some i=>
    simp only[sliceBounds,HT.sIx,Option.getD_none,show (1:Int) > 0 by decide,if_true]
    by_cases h:i<0
    . simp only[h,if_true] <;> omega
    . simp only[h,if_false] <;> omega
theorem zEb (its:List Value)(lo hi:Option Int):slicePick its.toArray lo hi none=((its.drop (HT.sIx its.length 0 lo)).take (HT.sIx its.length its.length hi-HT.sIx its.length 0 lo)).toArray:=by
 obtain⟨h1,h2,h3⟩:=zE7 lo hi its.toArray.size
 unfold slicePick
 rw[h1,h2,h3]
 simp only[sliceRange_one,pick_run,zI] <;> rfl
noncomputable def rSlL (K:PySem.W.Frag):V->Option Int->Option Int->Hp->VK->Prop:=fun x lo hi H Q=>∃a xs,x = .ref a/\SqL K H a xs/\∀p,H p=none->Q (.ref p) (upd H p (.lst (zC0 xs lo hi)))
theorem zKm:SlR X (rSlL X.K):=by
 intro pins s σ H x v vl vu lo hi sl Q I rx hs pl pu h
 obtain⟨a,xs,rfl,hx,q⟩:=h
 cases rx
 obtain⟨its,r,ht,hz⟩:=I.list hx
 have hlen:=r.length
 refine⟨"list",_,slot_list_getitem.lookup,ht.isList.typeIs,?_⟩
 refine wpAny_getItem_list_slice ht.isList hs pl pu .none (by simp) ?_ (by rw[zI] <;> omega)
 rw[zEb,<-hlen]
 refine⟨.ref s.heap.objs.size,_,I.laid (t':=s.toks) (o:=.lst (zC0 xs lo hi)) (fun b ob q=>zJ _ q) (zM _) ?_,rfl,q _ (I.hok.fresh (zM _))⟩
 exact⟨zAp (zDn xs lo hi) hz,_,0,(r.drop (HT.sIx xs.length 0 lo)).take (HT.sIx xs.length xs.length hi-HT.sIx xs.length 0 lo),zP _ rfl⟩
noncomputable def zD3:V->Bool
 | .non=>true
 | .bl _=>true
 | .int _=>true
 | .str _=>true
 | _=>false
noncomputable def eqV:V->V->Bool
 | .non,.non=>true
 | .bl a,.bl b=>a==b
 | .bl a,.int b=>(if a then 1 else 0)==b
 | .int a,.bl b=>a==(if b then 1 else 0)
 | .int a,.int b=>a==b
 | .str a,.str b=>a==b
 | _,_=>false
theorem zKI {A:Around}{s:Shared}{y x:V}{u v:Value}(ry:zBY y u)(rx:zBY x v)(fy:zD3 y=true)(fx:zD3 x=true):SeqAt.EqAt A s u v (eqV y x):=by
 cases y with
 | non=>
  cases ry
  cases x with
  | non=>cases rx;exact SeqAt.EqAt.same _
  | bl b=>cases rx;exact SeqAt.EqAt.none_bool b
  | int b=>obtain⟨t,rfl⟩:=rx;exact SeqAt.EqAt.none_int b t
  | str b=>obtain⟨t,rfl⟩:=rx;exact SeqAt.EqAt.none_str b t
  | _=>exact absurd (show false=true from fx) zT
 | bl a=>
  cases ry
  cases x with
  | non=>cases rx;exact SeqAt.EqAt.bool_none a
  | bl b=>cases rx;exact SeqAt.EqAt.bool_bool a b
  | int b=>obtain⟨t,rfl⟩:=rx;exact SeqAt.EqAt.bool_int a b t
  | str b=>obtain⟨t,rfl⟩:=rx;exact SeqAt.EqAt.bool_str a b t
  | _=>exact absurd (show false=true from fx) zT
 | int a=>
  obtain⟨t',rfl⟩:=ry
  cases x with
  | non=>cases rx;exact SeqAt.EqAt.int_none a t'
  | bl b=>cases rx;exact SeqAt.EqAt.int_bool a t' b
  | int b=>obtain⟨t,rfl⟩:=rx;exact SeqAt.EqAt.int_int a t' b t
  | str b=>obtain⟨t,rfl⟩:=rx;exact SeqAt.EqAt.int_str a t' b t
  | _=>exact absurd (show false=true from fx) zT
 | str a=>
  obtain⟨t',rfl⟩:=ry
  cases x with
  | non=>cases rx;exact SeqAt.EqAt.str_none a t'
  | bl b=>cases rx;exact SeqAt.EqAt.str_bool a t' b
  | int b=>obtain⟨t,rfl⟩:=rx;exact SeqAt.EqAt.str_int a t' b t
  | str b=>obtain⟨t,rfl⟩:=rx;exact SeqAt.EqAt.str_str a t' b t
  | _=>exact absurd (show false=true from fx) zT
 | _=>exact absurd (show false=true from fy) zT
noncomputable def eqU (x:V)(u:Value):Bool:=match u with
 | .none=>eqV .non x
 | .bool b=>eqV (.bl b) x
 | .int i _=>eqV (.int i) x
 | .str z _=>eqV (.str z) x
 | _=>false
theorem zKH {x y:V}{u:Value}(r:zBY y u)(f:zD3 y=true):eqU x u=eqV y x:=by
 cases y with
 | non=>cases r;rfl
 | bl b=>cases r;rfl
 | int i=>obtain⟨t,rfl⟩:=r;rfl
 | str z=>obtain⟨t,rfl⟩:=r;rfl
 | _=>exact absurd (show false=true from f) zT
theorem zGA {x:V}:∀{xs:List V}{us:List Value},zA2 xs us->xs.all zD3=true->us.any (eqU x)=xs.any fun y=>eqV y x
 | _,_,.nil,_=>rfl
 | y::xs,u::us,.cons r t,f=>by
  rw[List.all_cons,zBH] at f
  rw[List.any_cons,List.any_cons,zKH r f.1,zGA t f.2]
theorem zEn {A:Around}{s:Shared}{x:V}{v:Value}(rx:zBY x v)(fx:zD3 x=true):∀{xs:List V}{us:List Value},zA2 xs us->xs.all zD3=true->∀u∈us,SeqAt.EqAt A s u v (eqU x u)
 | _,_,.nil,_=>fun u hu=>by cases hu
 | y::xs,u::us,.cons r t,f=>fun u' hu=>by
  rw[List.all_cons,zBH] at f
  rcases za.mp hu with rfl | hu
  . rw[zKH r f.1];exact zKI r rx f.1 fx
  . exact zEn rx fx t f.2 u' hu
noncomputable def inV (x:V)(xs:List V):Bool:=xs.any fun y=>eqV y x
noncomputable def rIn (K:PySem.W.Frag)(neg:Bool):R2:=fun x y H Q=>∃p xs,y = .ref p/\(SqL K H p xs\/SqT K H p xs)/\zD3 x=true/\xs.all zD3=true/\Q (.bl (if neg then !inV x xs else inV x xs)) H
theorem zDD:OpR X (compareOp .NotIn) (rIn X.K true):=by
 intro pins s σ H x y v u Q I rx ry h
 obtain⟨p,xs,rfl,hq,fx,fs,q⟩:=h
 cases ry
 rcases hq with hq | hq
 . obtain⟨its,r,pl,hz⟩:=I.list hq
   refine SeqAt.notIn_listAt (eqU x) pl.isList (fun w hw=>zEn rx fx r fs w (by simpa using hw)) ⟨.bl _,H,I,rfl,?_⟩
   rw[show its.toArray.any (eqU x)=its.any (eqU x) by simp,zGA r fs]
   exact q
 . obtain⟨its,r,pl,hz⟩:=I.tuple hq
   refine SeqAt.notIn_tupleAt (eqU x) pl (fun w hw=>zEn rx fx r fs w (by simpa using hw)) ⟨.bl _,H,I,rfl,?_⟩
   rw[show its.toArray.any (eqU x)=its.any (eqU x) by simp,zGA r fs]
   exact q
theorem zAS:zB6 X (.builtin "len") (fun xs H Q=>∃p ys,xs=[.ref p]/\(SqL X.K H p ys\/SqT X.K H p ys)/\Q (.int ys.length) H):=by
 intro pins s σ H xs us Q I r h
 obtain⟨p,ys,rfl,hq,q⟩:=h
 obtain⟨u,rfl,rx⟩:=zCa r
 cases rx
 have hn:=zFL
 rcases hq with hq | hq
 . obtain⟨its,r',pl,hz⟩:=I.list hq
   have hlen:=r'.length
   exact Calls.call_len_list pl.isList (by simp only[zI] <;> omega) ⟨.int ys.length,H,I.tok _,⟨s.toks+1,by rw[zI,hlen]⟩,q⟩
 . obtain⟨its,r',pl,hz⟩:=I.tuple hq
   have hlen:=r'.length
   exact len_tuple pl (by simp only[zI] <;> omega) ⟨.int ys.length,H,I.tok _,⟨s.toks+1,by rw[zI,hlen]⟩,q⟩
theorem zFd:zB6 X (.type "list") (fun xs H Q=>∃p ys,xs=[.ref p]/\(SqL X.K H p ys\/SqT X.K H p ys)/\∀l,H l=none->Q (.ref l) (upd H l (.lst ys))):=by
 intro pins s σ H xs us Q I r h
 obtain⟨p,ys,rfl,hq,q⟩:=h
 obtain⟨u,rfl,rx⟩:=zCa r
 cases rx
 have fin:∀(its:List Value),zA2 ys its->ys.length<=sizeLine->∀(h':Heap)(c':Nat),(∀b o',s.heap.get? b=some o'->h'.get? b=some o') ->
  h'.get? s.heap.objs.size=some { cls:=.type "list",dict:=none,data:=.seq its.toArray c',slots:=#[] }->EP X pins σ Q (.ref s.heap.objs.size) { s with heap:=h' }:=fun its r' hz h' c' kp e=>
  ⟨.ref s.heap.objs.size,_,I.laid (t':=s.toks) kp (zM _) (show zBA X.prog X.w _ h' _ (.lst ys) from ⟨hz,its,c',r',e⟩),rfl,q _ (I.hok.fresh (zM _))⟩
 rcases hq with hq | hq
 . obtain⟨its,r',pl,hz⟩:=I.list hq
   have hlen:=r'.length
   obtain⟨o,ho,hc,n,hd⟩:=pl.isList
   exact call_list_seq p (.inl rfl) ho hc hd (fun h' c' kp e=>fin its r' hz h' c' kp e) (by simp only[zI] <;> omega)
 . obtain⟨its,r',pl,hz⟩:=I.tuple hq
   have hlen:=r'.length
   obtain⟨o,ho,hc,n,hd⟩:=pl
   exact call_list_seq p (.inr rfl) ho hc hd (fun h' c' kp e=>fin its r' hz h' c' kp e) (by simp only[zI] <;> omega)
theorem zAP:zB6 X (.type "tuple") (fun xs H Q=>∃p ys,xs=[.ref p]/\((SqL X.K H p ys/\∀l,H l=none->Q (.ref l) (upd H l (.tup ys)))\/(SqT X.K H p ys/\Q (.ref p) H))):=by
 intro pins s σ H xs us Q I r h
 obtain⟨p,ys,rfl,h⟩:=h
 obtain⟨u,rfl,rx⟩:=zCa r
 cases rx
 rcases h with ⟨hq,q⟩ | ⟨hq,q⟩
 . obtain⟨its,r',pl,hz⟩:=I.list hq
   have hlen:=r'.length
   refine call_tuple_list pl.isList (fun h' kp=>?_) (by simp only[zI] <;> omega)
   have I1:Inv X pins σ H { s with heap:=h' }:=I.kept (t':=s.toks) kp
   have I2:Inv X pins σ (upd H h'.objs.size (.tup ys)) { s with heap:=h'.push { cls:=.type "tuple",data:=.seq its.toArray } }:=
    I1.laid (t':=s.toks) (fun b o e=>zJ _ e) (zM _) (show zBA X.prog X.w _ _ _ (.tup ys) from ⟨⟨hz,_,zP _ rfl,rfl⟩,its,r',IsTup.new _ _⟩)
   exact⟨.ref h'.objs.size,_,I2,rfl,q _ (I1.hok.fresh (zM _))⟩
 . obtain⟨its,r',pl,hz⟩:=I.tuple hq
   exact call_tuple_same pl ⟨.ref p,H,I,rfl,q⟩
noncomputable def tyV (K:PySem.W.Frag)(T:String)(x:V)(H:Hp):Prop:=match x with
 | .str _=>T = "str"
 | .int _=>T = "int"
 | .ref p=>(T = "list" /\ ∃xs,SqL K H p xs)\/(T = "tuple" /\ ∃o,K.lookup p=some o/\o.cls = .type "tuple" /\ o.dict=none) \/
  (T = "dict" /\ ((∃kvs,H p=some (.dK kvs))\/∃kvs,H p=some (.dT kvs)))\/(T = "set" /\ ∃S n,H p=some (.set S n))
 | _=>False
theorem tyV_is {pins:List (Addr×Obj)}{σ:St}{H:Hp}{s:Shared}{T:String}{x:V}{v:Value}(I:Inv X pins σ H s)(r:zBY x v)(ty:tyV X.K T x H) :
 s.TypeIs v T/\∀a,v = .ref a->∃ob,s.heap.get? a=some ob/\ob.dict=none:=by
 cases x with
 | str z=>
  obtain⟨t,rfl⟩:=r
  cases (show T = "str" from ty)
  exact⟨typeIs_str s z t,fun _ e=>nomatch e⟩
 | int i=>
  obtain⟨t,rfl⟩:=r
  cases (show T = "int" from ty)
  exact⟨typeIs_int s i t,fun _ e=>nomatch e⟩
 | ref p=>
  cases r
  rcases ty with ⟨rfl,xs,hq⟩ | ⟨rfl,o,hk,hc,hd⟩ | ⟨rfl,hk⟩ | ⟨rfl,S,n,hk⟩
  . obtain⟨its,_,pl,_⟩:=I.list hq
    refine⟨pl.isList.typeIs,fun a e=>?_⟩
    cases e
    obtain⟨o,n,e,c,hd,_⟩:=pl
    exact⟨o,e,hd⟩
  . refine⟨⟨o,I.kIn p o hk,hc⟩,fun a e=>?_⟩
    cases e
    exact⟨o,I.kIn _ o hk,hd⟩
  . have z:∃o,s.heap.get? p=some o/\o.ExactDict:=by
     rcases hk with ⟨kvs,hk⟩ | ⟨kvs,hk⟩
     . obtain⟨_,_,_,_,o,_,_,e,ex,_⟩:=I.hok p _ hk
       exact⟨o,e,ex⟩
     . obtain⟨_,_,_,_,o,_,_,e,ex,_⟩:=I.hok p _ hk
       exact⟨o,e,ex⟩
    obtain⟨o,e,ex⟩:=z
    refine⟨⟨o,e,ex.1⟩,fun a e2=>?_⟩
    cases e2
    exact⟨o,e,ex.2.1⟩
  . obtain⟨o,_,_,_,e,ex,_⟩:=I.hok p _ hk
    refine⟨⟨o,e,ex.1⟩,fun a e2=>?_⟩
    cases e2
    exact⟨o,e,ex.2.1⟩
 | _=>exact False.elim ty
noncomputable def tBM (K:PySem.W.Frag)(T:String)(r:V->List V->Hp->VK->Prop)(to:TE)(t:TA):TE:=fun σ H Q=>to σ H fun x H1=>tyV K T x H1/\t σ H1 fun xs H2=>r x xs H2 Q
variable {o e:Expr}{es:List Expr}{to:TE}{t:TA}{name:Str}{apos cpos:Pos}{T id:String}{r:V->List V->Hp->VK->Prop}
theorem zC4 (pa:PlainAttrs T)(slot:Slot T name id)(hty:typeOf (.builtin id)=pure (.type "method_descriptor")) (hm:MtR X id r)(ho:PE X o to)(ha:PA X (e::es) t)
 (hbase:attributeBase o name X.env (eval o X.env)=eval o X.env:=by rfl)
 (hfew:((backTo cpos (starEach (e::es) X.env)).all (fun x=>!x.1) && (backToKw cpos (keywordEach [] X.env)).all (fun x=>x.1.isSome)
  && decide ((e::es).length+([]:List Keyword).length+(if ([]:List Keyword).isEmpty then 0 else 1)<30))=true:=by rfl)
 (hline:(apos.endLine==cpos.line)=true:=by rfl)(hs:starEach (e::es) X.env=(false,eval e X.env)::starEach es X.env:=by rfl)(hplain:(backTo cpos (starEach es X.env)).any (·.1)=false:=by rfl) :
 PE X (.Call (.Attribute o name apos) (e::es) [] cpos) (tBM X.K T r to t):=by
 intro pins s σ H Q I h
 refine wpAny_Call_method_late hbase hfew hline rfl (thn (ho pins s σ H _ I h) fun v s1 ⟨x,H1,I1,r1,ty,q1⟩=>?_)
 obtain⟨h1,h2⟩:=tyV_is I1 r1 ty
 refine⟨T,id,pa,slot,hty,h1,h2,?_⟩
 have hA:=ha cpos pins s1 σ H1 _ I1 q1
 rw[hs] at hA ⊢
 refine Calls.callWith_builtin (by show (false || (backTo cpos (starEach es X.env)).any (·.1))=false;rw[hplain] <;> rfl) (Calls.evalArgs_plain ?_)
 exact thn hA fun us s2 ⟨vs,H2,I2,r2,q2⟩=>hm pins s2 σ H2 x vs v us Q I2 r1 r2 q2
end
end L2
namespace L2
open PySem PySem.Spec PyProof.Rows
noncomputable def MtM (X:Cx)(id:String)(r:V->List V->Hp->VK->Prop):Prop:=
 ∀(pins:List (Addr×Obj))(s:Shared)(σ:St)(H:Hp)(x:V)(xs:List V)(v:Value)(us:List Value)(Q:VK),Inv X pins σ H s->zBY x v->zA2 xs us->r x xs H Q ->
  wpAny (model X.prog X.w) X.A (call (.builtin id) (v::us)) (EP X pins σ Q) X.xe s
theorem zA2.one:∀{x:V}{us:List Value},zA2 [x] us->∃u,us=[u]/\zBY x u
 | _,_,.cons r .nil=>⟨_,rfl,r⟩
theorem zA2.eraseIdx:∀{xs:List V}{us:List Value}(i:Nat),zA2 xs us->zA2 (xs.eraseIdx i) (us.eraseIdx i)
 | _,_,_,.nil=>.nil
 | _,_,0,.cons _ t=>t
 | _,_,i+1,.cons r t=>.cons r (zA2.eraseIdx i t)
theorem zA2.rep {xs:List V}{us:List Value}(h:zA2 xs us):∀k:Nat,zA2 (List.replicate k xs).flatten (List.replicate k us).flatten
 | 0=>.nil
 | k+1=>by
  rw[zA3,zA3,List.flatten_cons,List.flatten_cons]
  exact zA2.append h (zA2.rep h k)
theorem zFM {α:Type}:∀(l:List α)(i:Nat),(l.eraseIdx i).length<=l.length
 | [],_=>zM _
 | _::_,0=>Nat.le_succ _
 | _::r,i+1=>Nat.succ_le_succ (zFM r i)
theorem zFR (its:List Value):∀(k:Nat)(acc:List Value),
 List.foldl (fun x1 x2=>x1++x2) acc.toArray (List.replicate k its.toArray)=(acc++(List.replicate k its).flatten).toArray
 | 0,acc=>by simp
 | k+1,acc=>by
  have e:acc.toArray++its.toArray=(acc++its).toArray:=by simp
  have e2:(acc++its)++(List.replicate k its).flatten=acc++(List.replicate (k+1) its).flatten:=by
   rw[zA3,List.flatten_cons,List.append_assoc]
  rw[<-e2,<-zFR its k (acc++its),<-e,zA3,List.foldl_cons]
section
variable {X:Cx}{pins:List (Addr×Obj)}{σ:St}{H:Hp}{s:Shared}{l b:Addr}{xs ys zs:List V}
theorem Inv.lset {its its':List Value}{n:Nat}{f:Array Value->Array Value}{t':Nat}(I:Inv X pins σ H s)(hH:H l=some (.lst xs))
 (e:s.heap.get? l=some { cls:=.type "list",data:=.seq its.toArray n }) (hf:f its.toArray=its'.toArray)(hv:zA2 ys its')(hz:ys.length<=sizeLine) :
 Inv X pins σ (upd H l (.lst ys)) { s with heap:=s.heap.update l (Obj.mapSeq f),toks:=t' }:=by
 have q:=PySem.IsL.update e f
 rw[hf] at q
 refine I.write (x:=l) (e:=l) (by rw[hH];exact trivial) (.inl rfl) (fun b' u hb hu=>(Heap.get?_update_other s.heap (Obj.mapSeq f) (Ne.symm hb)).trans hu) ⟨_,q⟩ ?_
 exact⟨hz,its',_,hv,q⟩
theorem Inv.lnew {its:List Value}{t':Nat}(I:Inv X pins σ H s)(hv:zA2 ys its)(hz:ys.length<=sizeLine) :
 Inv X pins σ (upd H s.heap.objs.size (.lst ys)) { s with heap:=s.heap.push { cls:=.type "list",data:=.seq its.toArray },toks:=t' }:=
 I.laid (fun _ _ q=>zJ _ q) (zM _) ⟨hz,its,0,hv,zP _ rfl⟩
theorem Inv.fresh (I:Inv X pins σ H s):H s.heap.objs.size=none:=I.hok.fresh (zM _)
theorem Inv.lstM (I:Inv X pins σ H s)(hH:H l=some (.lst xs)):xs.length<=sizeLine/\∃(its:List Value)(n:Nat),zA2 xs its/\xs.length=its.length/\s.heap.get? l=some { cls:=.type "list",data:=.seq its.toArray n }:=by
 obtain⟨z,its,n,r,e⟩:=I.hok l _ hH
 exact⟨z,its,n,r,r.length,e⟩
theorem zGT {n:Nat}(h:n<=sizeLine):Builtin.List.listTooLong n=false:=by
 unfold Builtin.List.listTooLong
 exact zb (by omega)
end
section
variable {X:Cx}
noncomputable def zKx:V->List V->Hp->VK->Prop:=fun x vs H Q=>∃l xs y,x = .ref l/\vs=[y]/\H l=some (.lst xs)/\xs.length<sizeLine/\Q .non (upd H l (.lst (xs++[y])))
theorem zBw:MtM X "list.append" zKx:=by
 intro pins s σ H x vs v us Q I rx rv h
 obtain⟨l,xs,y,rfl,rfl,hH,hz,q⟩:=h
 cases rx
 obtain⟨u,rfl,ru⟩:=rv.one
 obtain⟨z,its,n,r,hl,e⟩:=I.lstM hH
 refine call_meets F.slot_list_append ⟨_,e,rfl⟩ F.entry_list_append (F.args_list_append_2 _ _) (PySem.list_append l its.toArray n u (by rw[zI];omega)) ⟨e,?_⟩
 refine⟨.non,_,I.lset (its':=its++[u]) hH e (by simp) (r.append (.cons ru .nil)) ?_,rfl,q⟩
 rw[zN,List.length_singleton]
 omega
noncomputable def zKw:V->List V->Hp->VK->Prop:=fun x vs H Q=>∃l b xs zs,x = .ref l/\vs=[.ref b]/\H l=some (.lst xs)/\H b=some (.lst zs)/\xs.length+zs.length<=sizeLine/\Q .non (upd H l (.lst (xs++zs)))
theorem zCi:MtM X "list.extend" zKw:=by
 intro pins s σ H x vs v us Q I rx rv h
 obtain⟨l,b,xs,zs,rfl,rfl,hH,hB,hz,q⟩:=h
 cases rx
 obtain⟨u,rfl,ru⟩:=rv.one
 cases ru
 obtain⟨z,its,n,r,hl,e⟩:=I.lstM hH
 obtain⟨z2,its2,n2,r2,hl2,e2⟩:=I.lstM hB
 have hsz:its.toArray.size+its2.toArray.size<=sizeLine:=by rw[zI,zI];omega
 have hlong:¬ (!its.toArray.isEmpty && Builtin.List.listTooLong (its.toArray.size+its2.toArray.size))=true:=by
  rw[zGT hsz,Bool.and_false]
  exact zT
 refine call_meets F.slot_list_extend ⟨_,e,rfl⟩ F.entry_list_extend (F.args_list_extend_2 _ _)
  (AutoSeq1.list_extend_list_list_0 l its.toArray n b its2.toArray n2 hlong (by rw[zI];omega) (by omega)) ⟨e,e2,?_⟩
 refine⟨.non,_,I.lset (its':=its++its2) hH e (by simp) (r.append r2) ?_,rfl,q⟩
 rw[zN]
 omega
noncomputable def rPopAt:V->List V->Hp->VK->Prop:=fun x vs H Q=>∃l xs i k y,x = .ref l/\vs=[.int i]/\H l=some (.lst xs) /\ -(2 ^ 63)<=i/\i<2 ^ 63/\seqIndex? i xs.length=some k/\xs[k]? = some y/\Q y (upd H l (.lst (xs.eraseIdx k)))
theorem zGU:MtM X "list.pop" rPopAt:=by
 intro pins s σ H x vs v us Q I rx rv h
 obtain⟨l,xs,i,k,y,rfl,rfl,hH,h1,h2,hk,hy,q⟩:=h
 cases rx
 obtain⟨u,rfl,ru⟩:=rv.one
 obtain⟨t,rfl⟩:=ru
 obtain⟨z,its,n,r,hl,e⟩:=I.lstM hH
 obtain⟨w,hw,rw'⟩:=r.get hy
 refine call_meets F.slot_list_pop ⟨_,e,rfl⟩ F.entry_list_pop (F.args_list_pop_2 _ _)
  (MeetsSeq.list_pop_at l its.toArray n i t k w (fitsIndex_both h1 h2) (by rw[zI,<-hl];exact hk) (by rw[<-Array.getElem?_toList];exact hw) (by rw[zI];omega)) ⟨e,?_⟩
 refine⟨y,_,I.lset (its':=its.eraseIdx k) hH e ?_ (r.eraseIdx k) ?_,rw',q⟩
 . show its.toArray.eraseIdxIfInBounds k=(its.eraseIdx k).toArray
   rw[List.eraseIdxIfInBounds_toArray]
 . have:=zFM xs k
   omega
noncomputable def rCat:R2:=fun x y H Q=>∃l b xs zs,x = .ref l/\y = .ref b/\H l=some (.lst xs)/\H b=some (.lst zs)/\xs.length+zs.length<=sizeLine/\∀p,H p=none->Q (.ref p) (upd H p (.lst (xs++zs)))
theorem zGR:OpR X (binaryOp .Add) rCat:=by
 intro pins s σ H x y v u Q I rx ry h
 obtain⟨l,b,xs,zs,rfl,rfl,hH,hB,hz,q⟩:=h
 cases rx
 cases ry
 obtain⟨z,its,n,r,hl,e⟩:=I.lstM hH
 obtain⟨z2,its2,n2,r2,hl2,e2⟩:=I.lstM hB
 refine PySem.P.add_list e e2 ?_ (by rw[zI,zI];omega)
 have ea:its.toArray++its2.toArray=(its++its2).toArray:=by simp
 rw[ea]
 exact⟨.ref _,_,I.lnew (t':=s.toks) (r.append r2) (by rw[zN];omega),rfl,q _ I.fresh⟩
noncomputable def rRep:R2:=fun x y H Q=>∃l k xs,x = .ref l/\y = .int k/\H l=some (.lst xs) /\ -(2 ^ 63)<=k/\k<2 ^ 63/\xs.length*k.toNat<=sizeLine /\
 ∀p,H p=none->Q (.ref p) (upd H p (.lst (List.replicate k.toNat xs).flatten))
theorem zLb {α:Type}(xs:List α)(k:Nat):(List.replicate k xs).flatten.length=k*xs.length:=by
 induction k with
 | zero=>simp
 | succ k ih=>rw[zA3,List.flatten_cons,zN,ih,Nat.succ_mul,Nat.add_comm]
theorem zJ6:OpR X (binaryOp .Mult) rRep:=by
 intro pins s σ H x y v u Q I rx ry h
 obtain⟨l,k,xs,rfl,rfl,hH,h1,h2,hz,q⟩:=h
 cases rx
 obtain⟨t,rfl⟩:=ry
 obtain⟨z,its,n,r,hl,e⟩:=I.lstM hH
 have hlen:its.toArray.size*k.toNat<=sizeLine:=by rw[zI,<-hl];exact hz
 have hcap:¬ its.toArray.size*k.toNat > (2 ^ 63-1)/8:=by
  have:(sizeLine:Nat)<=(2 ^ 63-1)/8:=by decide
  omega
 have hfit:¬ (!Builtin.List.listFitsIndex k)=true:=by
  rw[fitsIndex_both h1 h2]
  exact zT
 have hlong:¬ Builtin.List.listTooLong (its.toArray.size*k.toNat)=true:=by
  rw[zGT hlen]
  exact zT
 have hnew:List.foldl (fun x1 x2=>x1++x2) #[] (List.replicate (if its.toArray.isEmpty=true then 0 else k.toNat) its.toArray)=(List.replicate k.toNat its).flatten.toArray:=by
  have f0:∀m:Nat,List.foldl (fun x1 x2=>x1++x2) #[] (List.replicate m its.toArray)=(List.replicate m its).flatten.toArray:=fun m=>by
   have:=zFR its m []
   rw[List.nil_append] at this
   exact this
  rw[f0]
  cases its with
  | nil=>simp
  | cons a r'=>rw[if_neg (by simp)]
 refine wpAny_binaryOp_repeat_ref (T := "list") (U := "int") (by decide) ⟨_,e,rfl⟩ (fun s'=>typeIs_int s' k t) noFill_list_mul F.fills_int_mul F.slot_int_rmul repeat_list F.slot_int_index.lookup
  (call_meets F.slot_int_rmul (typeIs_int s k t) F.entry_int_rmul (F.args_int_rmul_2 _ _) (int___rmul___int_list k t l its.toArray n)
   ⟨e,rfl,⟨_,e,rfl⟩,call_meets F.slot_list_mul ⟨_,e,rfl⟩ F.entry_list_mul (F.args_list_mul_2 _ _) (AutoListH.list___mul___list_int_3 l its.toArray n k t hfit hcap hlong) ⟨e,?_⟩⟩)
 rw[hnew]
 exact⟨.ref _,_,I.lnew (t':=s.toks) (r.rep k.toNat) (by rw[zLb,Nat.mul_comm];exact hz),rfl,q _ I.fresh⟩
end
section
variable {prog:Program}{w:World}{A:Around}{E:Value->Shared->Prop}{s:Shared}
set_option maxRecDepth 100000 in
end
section
variable {X:Cx}
end
end L2
namespace Att
open PySem PySem.W PySem.Calls PyProof.Rows
theorem zDh {P:Params}{h:Heap}:∀(ns:List Int)(vs:List Value),WellAll P h vs (ns.map WData.int)->IntsAre vs ns:=by
 intro ns
 induction ns with
 | nil=>
  intro vs w
  rw[List.map_nil] at w
  cases w
  exact .nil
 | cons n ns ih=>
  intro vs w
  rw[zv] at w
  cases w with
  | cons a b=>
   cases a
   exact .cons _ _ (ih _ b)
theorem zHJ {l:OpenLaw}{n:Nat}(hn:l.most=some n){P:Params}{h:Heap}{args:List WData}{vals:List Value}
 (hpre:l.row.toRowW.claim.pre args=true)(hwl:WellAll P h vals args) :
 ∃a vs ns,vals=[Value.ref a]/\args=[WData.list (ns.map WData.int)]/\h.get? a=some { cls:=.type "list",data:=.seq vs.toArray }/\IntsAre vs ns/\ns.length<=n:=by
 have hsh:WShape.hasAll [] args [.list .int]=true:=(pre_splitW hpre).1
 have hc:l.pre.holds [] { args:=args }=true:=(pre_splitW hpre).2
 obtain⟨d,r,rfl,h1,h2⟩:=hasAllW_cons hsh
 obtain rfl:=hasAllW_nil h2
 obtain⟨xs,rfl,h3⟩:=hasW_list h1
 obtain⟨ns,rfl⟩:=items_int h3
 have hlen:ns.length<=n:=by
  unfold OpenLaw.pre at hc
  have h4:(WTm.not (.lt (.lit (.int (n:Int))) (.len (.arg 0)))).holds [] { args:=[.list (ns.map .int)] }=true:=by
   have h4:=(holds_andW hc).1
   rw[hn] at h4
   exact h4
  have h5:=condW_of h4 (w_not (w_lt w_lit (w_len_list (w_arg rfl))))
  rw[zD] at h5
  refine Nat.le_of_not_lt fun q=>?_
  have q':(n:Int)<((ns.length:Nat):Int):=by omega
  first
   | (rw[zZ q'] at h5;exact absurd h5 (by decide))
   | (simp at h5;omega)
 cases hwl with
 | cons w1 w2=>
  cases w2
  cases w1 with
  | list ho hall=>exact⟨_,_,ns,rfl,rfl,ho,zDh ns _ hall,hlen⟩
theorem zHW (l:OpenLaw)(args:List WData):l.row.toRowW.claim.post args (.bool true) args=true:=
 postW_of (r:=l.row.toRowW) (X:=(true==true))
  (show WShape.has [] (.bool true) .bool=true by first | rfl | decide | simp[WShape.has,WShape.arms,WShape.armsAll])
  (show (WTm.eq .res (.lit (.bool true))).value [] { args:=args,res:=some (.bool true),after:=args }=some (.bool (true==true)) from w_eq_bool (w_res rfl) w_lit) rfl
theorem attach_call {l:OpenLaw}{n:Nat}{q:Program}{loose:List Str}{XP:(Str->Option Value)->Heap->Prop}{YP:World->Heap->Prop}{d:DefRec}
 (hn:l.most=some n)(hdf:d.params.defaults=[])
 (call:∀(w:World)(s₀ s₁:Shared)(mg mb:Str->Option Value)(fa:Addr)(o:Obj)(pm cd doc:Value)(a:Addr)(vs:List Value)(ns:List Int),
  Ground q loose [] XP w s₀ mg mb s₁.heap->YP w s₁.heap ->
  s₁.heap.get? fa=some o->o.data = .func (docDef d.name d.params d.body d.scope pm cd doc)->s₁.heap.CodeRec cd d.name->mg d.name=some (.ref fa) ->
  s₁.heap.get? a=some { cls:=.type "list",data:=.seq vs.toArray }->IntsAre vs ns->ns.length<=n->s₁.gens = #[] ->
  codeAny (model l.prog w) callerA (.call (.ref fa) ⟨[.ref a],[]⟩) (fun r s'=>r = .ok (.ret (.bool true))/\OldK s₁.heap s'.heap/\s'.os=s₁.os/\AllBare s'.gens) s₁) :
 WalkO q loose XP YP l.row.toRowW d [] (fun f vs=>PySem.call f vs):=by
 intro w s₀ s₁ mg mb G Y fa o pm cd doc dV kV ho hd hcd hD hmg hg args vals as hpre hlay hrd hwl hlo
 obtain rfl:dV = .none:=Dflts.none hD hdf
 obtain rfl:kV = .none:=Dflts.noKw hD
 obtain⟨a,vs,ns,rfl,rfl,hobj,hints,hlen⟩:=zHJ hn hpre hwl
 refine enter_call (codeAny_mono (call w s₀ s₁ mg mb fa o pm cd doc a vs ns G Y ho (fd_plain hd) hcd hmg hobj hints hlen hg) fun r s' hq=>?_)
 obtain⟨rfl,h2,h3,h4⟩:=hq
 exact⟨.inl ⟨.bool true,.bool true,[],rfl,fun _=>rfl,.bool true,zHW l _,fun _=>⟨zBb,fun _ hm=>(nomatch hm)⟩⟩,h2,h3,h4⟩
section
variable {prog:Program}{w:World}{A:Around}{E:Value->Shared->Prop}{s:Shared}{K:Frag}
end
end Att
namespace L2
open PySem PySem.Spec PyProof.Rows
theorem zEz:∀{vs:List Value}{ns:List Int},IntsAre vs ns->zA2 (ns.map V.int) vs
 | _,_,.nil=>.nil
 | _,_,.cons n t h=>.cons ⟨t,rfl⟩ (zEz h)
end L2
namespace L2
open PySem PySem.Spec PyProof.Rows
end L2
namespace L2
open PySem PySem.Spec PyProof.Rows
noncomputable def defArgs (s:Stmt):Arguments:=match s with
 | .FunctionDef _ a _ _ _ _ _ _ _ _=>a
 | _=>{ posonlyargs:=[],args:=[],vararg:=none,kwonlyargs:=[],kw_defaults:=[],kwarg:=none,defaults:=[] }
noncomputable def defBody (s:Stmt):List Stmt:=match s with
 | .FunctionDef _ _ b _ _ _ _ _ _ _=>b
 | _=>[]
noncomputable def defScope (s:Stmt):Scope:=match s with
 | .FunctionDef _ _ _ _ _ _ sc _ _ _=>sc
 | _=>{ kind:=.function,names:=[],isGenerator:=false,isCoroutine:=false }
noncomputable abbrev CX0:CXT:=fun _ _ _ _ _ _=>False
noncomputable abbrev E0:XK:=fun _ _ _=>False
theorem zAI {X:Cx}:zDI CX0 X E0:=fun _ _ _ _ _ _ _ h=>h.elim
structure Fun (K:PySem.W.Frag)(x qual:Str)(st:Stmt)(f:Addr)(fd:FuncData):Prop where
 ex:∃(oc:Value)(od:Option Addr)(kV doc pm:Value)(an:Option Addr)(cdv ct:Value)(osl:Array (Option Value)),
  fd=PySem.W.fnOf x qual (defArgs st) (defBody st) (defScope st) .none kV doc pm an cdv ct/\K.lookup f=some ⟨oc,od,.func fd,osl⟩/\PySem.W.codeIn K cdv qual=true
 kp:PySem.W.keepIn K (.ref f)=true
section
variable {P:Program}{w:World}{K:PySem.W.Frag}{mg:Str->Option Value}{base:Heap}
theorem Fun.ok {x qual:Str}{st:Stmt}{f:Addr}{fd:FuncData}{N ps:List Str}{k:Nat}{sp:Sp}(F:Fun K x qual st f fd)(S:zAA N ps (defScope st))(len:∀vs H Q E,sp vs H Q E->vs.length=ps.length)
 (hbody:∀(cdv:Value)(A:Around)(outer:List Env)(s:Shared)(H:Hp)(vs:List V)(Q:VK)(E:XK),zCF k (A.deeper (envOfC qual (defScope st) s.heap.objs.size f cdv))->sp vs H Q E ->
  ∃t,PSs (zGa CX0 P w K mg base N qual (defScope st) f cdv A outer s H E).nox (defBody st) t/\t { nx:=fun _ H'=>Q .non H',rt:=Q } (start N vs) H):zy P w K mg base CX0 (k+1) f fd ps sp:=by
 obtain⟨oc,od,kV,doc,pm,an,cdv,ct,osl,rfl,lk,hcd⟩:=F.ex
 refine zLl lk hcd S len fun A outer s H vs Q E hr hsp=>?_
 obtain⟨t,h,q⟩:=hbody cdv A outer s H vs Q E hr hsp
 exact⟨t,h.nox,q⟩
theorem Fun.binds {x qual:Str}{st:Stmt}{f:Addr}{fd:FuncData}{ps:List Str}(F:Fun K x qual st f fd)
 (h:∀(kV doc pm:Value)(an:Option Addr)(cdv ct:Value)(us:List Value),us.length=ps.length->bindArgs (PySem.W.fnOf x qual (defArgs st) (defBody st) (defScope st) .none kV doc pm an cdv ct) ⟨us,[]⟩=pure (ps.zip us)):zt K fd ps []:=by
 obtain⟨oc,od,kV,doc,pm,an,cdv,ct,osl,rfl,lk,hcd⟩:=F.ex
 exact .all (h kV doc pm an cdv ct)
theorem zKF {x qual:Str}{st:Stmt}{f:Addr}{oc:Value}{od an:Option Addr}{osl:Array (Option Value)}{kV doc pm cdv ct:Value}(l:K.lookup f=some ⟨oc,od,.func (PySem.W.fnOf x qual (defArgs st) (defBody st) (defScope st) .none kV doc pm an cdv ct),osl⟩)
 (c:PySem.W.codeIn K cdv qual=true)(k:PySem.W.keepIn K (.ref f)=true):Fun K x qual st f (PySem.W.fnOf x qual (defArgs st) (defBody st) (defScope st) .none kV doc pm an cdv ct):=⟨⟨oc,od,kV,doc,pm,an,cdv,ct,osl,rfl,l,c⟩,k⟩
end
theorem zLc {A:Around}{k:Nat}(hr:zCF k A):A.units+1<cLine:=zBE (Nat.add_le_add_left (by decide:1<=64) _) hr.units
section
variable {X:Cx}
theorem pv (i:Nat){x:Str}{pos:Pos}(hN:X.N[i]? = some x:=by rfl)(hv:Vis X.env.scope x:=by first | exact Or.inl rfl | exact Or.inr (Or.inl rfl) | exact Or.inr (Or.inr rfl))(hd:(x==("__debug__" : Str))=false:=by decide)
 (hcd:(x==("__classdict__" : Str))=false:=by decide):PE X (.Name x pos) (tVar i):=pe_var hN hv hd hcd
end
theorem zCR {A B:Prop}(h:B):if false=true then A else B:=by
 rw[if_neg zT]
 exact h
theorem zCz {A B:Prop}(h:A):if true=true then A else B:=by
 rw[if_pos rfl]
 exact h
theorem zDL {c A B:Prop} [Decidable c] (h1:c->A)(h2:¬ c->B):if c then A else B:=by
 by_cases h:c
 . rw[if_pos h]
   exact h1 h
 . rw[if_neg h]
   exact h2 h
noncomputable def zAW (H H':Hp):Prop:=∀b o,H b=some o->H' b=some o
theorem zAW.refl (H:Hp):zAW H H:=fun _ _ h=>h
theorem zAW.trans {H H1 H2:Hp}(a:zAW H H1)(b:zAW H1 H2):zAW H H2:=fun c o h=>b c o (a c o h)
end L2
namespace L2
open PySem PySem.Spec PyProof.Rows
section
variable {κ:Type} [DecidableEq κ]
theorem zGC {kvs:List (κ×V)}{k:κ}(h:zCG kvs k=none):¬ k∈kvs.map (·.1):=by
 intro m
 obtain⟨p,hp,e⟩:=zAB.mp m
 have q:(kvs.any fun kv=>decide (kv.1=k))=true:=List.any_eq_true.mpr ⟨p,hp,zZ e⟩
 rw[zB2,h] at q
 exact absurd q (by simp)
theorem zKP {kvs:List (κ×V)}{k:κ}{v:V}(h:zCG kvs k=some v):k∈kvs.map (·.1):=by
 have q:(kvs.any fun kv=>decide (kv.1=k))=true:=by
  rw[zB2,h]
  all_goals rfl
 obtain⟨p,hp,e⟩:=List.any_eq_true.mp q
 exact zAB.mpr ⟨p,hp,of_decide_eq_true e⟩
theorem zHq:∀{l:List κ}{k:κ},l.Nodup->¬ k∈l->(l++[k]).Nodup
 | [],k,_,_=>by simp
 | a::r,k,h,hk=>by
  obtain⟨h1,h2⟩:=zAi.mp h
  show (a::(r++[k])).Nodup
  refine zAi.mpr ⟨fun m=>?_,zHq h2 fun m=>hk (za.mpr (Or.inr m))⟩
  rcases zx.mp m with q | q
  . exact h1 q
  . exact hk (za.mpr (Or.inl (zi.mp q).symm))
theorem zLZ {kvs:List (κ×V)}{k:κ}(v:V)(hn:(kvs.map (·.1)).Nodup)(h:zCG kvs k=none):((zDK kvs k v).map (·.1)).Nodup:=by
 rw[zJA v h,zR]
 exact zHq hn (zGC h)
theorem zFV {p:κ×V}{r:List (κ×V)}{k:κ}(e:p.1=k):zB1 (p::r) k=zB1 r k:=by
 unfold zB1
 rw[zBU,if_neg (by simp[e])]
theorem zFW {p:κ×V}{r:List (κ×V)}{k:κ}(e:¬ p.1=k):zB1 (p::r) k=p::zB1 r k:=by
 unfold zB1
 rw[zBU,if_pos (by simp[e])]
theorem zFX {kvs:List (κ×V)}{k:κ}{p:κ×V}(h:p∈zB1 kvs k):p∈kvs:=(zAx.mp h).1
theorem zEl:∀{kvs:List (κ×V)}{k:κ},(kvs.map (·.1)).Nodup->((zB1 kvs k).map (·.1)).Nodup
 | [],_,_=>List.nodup_nil
 | p::r,k,h=>by
  have h:(p.1::r.map (·.1)).Nodup:=h
  obtain⟨h1,h2⟩:=zAi.mp h
  by_cases e:p.1=k
  . rw[zFV e]
    exact zEl h2
  . rw[zFW e]
    show (p.1::(zB1 r k).map (·.1)).Nodup
    refine zAi.mpr ⟨fun m=>h1 ?_,zEl h2⟩
    obtain⟨q,hq,eq⟩:=zAB.mp m
    exact zAB.mpr ⟨q,zFX hq,eq⟩
end
end L2
namespace L2
open PySem PySem.Spec PyProof.Rows
section
variable {X:Cx}
end
end L2
set_option Elab.async false
set_option linter.all false
set_option maxRecDepth 100000
set_option maxHeartbeats 4000000
namespace L2
open PySem PySem.Spec PyProof.Rows
theorem zFa {prog:Program}{w:World}{A:Around}{R:Result->Shared->Prop}{s:Shared}{elt target iter:Expr}{ifs:List Expr}{scope:Scope}{pos:Pos}{it acc:Value}{env:Env}(I:Nat->Shared->Prop)
 (turn:∀n s,I n s->wpAny (model prog w) A (pyNext it) (fun r s₁=>match r with
  | none=>R (.ok .next) s₁
  | some v=>wpAny (model prog w) A (letOwnedTupleGo target it v) (fun _ s₁'=>wpAny (model prog w) A (assign target env v) (fun _ s₂=>
   wpAny (model prog w) A (forIn ifs true fun c r=>if r=true then do let ok <-isTrue c env (eval c env);pure (ForInStep.yield ok) else pure (ForInStep.yield r)) (fun ok s₃=>
    if ok=true then wpAny (model prog w) A (eval elt env) (fun x s₄=>
     wpAny (model prog w) A (call (.builtin "list.append") [acc,x]) (fun _ s₅=>∃m,m<n/\I m s₅) (fun _ _=>False) s₄) (fun _ _=>False) s₃
    else ∃m,m<n/\I m s₃) (fun _ _=>False) s₂) (fun _ _=>False) s₁') (fun _ _=>False) s₁) (fun _ _=>False) s)
 (n:Nat)(h:I n s):codeAny (model prog w) A (.compLoop (.ListComp elt [⟨target,iter,ifs,0⟩] scope pos) 0 it acc env) R s:=by
 refine codeAny_loop rfl I (fun n s hI=>?_) n h
 show wpAny _ A ((compTurn (.ListComp elt [⟨target,iter,ifs,0⟩] scope pos) 0 it acc env).onRaise (fun x=>do noteFrame x env;theTreesLotGoes x)) _ _ s
 refine wpAny_noted ?_
 rw[compTurn_list]
 refine zA (wpAny_standAt (zA (zAg (turn n s hI) (fun r s₁ h₁=>?_) fun _ _ h'=>h'.elim)))
 cases r with
 | none=>exact zG h₁
 | some v=>
  refine zA (zAg h₁ (fun _ s₁' h₁'=>?_) fun _ _ h'=>h'.elim)
  refine zA (zAg h₁' (fun _ s₂ h₂=>zA (zAg h₂ (fun ok s₃ h₃=>?_) fun _ _ h'=>h'.elim)) fun _ _ h'=>h'.elim)
  cases ok with
  | false=>exact zG ⟨rfl,h₃⟩
  | true=>
   exact zA (zA (zAg h₃ (fun x s₄ h₄=>zA (zAg h₄ (fun _ s₅ h₅=>zG (zG ⟨rfl,h₅⟩)) fun _ _ h'=>h'.elim)) fun _ _ h'=>h'.elim))
noncomputable def PTs (X:Cx)(ifs:List Expr)(t:TT):Prop:=
 ∀(pins:List (Addr×Obj))(s:Shared)(σ:St)(H:Hp)(Q:Bool->Hp->Prop),Inv X pins σ H s->t σ H Q ->
  wpAny (model X.prog X.w) X.A (forIn ifs true fun c r=>if r=true then do let ok <-isTrue c X.env (eval c X.env);pure (ForInStep.yield ok) else pure (ForInStep.yield r)) (TP X pins σ Q) X.xe s
noncomputable def tYes:TT:=fun _ H Q=>Q true H
theorem zFm {σ:St}{H:Hp}{A B:Hp->Prop}(h:A H):tYes σ H (fun b H3=>if b=true then A H3 else B H3):=by
 show (if true=true then A H else B H)
 exact zCz h
theorem zBZ {X:Cx}:PTs X [] tYes:=fun _ _ _ H _ I h=>wpAny_tests_nil ⟨H,I,h⟩
theorem zCI {X:Cx}{c:Expr}{t:TT}(h:PT X c t):PTs X [c] t:=fun pins s σ H Q I q=>wpAny_tests_one (h pins s σ H Q I q)
noncomputable def zDG (cells:List (Str×Addr)):List (Str×NameKind)->List (Str×Addr)->List (Str×Addr)
 | [],acc=>acc
 | (n,k)::r,acc=>if (k == .free)=true then (match cells.lookup n with | some c=>zDG cells r ((n,c)::acc) | none=>zDG cells r acc) else zDG cells r acc
theorem zCr {cells:List (Str×Addr)}{x:Str}{c:Addr}:∀(names:List (Str×NameKind))(acc:List (Str×Addr)),(zDG cells names acc).lookup x=some c->acc.lookup x=some c\/cells.lookup x=some c
 | [],acc,h=>.inl h
 | (n,k)::r,acc,h=>by
  unfold zDG at h
  split at h
  . cases hc:cells.lookup n with
    | none=>rw[hc] at h;exact zCr r acc h
    | some c'=>
     rw[hc] at h
     rcases zCr r _ h with q | q
     . rw[zBk] at q
       cases hx:x==n with
       | true=>
        rw[hx] at q
        have e:x=n:=by simpa using hx
        have e2:c'=c:=by simpa using q
        rw[e,hc,e2]
        exact .inr rfl
       | false=>rw[hx] at q;exact .inl q
     . exact .inr q
  . exact zCr r acc h
theorem zDR {cells:List (Str×Addr)}{x:Str}:∀(names:List (Str×NameKind))(acc:List (Str×Addr)),(∃c,acc.lookup x=some c)->∃c,(zDG cells names acc).lookup x=some c
 | [],acc,h=>h
 | (n,k)::r,acc,h=>by
  unfold zDG
  split
  . cases hc:cells.lookup n with
    | none=>exact zDR r acc h
    | some c'=>
     refine zDR r _ ?_
     rw[zBk]
     cases hx:x==n with
     | true=>exact⟨c',rfl⟩
     | false=>exact h
  . exact zDR r acc h
theorem zCs {cells:List (Str×Addr)}{x:Str}(hx:∃c,cells.lookup x=some c):∀(names:List (Str×NameKind))(acc:List (Str×Addr)),(x,NameKind.free)∈names->∃c,(zDG cells names acc).lookup x=some c
 | [],acc,h=>by simp at h
 | (n,k)::r,acc,h=>by
  rcases za.mp h with e | h
  . cases e
    obtain⟨c,hc⟩:=hx
    unfold zDG
    rw[if_pos (by rfl),hc]
    exact zDR r _ ⟨c,by rw[zBk];simp⟩
  . unfold zDG
    split
    . cases hc:cells.lookup n with
      | none=>exact zCs hx r acc h
      | some c'=>exact zCs hx r _ h
    . exact zCs hx r acc h
theorem zC8 {env:Env}:∀(names:List (Str×NameKind))(acc:List (Str×Addr)),(∀y∈names,y.2 = .free->∃c,env.cells.lookup y.1=some c) ->
 (forIn names acc fun (x:Str×NameKind)(cs:List (Str×Addr))=>(if (x.2 == .free)=true then (do let a <-cellOf env x.1;pure (ForInStep.yield ((x.1,a)::cs))) else pure (ForInStep.yield cs):Sem (ForInStep (List (Str×Addr)))))=pure (zDG env.cells names acc)
 | [],acc,_=>rfl
 | (n,k)::r,acc,h=>by
  rw[List.forIn_cons]
  have hr:∀y∈r,y.2 = .free->∃c,env.cells.lookup y.1=some c:=fun y hy=>h y (zf _ hy)
  unfold zDG
  cases hk:(k==NameKind.free) with
  | true=>
   obtain⟨c,hc⟩:=h (n,k) ze (by simpa using hk)
   simp only[hk,if_true,cellOf,hc,pure_bind]
   exact zC8 r _ hr
  | false=>
   simp only[hk,Bool.false_eq_true,if_false,pure_bind]
   exact zC8 r _ hr
theorem zCq {scope:Scope}{env:Env}(h:∀y∈scope.names,y.2 = .free->∃c,env.cells.lookup y.1=some c):closureFor scope env=pure (zDG env.cells scope.names []):=by
 have e:=zC8 scope.names [] h
 simp only[closureFor]
 simp only[bind_pure]
 exact e
theorem zB3 {env:Env}{x:Str}:∀(names:List (Str×NameKind)),
 (names.map fun (n,k)=>if (k==NameKind.free && env.scope.kind == .function && env.kindOf n==some .cell) then (n,NameKind.cell) else (n,k)).lookup x =
  (names.lookup x).map fun k=>if (k==NameKind.free && env.scope.kind == .function && env.kindOf x==some .cell)=true then NameKind.cell else k
 | []=>rfl
 | (n,k)::r=>by
  have ih:=zB3 (env:=env) (x:=x) r
  rw[zv]
  show List.lookup x ((if (k==NameKind.free && env.scope.kind == .function && env.kindOf n==some .cell)=true then (n,NameKind.cell) else (n,k))::_)=_
  by_cases c:(k==NameKind.free && env.scope.kind == .function && env.kindOf n==some .cell)=true
  . rw[if_pos c,zBk,zBk]
    cases hx:x==n with
    | true=>
     have e:x=n:=by simpa using hx
     subst e
     show some NameKind.cell=Option.map _ (some k)
     rw[zA8,if_pos c]
    | false=>exact ih
  . rw[if_neg c,zBk,zBk]
    cases hx:x==n with
    | true=>
     have e:x=n:=by simpa using hx
     subst e
     show some k=Option.map _ (some k)
     rw[zA8,if_neg c]
    | false=>exact ih
noncomputable def zA6 (X:Cx)(pl:List (Addr×Obj))(N':List Str)(scope:Scope)(fp:List Addr)(s3:Shared)(H3:Hp):Cx where
 prog:=X.prog
 w:=X.w
 K:=X.K
 mg:=X.mg
 base:=X.base
 A:=X.A
 N:=N'
 s₀:=s3
 H₀:=H3
 env:=compEnvC scope (zDG X.env.cells scope.names []) s3.heap.objs.size X.env
 outer:=X.stack
 stack:=X.stack
 ex:=fp
 fn:=fun _=>false
 calm:=X.calm
 pn:=pl
 xe:=fun _ _=>False
noncomputable def zFl (X:Cx)(scope:Scope):List Str->List Nat->Prop
 | [],[]=>True
 | x::cn,j::ci=>X.N[j]? = some x/\X.env.kindOf x=some .cell/\scope.names.lookup x=some .free/\zFl X scope cn ci
 | _,_=>False
theorem zFl.get {X:Cx}{scope:Scope}:∀{cn:List Str}{ci:List Nat}{k:Nat}{x:Str},zFl X scope cn ci->cn[k]? = some x->∃j,ci[k]? = some j/\X.N[j]? = some x/\X.env.kindOf x=some .cell/\scope.names.lookup x=some .free
 | [],_,_,_,_,h=>by simp at h
 | _::_,[],_,_,c,_=>c.elim
 | y::cn,j::ci,0,x,c,h=>by
  obtain⟨a,b,b',_⟩:=c
  have e:y=x:=by simpa using h
  subst e
  exact⟨j,rfl,a,b,b'⟩
 | y::cn,j::ci,k+1,x,c,h=>by
  obtain⟨j',h1,h2⟩:=zFl.get (k:=k) c.2.2.2 (by simpa using h)
  exact⟨j',by simpa using h1,h2⟩
structure zDx (X:Cx)(scope:Scope):Prop where
 kind:scope.kind = .function
 nocell:∀y∈scope.names,y.2 ≠ .cell
 names:∀y∈scope.names,y.2 = .local->scope.names.lookup y.1=some .local
 free:∀y∈scope.names,y.2 = .free->X.env.kindOf y.1=some .cell
section
variable {X:Cx}{pins:List (Addr×Obj)}{σ:St}{H3:Hp}{s3:Shared}{scope:Scope}{fp:List Addr}{N' own cn:List Str}{ci:List Nat}{cv:List V}
theorem zGb (ok:X.Ok)(S:zDx X scope){x:Str}(h:(relabel scope X.env).names.lookup x=some .cell\/(relabel scope X.env).names.lookup x=some .free) :
 ∃c,(zDG X.env.cells scope.names []).lookup x=some c:=by
 have e:(relabel scope X.env).names.lookup x=(scope.names.lookup x).map fun k=>if (k==NameKind.free && X.env.scope.kind == .function && X.env.kindOf x==some .cell)=true then NameKind.cell else k:=zB3 scope.names
 have hf:scope.names.lookup x=some .free:=by
  cases q:scope.names.lookup x with
  | none=>rw[e,q] at h;simp at h
  | some k=>
   by_cases hk:k = .free
   . rw[hk]
   . have hb:(k==NameKind.free)=false:=by simpa using hk
     rw[e,q] at h
     simp only[zA8,hb,Bool.false_and,Bool.false_eq_true,if_false,Option.some.injEq] at h
     rcases h with h | h
     . exact absurd h (S.nocell _ (PySem.mem_of_lookup q))
     . exact absurd h hk
 exact zCs (ok.has x (.inl (S.free _ (PySem.mem_of_lookup hf) rfl))) scope.names [] (PySem.mem_of_lookup hf)
theorem zC7 {x:Str}{c:Addr}(h:(zDG X.env.cells scope.names []).lookup x=some c):X.env.cells.lookup x=some c:=by
 rcases zCr _ _ h with q | q
 . simp at q
 . exact q
theorem zLo (I:Inv X pins σ H3 s3)(S:zDx X scope)(f:∀b∈fp,zG2 X pins H3 b)(fz:∀b∈fp,b<s3.heap.objs.size):(zA6 X (X.pn++pins) N' scope fp s3 H3).Ok where
 mod:=I.ok.mod
 kind:=S.kind
 glob:=I.ok.glob
 blt:=I.ok.blt
 above:=zM _
 inj:=fun x y c h1 h2=>I.ok.inj x y c (zC7 h1) (zC7 h2)
 has:=fun x h=>zGb I.ok S h
 cab:=fun x c h=>by cases h
 hd:=I.ok.hd
 frames:=I.ok.frames
 stk:=.inl rfl
 exf:=fun b hb=>⟨zW (fz b hb),fun x c h=>(f b hb).2.2.2.2.1 x c (zC7 h)⟩
 bs:=I.bs
 bsz:=zAp I.ok.bsz I.sz
 noex:=fun b o e hb=>by
  rcases (f b hb).2.2.2.1 with z | z
  . exact I.ok.noex b o e z
  . exact absurd (zk (zS e) (zAp I.ok.bsz z)) (Nat.lt_irrefl _)
 exfs:=fun b hb z=>by
  rcases za.mp (I.stkSub b z) with q | q
  . exact (f b hb).2.1 q
  . exact (f b hb).2.2.1 q
 funs:=I.stack
 frf:=I.stkFree
theorem zJf {h1:Heap}{t:Nat}(I:Inv X pins σ H3 s3)(S:zDx X scope)(f:∀b∈fp,zG2 X pins H3 b)(fz:∀b∈fp,b<s3.heap.objs.size)
 (hN:N'=own++cn)(hc:zFl X scope cn ci)(hv:ci.map (fun j=>σ[j]?)=cv.map fun v=>some (some v))(hl:cn.length=ci.length)
 (hns:h1.Ns s3.heap.objs.size (fun _=>none))(hk:∀b o,s3.heap.get? b=some o->h1.get? b=some o) :
 Inv (zA6 X (X.pn++pins) N' scope fp s3 H3) [] (List.replicate own.length none++cv.map some) H3 { s3 with heap:=h1,toks:=t }:=by
 have lenv:cv.length=ci.length:=by
  have:=congrArg List.length hv
  simpa using this.symm
 refine⟨zLo I S f fz,rfl,I.bare,Un.kept hk,⟨_,hns,fun i x v e1 e2 e3=>?_⟩,fun x c e=>?_,I.hok.fresh (zM _),fun x c e=>I.freeC x c (zC7 e),fun p hp=>?_,I.hok.kept hk,?_⟩
 . -- a captured name
   have hi:own.length<=i:=by
    by_cases hi:own.length<=i
    . exact hi
    . rw[zu (by simpa using hi),List.getElem?_replicate] at e2
      split at e2 <;> cases e2
   rw[zo (by simpa using hi),zAq,zU] at e2
   have e1':(own++cn)[i]? = some x:=by rw[<-hN];exact e1
   rw[zo hi] at e1'
   obtain⟨j,hj,hNj,hkx,hfr⟩:=hc.get e1'
   have hcv:cv[i-own.length]? = some v:=by
    cases q:cv[i-own.length]? with
    | none=>rw[q] at e2;cases e2
    | some v'=>rw[q] at e2;cases e2;rfl
   have hσ:σ[j]? = some (some v):=by
    have:=congrArg (fun l:List (Option (Option V))=>l[i-own.length]?) hv
    simp only[zU,hj,hcv,zA8,Option.some.injEq] at this
    exact this
   obtain⟨m,_,hl'⟩:=I.loc
   obtain⟨u,r,q⟩:=hl' j x v hNj hσ (.inr (.inl hkx))
   have hkd:(relabel scope X.env).names.lookup x=some .cell\/(relabel scope X.env).names.lookup x=some .free:=by
    have e:(relabel scope X.env).names.lookup x=(scope.names.lookup x).map fun k=>if (k==NameKind.free && X.env.scope.kind == .function && X.env.kindOf x==some .cell)=true then NameKind.cell else k:=zB3 scope.names
    rw[e,hfr,zA8]
    by_cases cc:(NameKind.free==NameKind.free && X.env.scope.kind == .function && X.env.kindOf x==some .cell)=true
    . rw[if_pos cc];exact .inl rfl
    . rw[if_neg cc];exact .inr rfl
   obtain⟨c',hc'⟩:=zGb I.ok S hkd
   refine⟨u,r,.inr ⟨hkd,c',hc',?_⟩⟩
   rcases q with ⟨z,_⟩ | ⟨_,c,hcc,o,ho,hd⟩
   . rw[hkx] at z;cases z
   . have e:c=c':=zQ (hcc.symm.trans (zC7 hc'))
     subst e
     exact⟨o,hk c o ho,hd⟩
 . obtain⟨v,o,ho,hd⟩:=I.cell x c (zC7 e)
   exact⟨v,o,hk c o ho,hd⟩
 . have hp':p∈X.pn++pins:=by rw[zr] at hp;exact hp
   obtain⟨e,n,ne,nf,d⟩:=I.pin p hp'
   refine⟨hk _ _ e,n,zW (zS e),fun z=>?_,d⟩
   rcases za.mp (I.stkSub p.1 z) with q | q
   . exact ne q
   . exact nf q
 . show (List.replicate own.length none++cv.map some).length=N'.length
   rw[hN,zN,zN,zAq,zD,lenv,hl]
noncomputable def zFk (J:It)(own:Nat)(cv:List V)(g:TG)(ti:TT)(te:TE)(D:Addr)(H1:Hp)(Q:VK):Prop:=∃W:Nat->Nat->List V->Hp->Prop,(∃m,W 0 m [] (upd H1 D (.lst [])))/\∀i m ys H,W i m ys H ->
 (J.stop i H/\Q (.ref D) H)\/(J.go i H/\ys.length<sizeLine/\∃N:List V->Hp->Prop,(∀ys' H',N ys' H'->∃m',m'<m/\W (i+1) m' ys' H') /\
  ∀x H',J.yld i H x H'->g x (List.replicate own none++cv.map some) H' fun σ2 H2=>(σ2.length=own+cv.length/\σ2.drop own=cv.map some) /\
   ti σ2 H2 fun b H3=>if b=true then te σ2 H3 fun y H4=>H4 D=some (.lst ys)/\N (ys++[y]) (upd H4 D (.lst (ys++[y]))) else N ys H3)
noncomputable def zKW (own:Nat)(ci:List Nat)(wi:TI)(g:TG)(ti:TT)(te:TE):TE:=fun σ H Q=>wi σ H fun J H1=>∃cv:List V,ci.map (fun j=>σ[j]?)=cv.map (fun v=>some (some v)) /\
 ∀D,H1 D=none->zFk J own cv g ti te D H1 Q
theorem zFZ {elt target iter:Expr}{ifs:List Expr}{pos cpos:Pos}{wi:TI}{g:TG}{ti:TT}{te:TE}{use:Option (Value->Sem Unit)}{Q0:Value->Shared->Prop}{s:Shared}{H:Hp}{Q:VK}(hcalm:X.calm=true)(S:zDx X scope)(hc:zFl X scope cn ci)(hl:cn.length=ci.length)
 (hi:PI X target iter wi)(hg:∀pl fp s3 H3,PG (zA6 X pl (own++cn) scope fp s3 H3) target g)(ht:∀pl fp s3 H3,PTs (zA6 X pl (own++cn) scope fp s3 H3) ifs ti)
 (he:∀pl fp s3 H3,PE (zA6 X pl (own++cn) scope fp s3 H3) elt te)(hs:∀x,foldedSetIterable iter X.env x=pure x)(I:Inv X pins σ H s)(h:zKW own.length ci wi g ti te σ H Q)
 (fin:∀(D C:Addr)(H5:Hp)(s6:Shared)(m6:Str->Option Value),Inv X pins σ H5 s6->s6.heap.Ns C m6->H5 C=none->C≠X.env.locals->X.s₀.heap.objs.size<=C->(∀x c,X.env.cells.lookup x=some c->c≠C) ->
  (∀p∈X.pn++pins,p.1≠C)->Q (.ref D) H5->compPost (model X.prog X.w) X.A X.xe use Q0 (.ref D) C (.ok .next) s6) :
 wpAny (model X.prog X.w) X.A (comprehension (.ListComp elt [⟨target,iter,ifs,0⟩] scope pos) scope X.env cpos (newList []) false (eval iter X.env) use) Q0 X.xe s:=by
 have hcl:closureFor scope X.env=pure (zDG X.env.cells scope.names []):=zCq fun y hy hf=>I.ok.has y.1 (.inl (S.free y hy hf))
 refine wpAny_comprehension_free (use:=use) rfl hs hcl S.kind S.names ?_
 refine thn (hi pins s σ H _ I h) fun v s1 h1=>thn h1 fun itv s2 h2=>?_
 obtain⟨it,fp,tn,J,H2,e,I2,T,st2,f2,cv,hv,hD⟩:=h2
 subst e
 have lenv:cv.length=ci.length:=by
  have:=congrArg List.length hv
  simpa using this.symm
 have I3:=I2.lnew (ys:=[]) (its:=[]) (t':=s2.toks) .nil (zj _)
 obtain⟨W,⟨m0,w0⟩,turn⟩:=hD s2.heap.objs.size I2.fresh
 have fz:∀b∈fp,b<s2.heap.objs.size:=fun b hb=>by
  obtain⟨o,ho,_⟩:=T.obj _ _ st2 b hb
  exact zS ho
 refine zAo ?_
 refine wpAny_newFunctionEnv S.nocell (by intro y hy;simp at hy) (fun h4 hns4 hsb4=>?_) S.kind
 generalize hs3:({ s2 with heap:=s2.heap.push { cls:=.type "list",dict:=none,data:=.seq ([]:List Value).toArray } }:Shared)=s3 at hns4 hsb4 ⊢
 have I3':Inv X pins σ (upd H2 s2.heap.objs.size (.lst [])) s3:=by rw[<-hs3];exact I3
 have hsz3:s3.heap.objs.size=s2.heap.objs.size+1:=by rw[<-hs3];exact zAj ..
 have k23:∀b o,s2.heap.get? b=some o->s3.heap.get? b=some o:=fun b o e=>by rw[<-hs3];exact zJ _ e
 have k34:∀b o,s3.heap.get? b=some o->h4.get? b=some o:=fun b o e=>hsb4.extBut b o (zW (zS e)) (zJ _ e)
 have nD:∀b∈fp,b≠s2.heap.objs.size:=fun b hb=>zW (fz b hb)
 have f3:∀b∈fp,zG2 X pins (upd H2 s2.heap.objs.size (.lst [])) b:=fun b hb=>⟨by rw[zV (nD b hb)];exact (f2 b hb).1,(f2 b hb).2⟩
 have fz3:∀b∈fp,b<s3.heap.objs.size:=fun b hb=>by rw[hsz3];exact zBN (fz b hb)
 have I4:Inv (zA6 X (X.pn++pins) (own++cn) scope fp s3 (upd H2 s2.heap.objs.size (.lst []))) [] (List.replicate own.length none++cv.map some) (upd H2 s2.heap.objs.size (.lst [])) { s3 with heap:=h4,toks:=s3.toks+([]:List (Str×Value)).length }:=
  zJf I3' S f3 fz3 rfl hc hv hl hns4 k34
 have st4:tn 0 h4:=T.keep _ _ _ st2 fun b hb o e=>k34 b o (k23 b o e)
 generalize hX:zA6 X (X.pn++pins) (own++cn) scope fp s3 (upd H2 s2.heap.objs.size (.lst []))=X' at I4
 have hg':PG X' target g:=by rw[<-hX];exact hg _ _ _ _
 have ht':PTs X' ifs ti:=by rw[<-hX];exact ht _ _ _ _
 have he':PE X' elt te:=by rw[<-hX];exact he _ _ _ _
 have ePr:X'.prog=X.prog:=by rw[<-hX];rfl
 have eW:X'.w=X.w:=by rw[<-hX];rfl
 have eK:X'.K=X.K:=by rw[<-hX];rfl
 have eA:X'.A=X.A:=by rw[<-hX];rfl
 have eE:X'.env=compEnvC scope (zDG X.env.cells scope.names []) s3.heap.objs.size X.env:=by rw[<-hX];rfl
 have eXe:X'.xe=fun _ _=>False:=by rw[<-hX];rfl
 have eC:X'.calm=true:=by rw[<-hX];exact hcalm
 have eex:X'.ex=fp:=by rw[<-hX];rfl
 have epn:X'.pn=X.pn++pins:=by rw[<-hX];rfl
 have es0:X'.s₀=s3:=by rw[<-hX];rfl
 have eH0:X'.H₀=upd H2 s2.heap.objs.size (.lst []):=by rw[<-hX];rfl
 have efs:X'.fs=frs X.stack:=by rw[<-hX];rfl
 have ok':=I4.ok
 have stat:∀{H':Hp},(∀b∈fp,H' b=none)->∀b∈fp,zG2 X' [] H' b:=fun hn b hb=>by
  have hb':b∈X'.ex:=by rw[eex];exact hb
  refine⟨hn b hb,(ok'.exf b hb').1,ok'.exfs b hb',.inl hb',(ok'.exf b hb').2,fun p hp=>?_⟩
  rw[epn,zr] at hp
  exact (f2 b hb).2.2.2.2.2 p hp
 have wk:∀(σ2:St),(σ2.length=own.length+cv.length/\σ2.drop own.length=cv.map some)->∀{pl:List (Addr×Obj)}{H':Hp}{s':Shared},Inv X' pl σ2 H' s'->Inv X' pl (List.replicate own.length none++cv.map some) H' s':=fun σ2 hq pl H' s' I'=>by
  refine I'.weak (by rw[hq.1,zN,zAq,zD]) fun i v hi=>?_
  by_cases hlt:i<own.length
  . rw[zu (by simpa using hlt),List.getElem?_replicate] at hi
    split at hi <;> cases hi
  . rw[zo (by simpa using hlt),zAq,<-hq.2,List.getElem?_drop] at hi
    rw[show own.length+(i-own.length)=i by omega] at hi
    exact hi
 have loop:codeAny (model X.prog X.w) X.A (.compLoop (.ListComp elt [⟨target,iter,ifs,0⟩] scope pos) 0 (.ref it) (.ref s2.heap.objs.size) (compEnvC scope (zDG X.env.cells scope.names []) s3.heap.objs.size X.env))
  (compPost (model X.prog X.w) X.A X.xe use Q0 (.ref s2.heap.objs.size) s3.heap.objs.size) { s3 with heap:=h4,toks:=s3.toks+([]:List (Str×Value)).length }:=by
  refine zFa (fun n s'=>∃i ys H',Inv X' [] (List.replicate own.length none++cv.map some) H' s'/\tn i s'.heap/\(∀b∈fp,H' b=none)/\W i n ys H') ?_ m0
   ⟨0,[],_,I4,st4,fun b hb=>(f3 b hb).1,w0⟩
  rintro n s5 ⟨i,ys,H5,I5,st5,fr5,w5⟩
  rcases turn i n ys H5 w5 with ⟨stop,qn⟩ | ⟨go,hsz,N,hN,step⟩
  . have d:=T.done X' ePr eW eK eC i [] s5 _ H5 (fun _ _=>False) I5 (stat fr5) st5 stop
    rw[eA] at d
    refine thn d fun r s6 ⟨hr,I6⟩=>?_
    subst hr
    obtain⟨m6,hn6,_⟩:=I6.loc
    rw[eE] at hn6
    have hn6':s6.heap.Ns s3.heap.objs.size m6:=hn6
    have un6:Un (frs X.stack) fp (upd H2 s2.heap.objs.size (.lst [])) H5 s3.heap s6.heap:=by
     have b6:=I6.base
     rw[efs,eex,eH0,es0] at b6
     exact b6
    have os6:s6.os=s3.os:=by have o6:=I6.os;rw[es0] at o6;exact o6
    have hok6:HOk X.prog X.w H5 s6.heap:=by have o6:=I6.hok;rw[ePr,eW] at o6;exact o6
    have I7:Inv X pins σ H5 s6:=I3'.call' (ch:=fp) os6 un6 hok6 I6.bare fun b hb=>⟨(f2 b hb).2.2.2.1,(f2 b hb).2.1,(f2 b hb).2.2.2.2.1,(f2 b hb).2.2.2.2.2⟩
    have fr6:H5 s3.heap.objs.size=none:=by
     have q:=I6.free
     rw[eE] at q
     exact q
    refine fin s2.heap.objs.size s3.heap.objs.size H5 s6 m6 I7 hn6' fr6 (zAH I3'.lt) I3'.sz (fun x c e=>?_) (fun p hp=>?_) qn
    . obtain⟨_,o,ho,_⟩:=I3'.cell x c e
      exact zW (zS ho)
    . exact zW (zS (I3'.pin p hp).1)
  . have d:=T.item X' ePr eW eK eC i [] s5 _ H5 (fun _ _=>False) I5 (stat fr5) st5 go
    rw[eA] at d
    refine thn d fun r s6 ⟨u,hr,h6⟩=>?_
    subst hr
    refine thn h6 fun _ s7 ⟨x,H7,I7,r7,y7,st7,fr7⟩=>?_
    have I7':=I7.pinned (stat fr7) (T.obj _ _ st7)
    have g7:=hg' _ s7 _ H7 x u _ I7' r7 (step x H7 y7)
    rw[ePr,eW,eA,eE,eXe] at g7
    refine thn g7 fun _ s8 ⟨σ8,H8,I8,q8,ti8⟩=>?_
    have t8:=ht' _ s8 σ8 H8 _ I8 ti8
    rw[ePr,eW,eA,eE,eXe] at t8
    refine thn t8 fun ok s9 ⟨H9,I9,q9⟩=>?_
    have again:∀{ys':List V}{H':Hp}{s':Shared},Inv X' ([]++zFH fp s7.heap) σ8 H' s'->N ys' H' ->
     ∃m,m<n/\∃i ys H',Inv X' [] (List.replicate own.length none++cv.map some) H' s'/\tn i s'.heap/\(∀b∈fp,H' b=none)/\W i m ys H':=fun {ys' H' s'} I' n'=>by
     obtain⟨m',hm,w'⟩:=hN ys' H' n'
     refine⟨m',hm,i+1,ys',H',(wk σ8 q8 I').unpinned,T.keep _ _ _ st7 fun b hb o e=>(I'.pin (b,o) (zq _ (zq _ (zCQ hb e)))).1,fun b hb=>?_,w'⟩
     obtain⟨o,e,_⟩:=T.obj _ _ st7 b hb
     exact (I'.pin (b,o) (zq _ (zq _ (zCQ hb e)))).2.1
    cases ok with
    | false=>exact again I9 q9
    | true=>
     have e9:=he' _ s9 σ8 H9 _ I9 q9
     rw[ePr,eW,eA,eE,eXe] at e9
     refine thn e9 fun u10 s10 ⟨y,H10,I10,r10,hD10,n10⟩=>?_
     have a10:=zBw (X:=X') _ s10 σ8 H10 (.ref s2.heap.objs.size) [y] (.ref s2.heap.objs.size) [u10] (fun _ H'=>N (ys++[y]) H') I10 rfl (.cons r10 .nil) ⟨_,_,_,rfl,rfl,hD10,hsz,n10⟩
     rw[ePr,eW,eA,eXe] at a10
     exact thn a10 fun _ s11 ⟨_,H11,I11,_,n11⟩=>again I11 n11
 exact codeAny_compStart_list loop (T.self X.A 0 _ _ _ st4 loop)
theorem zBS {elt target iter:Expr}{ifs:List Expr}{pos:Pos}{wi:TI}{g:TG}{ti:TT}{te:TE}(hcalm:X.calm=true)(S:zDx X scope)(hc:zFl X scope cn ci)(hl:cn.length=ci.length)
 (hi:PI X target iter wi)(hg:∀pl fp s3 H3,PG (zA6 X pl (own++cn) scope fp s3 H3) target g)(ht:∀pl fp s3 H3,PTs (zA6 X pl (own++cn) scope fp s3 H3) ifs ti)
 (he:∀pl fp s3 H3,PE (zA6 X pl (own++cn) scope fp s3 H3) elt te)(hs:∀x,foldedSetIterable iter X.env x=pure x:=by intro _;rfl) :
 PE X (.ListComp elt [⟨target,iter,ifs,0⟩] scope pos) (zKW own.length ci wi g ti te):=by
 intro pins s σ H Q I h
 rw[eval_ListComp]
 exact zFZ hcalm S hc hl hi hg ht he hs I h fun D C H5 s6 m6 I7 hn fr nL ge nC nP q=>⟨m6,hn,fun h' hs'=>⟨.ref D,H5,I7.turned (t':=s6.toks) (it:=C) (fun b o hb e=>hs'.extBut b o hb e) fr nL (.inr ge) nC nP,rfl,q⟩⟩
theorem zC3 {elt target iter:Expr}{ifs:List Expr}{pos pos' cpos:Pos}{wi:TI}{g:TG}{ti:TT}{te:TE}{i:Nat}{x:Str}(hN:X.N.Nodup)(hix:X.N[i]? = some x)(hx:Loc X.env.scope x)(hcalm:X.calm=true)(S:zDx X scope)(hc:zFl X scope cn ci)(hl:cn.length=ci.length)
 (hi:PI X target iter wi)(hg:∀pl fp s3 H3,PG (zA6 X pl (own++cn) scope fp s3 H3) target g)(ht:∀pl fp s3 H3,PTs (zA6 X pl (own++cn) scope fp s3 H3) ifs ti)
 (he:∀pl fp s3 H3,PE (zA6 X pl (own++cn) scope fp s3 H3) elt te)(hs:∀x,foldedSetIterable iter X.env x=pure x:=by intro _;rfl)
 (hsw:swapsWith (.ListComp elt [⟨target,iter,ifs,0⟩] scope cpos) (some (.Name x pos')) pos.line X.env=pure true:=by rfl)
 (hf:X.fn x=true\/X.env.scope.names.lookup x=some .local:=by first | exact .inl rfl | exact .inr rfl | assumption) :
 PS X (.Assign [.Name x pos'] (.ListComp elt [⟨target,iter,ifs,0⟩] scope cpos) pos) (tAsg (zKW own.length ci wi g ti te) (zLg i)):=by
 intro pins s σ H D I h
 rw[exec_Assign_Name_used _ _ _ _ hsw]
 refine zA (wpAny_standAt (zA ?_))
 show wpAny _ X.A (do let _ <-comprehension (.ListComp elt [⟨target,iter,ifs,0⟩] scope cpos) scope X.env _ (newList []) false (eval iter X.env) (some (assign (.Name x pos') X.env))) _ _ s
 refine zA (zAg (zFZ (use:=some (assign (.Name x pos') X.env)) (Q0:=fun _ s'=>SP X pins D .next s') hcalm S hc hl hi hg ht he hs I h (fun D' C H5 s6 m6 I7 hn fr nL ge nC nP q=>?_)) (fun _ s' hq=>zG (zG hq)) fun _ _ e=>e)
 obtain⟨oC,es,ep,hoC,hd,r1⟩:=hn
 have nf:C∉X.fs:=fun hb=>by
  obtain⟨_,o,ho,_⟩:=I7.ok.funs.mem hb
  exact absurd (zk (zS ho) ge) (Nat.lt_irrefl _)
 have I7':Inv X (pins++[(C,oC)]) σ H5 s6:=I7.pins_of fun p hp=>by
  rcases zx.mp hp with z | z
  . exact I7.pin p (zq _ z)
  . rw[zi.mp z]
    exact⟨hoC,fr,nL,nf,fun v e=>by rw[hd] at e;cases e⟩
 show wpAny _ X.A (assign (.Name x pos') X.env (.ref D')) _ _ s6
 refine wpAny_assign_Name (zCb I7' hN hix hx (show zBY (.ref D') (.ref D') from rfl) (fun s' I'=>?_) hf)
 have hC':=(I'.pin (C,oC) (zq _ (zq _ (zi.mpr rfl)))).1
 refine⟨m6,⟨oC,es,ep,hC',hd,r1⟩,fun h' hs'=>⟨_,H5,?_,q⟩⟩
 have I2:Inv X pins (σ.set i (some (.ref D'))) H5 s':=I'.pins_of fun p hp=>I'.pin p (zq _ (zBa _ hp))
 exact I2.turned (t':=s'.toks) (it:=C) (fun b o hb e=>hs'.extBut b o hb e) fr nL (.inr ge) nC nP
end
noncomputable def cscOk (outer inner:Scope):Bool:=inner.names.all fun y=>(y.2 != .cell) && (y.2 != .local || inner.names.lookup y.1==some .local) && (y.2 != .free || outer.names.lookup y.1==some .cell)
theorem csc {X:Cx}{scope:Scope}(hk:scope.kind = .function)(h:cscOk X.env.scope scope=true):zDx X scope:=by
 have a:=zBl.mp h
 refine⟨hk,fun y hy e=>?_,fun y hy e=>?_,fun y hy e=>?_⟩
 . have:=a y hy
   rw[e] at this
   simp at this
 . have:=a y hy
   rw[e] at this
   simpa using this
 . have:=a y hy
   rw[e] at this
   have h2:X.env.scope.names.lookup y.1=some .cell:=by simpa using this
   exact h2
theorem zBv {l:List Str}(h:decide l.Nodup=true):l.Nodup:=of_decide_eq_true h
section
variable {X:Cx}{pl:List (Addr×Obj)}{N':List Str}{sc:Scope}{fp:List Addr}{s3:Shared}{H3:Hp}
theorem zCN:IxR (zA6 X pl N' sc fp s3 H3) (rIxT X.K):=zAR
theorem zEq:IxR (zA6 X pl N' sc fp s3 H3) (rIxL X.K):=zAV
theorem zHX {es:List Expr}{k:Nat}{t:TGs}{n:Nat}{pos:Pos}(hc:X.calm=true)(h:PGs (zA6 X pl N' sc fp s3 H3) es t)
 (hn:(assignEach es (zA6 X pl N' sc fp s3 H3).env).length=n:=by rfl)(hst:(assignEach es (zA6 X pl N' sc fp s3 H3).env).findIdx? (·.1)=none:=by rfl):PG (zA6 X pl N' sc fp s3 H3) (.Tuple es k pos) (gTup X.K n t):=zDW hc h hn hst
end
theorem zBx {K:PySem.W.Frag}{a:Addr}{xs:List V}{own:Nat}{g:TG}{ti:TT}{te:TE}{cv:List V}{D:Addr}{H1:Hp}{Q:VK}(Pv:Nat->List V->Hp->Prop)(h0:Pv 0 [] (upd H1 D (.lst [])))(hl:∀i ys H,Pv i ys H->SqL K H a xs)(hz:∀i ys H,Pv i ys H->ys.length<sizeLine)
 (hs:∀i x ys H,xs[i]? = some x->Pv i ys H->g x (List.replicate own none++cv.map some) H fun σ2 H2=>(σ2.length=own+cv.length/\σ2.drop own=cv.map some) /\
  ti σ2 H2 fun b H3=>if b=true then te σ2 H3 fun y H4=>H4 D=some (.lst ys)/\Pv (i+1) (ys++[y]) (upd H4 D (.lst (ys++[y]))) else Pv (i+1) ys H3)
 (hd:∀ys H,Pv xs.length ys H->Q (.ref D) H) :
 zFk (Itl K a) own cv g ti te D H1 Q:=by
 refine⟨fun i m ys H=>m=xs.length-i/\i<=xs.length/\Pv i ys H,⟨xs.length,rfl,zj _,h0⟩,?_⟩
 rintro i m ys H ⟨rfl,hi,p⟩
 have q:=hl i ys H p
 by_cases hlt:i<xs.length
 . refine .inr ⟨⟨xs,xs[i],q,by simp[hlt]⟩,hz i ys H p,Pv (i+1),fun ys' H' p'=>⟨xs.length-(i+1),by omega,rfl,hlt,p'⟩,fun x H' y=>?_⟩
   obtain⟨e,y⟩:=y
   subst e
   exact hs i x ys _ (y xs q) p
 . have e:i=xs.length:=by omega
   subst e
   exact .inl ⟨⟨xs,q,zM _⟩,hd ys H p⟩
theorem zB8 {K:PySem.W.Frag}{a:Addr}{xs:List V}{own:Nat}{g:TG}{ti:TT}{te:TE}{cv:List V}{D:Addr}{H1:Hp}{Q:VK}(Pv:Nat->List V->Hp->Prop)(h0:Pv 0 [] (upd H1 D (.lst [])))(hl:∀i ys H,Pv i ys H->SqT K H a xs)(hz:∀i ys H,Pv i ys H->ys.length<sizeLine)
 (hs:∀i x ys H,xs[i]? = some x->Pv i ys H->g x (List.replicate own none++cv.map some) H fun σ2 H2=>(σ2.length=own+cv.length/\σ2.drop own=cv.map some) /\
  ti σ2 H2 fun b H3=>if b=true then te σ2 H3 fun y H4=>H4 D=some (.lst ys)/\Pv (i+1) (ys++[y]) (upd H4 D (.lst (ys++[y]))) else Pv (i+1) ys H3)
 (hd:∀ys H,Pv xs.length ys H->Q (.ref D) H) :
 zFk (Itt K a) own cv g ti te D H1 Q:=by
 refine⟨fun i m ys H=>m=xs.length-i/\i<=xs.length/\Pv i ys H,⟨xs.length,rfl,zj _,h0⟩,?_⟩
 rintro i m ys H ⟨rfl,hi,p⟩
 have q:=hl i ys H p
 by_cases hlt:i<xs.length
 . refine .inr ⟨⟨xs,xs[i],q,by simp[hlt]⟩,hz i ys H p,Pv (i+1),fun ys' H' p'=>⟨xs.length-(i+1),by omega,rfl,hlt,p'⟩,fun x H' y=>?_⟩
   obtain⟨e,y⟩:=y
   subst e
   exact hs i x ys _ (y xs q) p
 . have e:i=xs.length:=by omega
   subst e
   exact .inl ⟨⟨xs,q,zM _⟩,hd ys H p⟩
theorem zBh {lo:Int}{n own:Nat}{g:TG}{ti:TT}{te:TE}{cv:List V}{D:Addr}{H1:Hp}{Q:VK}(Pv:Nat->List V->Hp->Prop)(h0:Pv 0 [] (upd H1 D (.lst [])))(hz:∀i ys H,Pv i ys H->ys.length<sizeLine)
 (hs:∀i ys H,i<n->Pv i ys H->g (.int (lo+i)) (List.replicate own none++cv.map some) H fun σ2 H2=>(σ2.length=own+cv.length/\σ2.drop own=cv.map some) /\
  ti σ2 H2 fun b H3=>if b=true then te σ2 H3 fun y H4=>H4 D=some (.lst ys)/\Pv (i+1) (ys++[y]) (upd H4 D (.lst (ys++[y]))) else Pv (i+1) ys H3)
 (hd:∀ys H,Pv n ys H->Q (.ref D) H) :
 zFk (Itr lo n) own cv g ti te D H1 Q:=by
 refine⟨fun i m ys H=>m=n-i/\i<=n/\Pv i ys H,⟨n,rfl,zj _,h0⟩,?_⟩
 rintro i m ys H ⟨rfl,hi,p⟩
 by_cases hlt:i<n
 . refine .inr ⟨hlt,hz i ys H p,Pv (i+1),fun ys' H' p'=>⟨n-(i+1),by omega,rfl,hlt,p'⟩,fun x H' y=>?_⟩
   obtain⟨e,y⟩:=y
   subst e
   subst y
   exact hs i ys _ hlt p
 . have e:i=n:=by omega
   subst e
   exact .inl ⟨zM _,hd ys H p⟩
end L2
namespace SortT
open PySem.W PyProof.Rows
noncomputable def ev {α:Type}(lt:Nat->Nat->Bool):KasT α->α
 | .ret a=>a
 | .ask i j k=>ev lt (k (lt i j))
theorem zC6 {α β:Type}(lt:Nat->Nat->Bool)(f:α->KasT β):∀t:KasT α,ev lt (t.bind f)=ev lt (f (ev lt t))
 | .ret _=>rfl
 | .ask i j k=>zC6 lt f (k (lt i j))
section
variable {O:KeyOrd}{key:Nat->O.α}
noncomputable def kk (key:Nat->O.α)(p:Array Nat)(i:Nat):O.α:=key (p.getD i 0)
noncomputable def Sr (key:Nat->O.α)(p:Array Nat)(n:Nat):Prop:=∀i j,i<=j->j<n->O.kle (kk key p i) (kk key p j)
noncomputable def Fl (key:Nat->O.α)(p:Array Nat)(n:Nat):Prop:=∀i j,i<=j->j<n->O.kle (kk key p j) (kk key p i)
theorem zCm {p q:Array Nat}{i j:Nat}(h:p[i]? = q[j]?):kk key p i=kk key q j:=by
 unfold kk;rw[Array.getD_eq_getD_getElem?,Array.getD_eq_getD_getElem?,h]
theorem zH0 {p:Array Nat}{i j:Nat}(hj:j<=p.size)(k:Nat):kk key (kas_rev p i j) k=if i<=k/\k<j then kk key p (i+j-1-k) else kk key p k:=by
 have e:=getElem?_mirror_all (i:=i) hj k
 unfold kas_rev
 by_cases h1:i<=k/\k<j
 . rw[if_pos h1] at e ⊢;exact zCm e
 . rw[if_neg h1] at e ⊢;exact zCm e
theorem zDd {p:Array Nat}{i j:Nat}(hj:j<=p.size)(he:∀k,i<=k->k<j->kk key p k=kk key p (j-1))(k:Nat):kk key (kas_rev p i j) k=kk key p k:=by
 rw[zH0 hj]
 split
 . rw[he _ (by omega) (by omega),he k (by omega) (by omega)]
 . rfl
theorem zFN {p:Array Nat}{src d:Nat}(hs:src<p.size)(hd:d<=src)(k:Nat) :
 kk key (bubble p src d) k=if k=src-d then kk key p src else if src-d<k/\k<=src then kk key p (k-1) else kk key p k:=by
 have e:=getElem?_bubble hs d hd k
 by_cases h1:k=src-d
 . rw[if_pos h1] at e ⊢;exact zCm e
 . rw[if_neg h1] at e ⊢
   by_cases h2:src-d<k/\k<=src
   . rw[if_pos h2] at e ⊢;exact zCm e
   . rw[if_neg h2] at e ⊢;exact zCm e
noncomputable def lt_ (key:Nat->O.α)(i j:Nat):Bool:=O.blt (key i) (key j)
theorem zBs (p:Array Nat)(i j:Nat):(kas_rev p i j).Perm p:=mirror_perm _ _ _ _
theorem zEg (p:Array Nat)(i j:Nat):(kas_rev p i j).size=p.size:=(zBs p i j).size_eq
theorem zIb {p:Array Nat}:∀(f n:Nat),1<=n->Sr key p n->∃m,ev (lt_ key) (kas_asc p f n)=m/\n<=m/\m<=n+f/\Sr key p m/\(m=n+f\/O.klt (kk key p m) (kk key p (m-1)))
 | 0,n,_,hs=>⟨n,rfl,zM _,zM _,hs,.inl rfl⟩
 | f+1,n,h1,hs=>by
  show ∃m,ev (lt_ key) (if lt_ key (p.getD n 0) (p.getD (n-1) 0)=true then KasT.ret n else kas_asc p f (n+1))=m/\_
  cases hl:lt_ key (p.getD n 0) (p.getD (n-1) 0) with
  | true=>exact⟨n,by simp[ev],zM _,by omega,hs,.inr hl⟩
  | false=>
   have hs':Sr key p (n+1):=fun i j hij hj=>by
    by_cases hjn:j<n
    . exact hs i j hij hjn
    . have hj':j=n:=by omega
      subst hj'
      by_cases hi':i=j
      . subst hi';exact KeyOrd.kle_refl _
      . exact KeyOrd.kle_trans (hs i (j-1) (by omega) (by omega)) hl
   obtain⟨m,e,a,b,c,d⟩:=zIb f (n+1) (by omega) hs'
   refine⟨m,by simpa using e,by omega,by omega,c,?_⟩
   rcases d with d | d
   . exact .inl (by omega)
   . exact .inr d
theorem zGE {p:Array Nat}{n nrem:Nat}(h1:1<=n)(hn:n<=nrem)(hz:nrem<=p.size)(hs:Fl key p n) :
 ∃m q,ev (lt_ key) (kas_tail3 n nrem p)=(m,q)/\q.Perm p/\1<=m/\m<=nrem/\Sr key q m:=by
 unfold kas_tail3
 have hs':Sr key (kas_rev p 0 n) n:=fun i j hij hj=>by
  rw[zH0 (by omega),zH0 (by omega),if_pos (by omega),if_pos (by omega)]
  exact hs _ _ (by omega) (by omega)
 obtain⟨m,e,a,b,c,_⟩:=zIb (nrem-n) n h1 hs'
 exact⟨m,kas_rev p 0 n,by rw[zC6,e];rfl,zBs _ _ _,by omega,by omega,c⟩
theorem zEs:∀(f n q:Nat)(p:Array Nat),1<=n->n+f<=p.size->Fl key p n->q+1<=n->(∀i,n-(q+1)<=i->i<n->kk key p i=kk key p (n-1)) ->
 ∃p' n' q',ev (lt_ key) (kas_desc f p n q)=(p',n',q')/\p'.Perm p/\n<=n'/\n'<=n+f/\Fl key p' n'/\q'+1<=n'/\(∀i,n'-(q'+1)<=i->i<n'->kk key p' i=kk key p' (n'-1))
 | 0,n,q,p,_,_,hs,hq,he=>⟨p,n,q,rfl,.refl _,zM _,zM _,hs,hq,he⟩
 | f+1,n,q,p,h1,hz,hs,hq,he=>by
  show ∃p' n' q',ev (lt_ key) (if lt_ key (p.getD n 0) (p.getD (n-1) 0)=true then _ else KasT.ask _ _ _)=(p',n',q')/\_
  cases hl:lt_ key (p.getD n 0) (p.getD (n-1) 0) with
  | true=>
   have step:∀xs:Array Nat,(∀k,kk key xs k=kk key p k)->Fl key xs (n+1):=fun xs hk i j hij hj=>by
    rw[hk,hk]
    by_cases hjn:j<n
    . exact hs i j hij hjn
    . have hj':j=n:=by omega
      subst hj'
      by_cases hi':i=j
      . subst hi';exact KeyOrd.kle_refl _
      . exact KeyOrd.kle_trans (KeyOrd.kle_of_klt hl) (hs i (j-1) (by omega) (by omega))
   by_cases hq0:q > 0
   . have hk:=zDd (key:=key) (p:=p) (i:=n-(q+1)) (j:=n) (by omega) he
     obtain⟨p',n',q',e,a,b,c,d⟩:=zEs f (n+1) 0 (kas_rev p (n-(q+1)) n) (by omega) (by rw[zEg];omega) (step _ hk) (by omega) (fun i h1 h2=>by congr 1;omega)
     exact⟨p',n',q',by simpa [hq0] using e,a.trans (zBs _ _ _),by omega,by omega,d⟩
   . obtain⟨p',n',q',e,a,b,c,d⟩:=zEs f (n+1) 0 p (by omega) (by omega) (step _ fun _=>rfl) (by omega) (fun i h1 h2=>by congr 1;omega)
     exact⟨p',n',q',by simpa [hq0] using e,a,by omega,by omega,d⟩
  | false=>
   show ∃p' n' q',ev (lt_ key) (if lt_ key (p.getD (n-1) 0) (p.getD n 0)=true then KasT.ret (p,n,q) else kas_desc f p (n+1) (q+1))=(p',n',q')/\_
   cases hr:lt_ key (p.getD (n-1) 0) (p.getD n 0) with
   | true=>exact⟨p,n,q,by simp[ev],.refl _,zM _,by omega,hs,hq,he⟩
   | false=>
    have heq:kk key p n=kk key p (n-1):=KeyOrd.kle_antisymm hr hl
    have hs':Fl key p (n+1):=fun i j hij hj=>by
     by_cases hjn:j<n
     . exact hs i j hij hjn
     . have hj':j=n:=by omega
       subst hj'
       by_cases hi':i=j
       . subst hi';exact KeyOrd.kle_refl _
       . rw[heq];exact hs i (j-1) (by omega) (by omega)
    obtain⟨p',n',q',e,a,b,c,d⟩:=zEs f (n+1) (q+1) p (by omega) (by omega) hs' (by omega) (fun i h1 h2=>by
     rw[show n+1-1=n by omega]
     by_cases hix:i=n
     . subst hix;rfl
     . rw[heq];exact he i (by omega) (by omega))
    exact⟨p',n',q',by simpa using e,a,by omega,by omega,d⟩
theorem zDm {p:Array Nat}{n nrem:Nat}(hn:n+1<=nrem)(hz:nrem<=p.size)(hs:Fl key p (n+1)) :
 ∃m q,ev (lt_ key) (kas_descPart n nrem p)=(m,q)/\q.Perm p/\1<=m/\m<=nrem/\Sr key q m:=by
 unfold kas_descPart
 rw[zC6]
 obtain⟨p',n',q',e,a,b,c,d,hq,he⟩:=zEs (nrem-(n+1)) (n+1) 0 p (by omega) (by omega) hs (by omega) (fun i h1 h2=>by congr 1;omega)
 rw[e]
 dsimp only
 have hz':p'.size=p.size:=a.size_eq
 by_cases hq0:q' > 0
 . rw[if_pos hq0]
   have hk:=zDd (key:=key) (p:=p') (i:=n'-(q'+1)) (j:=n') (by omega) he
   obtain⟨m,r,e2,a2,b2,c2,d2⟩:=zGE (key:=key) (p:=kas_rev p' (n'-(q'+1)) n') (n:=n') (nrem:=nrem) (by omega) (by omega) (by rw[zEg];omega) (fun i j hij hj=>by rw[hk,hk];exact d i j hij hj)
   exact⟨m,r,e2,a2.trans ((zBs _ _ _).trans a),b2,c2,d2⟩
 . rw[if_neg hq0]
   obtain⟨m,r,e2,a2,b2,c2,d2⟩:=zGE (key:=key) (p:=p') (n:=n') (nrem:=nrem) (by omega) (by omega) (by omega) d
   exact⟨m,r,e2,a2.trans a,b2,c2,d2⟩
theorem zJe {p:Array Nat}{nrem:Nat}(h1:1<=nrem)(hz:nrem<=p.size):∃m q,ev (lt_ key) (kas_count nrem p)=(m,q)/\q.Perm p/\1<=m/\m<=nrem/\Sr key q m:=by
 unfold kas_count
 rw[zC6]
 obtain⟨n,e,a,b,hsn,hor⟩:=zIb (key:=key) (p:=p) (nrem-1) 1 (zM _) (fun i j hij hj=>by have:i=j:=(by omega);subst this;exact KeyOrd.kle_refl _)
 rw[e]
 by_cases hnn:n=nrem
 . rw[if_pos (by simpa using hnn)]
   exact⟨n,p,rfl,.refl _,a,by omega,hsn⟩
 . rw[if_neg (by simpa using hnn)]
   have hlt:O.klt (kk key p n) (kk key p (n-1)):=hor.resolve_left (by omega)
   by_cases hgt:n > 1
   . rw[if_pos hgt]
     show ∃m q,ev (lt_ key) (if lt_ key (p.getD 0 0) (p.getD (n-1) 0)=true then KasT.ret (n,p) else kas_descPart n nrem (kas_rev p 0 n))=(m,q)/\_
     cases hr:lt_ key (p.getD 0 0) (p.getD (n-1) 0) with
     | true=>exact⟨n,p,by simp[ev],.refl _,a,by omega,hsn⟩
     | false=>
      have hall:∀k,0<=k->k<n->kk key p k=kk key p (n-1):=fun k _ hk=>
       KeyOrd.kle_antisymm (hsn k (n-1) (by omega) (by omega)) (KeyOrd.kle_trans hr (hsn 0 k (by omega) hk))
      have hk:=zDd (key:=key) (p:=p) (i:=0) (j:=n) (by omega) hall
      obtain⟨m,q,e2,a2,b2,c2,d2⟩:=zDm (key:=key) (p:=kas_rev p 0 n) (n:=n) (nrem:=nrem) (by omega) (by rw[zEg];omega) (fun i j hij hj=>by
       rw[hk,hk]
       by_cases hjn:j<n
       . rw[hall i (by omega) (by omega),hall j (by omega) hjn];exact KeyOrd.kle_refl _
       . have hj':j=n:=by omega
         subst hj'
         by_cases hi':i=j
         . subst hi';exact KeyOrd.kle_refl _
         . rw[hall i (by omega) (by omega)];exact KeyOrd.kle_of_klt hlt)
      exact⟨m,q,by simpa using e2,a2.trans (zBs _ _ _),b2,c2,d2⟩
   . rw[if_neg hgt]
     have hn1:n=1:=by omega
     subst hn1
     refine zDm (by omega) hz fun i j hij hj=>?_
     by_cases hi':i=j
     . subst hi';exact KeyOrd.kle_refl _
     . have hi0:i=0:=by omega
       have hj1:j=1:=by omega
       subst hi0;subst hj1
       exact KeyOrd.kle_of_klt hlt
theorem zEh {p:Array Nat}{k:Nat}(hs:Sr key p k):∀(f l r:Nat),l<=r->r<=k->r-l<=f->(∀i,i<l->O.kle (kk key p i) (kk key p k))->(∀i,r<=i->i<k->O.klt (kk key p k) (kk key p i)) ->
 ∃m,ev (lt_ key) (kas_place p k f l r)=m/\m<=k/\(∀i,i<m->O.kle (kk key p i) (kk key p k))/\(∀i,m<=i->i<k->O.klt (kk key p k) (kk key p i))
 | 0,l,r,hlr,hrk,hf,hlo,hhi=>⟨l,rfl,by omega,hlo,fun i h1 h2=>hhi i (by omega) h2⟩
 | f+1,l,r,hlr,hrk,hf,hlo,hhi=>by
  unfold kas_place
  by_cases hge:l ≥ r
  . rw[if_pos hge]
    exact⟨l,rfl,by omega,hlo,fun i h1 h2=>hhi i (by omega) h2⟩
  . rw[if_neg hge]
    show ∃m,ev (lt_ key) (if lt_ key (p.getD k 0) (p.getD ((l+r)/2) 0)=true then kas_place p k f l ((l+r)/2) else kas_place p k f ((l+r)/2+1) r)=m/\_
    cases hl:lt_ key (p.getD k 0) (p.getD ((l+r)/2) 0) with
    | true=>
     obtain⟨m,e,x⟩:=zEh hs f l ((l+r)/2) (by omega) (by omega) (by omega) hlo (fun i h1 h2=>KeyOrd.klt_of_klt_of_kle hl (hs _ _ h1 h2))
     exact⟨m,by simpa using e,x⟩
    | false=>
     obtain⟨m,e,x⟩:=zEh hs f ((l+r)/2+1) r (by omega) (by omega) (by omega) (fun i h1=>KeyOrd.kle_trans (hs i ((l+r)/2) (by omega) (by omega)) (show O.kle _ _ from hl)) hhi
     exact⟨m,by simpa using e,x⟩
theorem zKL:∀(f:Nat)(p:Array Nat)(k:Nat),k+f=p.size->Sr key p k->∃q,ev (lt_ key) (kas_bin f p k)=q/\q.Perm p/\Sr key q (k+f)
 | 0,p,k,_,hs=>⟨p,rfl,.refl _,hs⟩
 | f+1,p,k,hz,hs=>by
  unfold kas_bin
  rw[zC6]
  obtain⟨l,e,hlk,hlo,hhi⟩:=zEh (key:=key) hs k 0 k (by omega) (by omega) (by omega) (fun i h=>by omega) (fun i h1 h2=>by omega)
  rw[e]
  have hs':Sr key (bubble p k (k-l)) (k+1):=fun i j hij hj=>by
   rw[zFN (by omega) (by omega),zFN (by omega) (by omega),show k-(k-l)=l by omega]
   repeat' split
   all_goals first
    | (exfalso;omega)
    | exact KeyOrd.kle_refl _
    | exact hlo _ (by omega)
    | exact KeyOrd.kle_of_klt (hhi _ (by omega) (by omega))
    | exact hs _ _ (by omega) (by omega)
  obtain⟨q,e2,a,b⟩:=zKL f (bubble p k (k-l)) (k+1) (by rw[(bubble_perm p k (k-l)).size_eq];omega) hs'
  exact⟨q,e2,a.trans (bubble_perm _ _ _),by rw[show k+(f+1)=k+1+f by omega];exact b⟩
theorem zKi (n:Nat)(h1:1<=n):∃q,ev (lt_ key) (kas_sort n)=q/\q.Perm (List.range n).toArray/\Sr key q n:=by
 unfold kas_sort
 rw[zC6]
 have hz:(List.range n).toArray.size=n:=by simp
 obtain⟨m,q,e,a,b,c,d⟩:=zJe (key:=key) (p:=(List.range n).toArray) h1 (by omega)
 rw[e]
 dsimp only
 have hq:q.size=n:=by rw[a.size_eq,hz]
 by_cases hm:m<n
 . rw[if_pos hm]
   obtain⟨r,e2,a2,b2⟩:=zKL (key:=key) (n-max m 1) q (max m 1) (by omega) (by rw[show max m 1=m by omega];exact d)
   exact⟨r,e2,a2.trans a,by rw[show max m 1+(n-max m 1)=n by omega] at b2;exact b2⟩
 . rw[if_neg hm]
   have:m=n:=by omega
   subst this
   exact⟨q,rfl,a,d⟩
end
end SortT
namespace SortT
open PySem.W PyProof.Rows
noncomputable def zD4 {α:Type}(n:Nat)(R:α->Prop):KasT α->Prop
 | .ret a=>R a
 | .ask i j k=>i<n/\j<n/\∀b,zD4 n R (k b)
theorem zD4.bind {α β:Type}{n:Nat}{R:α->Prop}{R':β->Prop}{f:α->KasT β}(hf:∀a,R a->zD4 n R' (f a)):∀(t:KasT α),zD4 n R t->zD4 n R' (t.bind f)
 | .ret a,h=>hf a h
 | .ask _ _ k,h=>⟨h.1,h.2.1,fun b=>zD4.bind hf (k b) (h.2.2 b)⟩
noncomputable def Bd (n:Nat)(p:Array Nat):Prop:=∀i,p.getD i 0<n
theorem Bd.perm {n:Nat}{p q:Array Nat}(h:Bd n q)(hp:p.Perm q):Bd n p:=fun i=>by
 have h0:0<n:=zBE (zj _) (h 0)
 by_cases hi:i<p.size
 . have e:p.getD i 0=p[i]:=by simp[Array.getD,hi]
   rw[e]
   have hm:p[i]∈q.toList:=(Array.perm_iff_toList_perm.mp hp).mem_iff.mp (by simp)
   obtain⟨j,hj,ej⟩:=zAT hm
   have hj':j<q.size:=by simpa using hj
   have:=h j
   rw[show q.getD j 0=q[j] by simp[Array.getD,hj']] at this
   rw[<-ej]
   simpa using this
 . have e:p.getD i 0=0:=by simp[Array.getD,hi]
   rw[e];exact h0
theorem zF9 {n:Nat}{p:Array Nat}(hp:Bd n p):∀f m,zD4 n (fun _=>True) (kas_asc p f m)
 | 0,_=>trivial
 | f+1,m=>⟨hp _,hp _,fun b=>by
  cases b with
  | true=>exact trivial
  | false=>exact zF9 hp f (m+1)⟩
theorem zDP {n:Nat}:∀(f:Nat)(p:Array Nat)(m q:Nat),Bd n p->zD4 n (fun r=>Bd n r.1) (kas_desc f p m q)
 | 0,_,_,_,hp=>hp
 | f+1,p,m,q,hp=>⟨hp _,hp _,fun b=>by
  cases b with
  | true=>
   show zD4 n _ (if q > 0 then kas_desc f (kas_rev p (m-(q+1)) m) (m+1) 0 else kas_desc f p (m+1) 0)
   split
   . exact zDP f _ _ _ (hp.perm (zBs _ _ _))
   . exact zDP f _ _ _ hp
  | false=>
   refine⟨hp _,hp _,fun d=>?_⟩
   cases d with
   | true=>exact hp
   | false=>exact zDP f _ _ _ hp⟩
theorem zE5 {n m nrem:Nat}{p:Array Nat}(hp:Bd n p):zD4 n (fun r=>Bd n r.2) (kas_tail3 m nrem p):=by
 unfold kas_tail3
 exact zD4.bind (R:=fun _=>True) (R':=fun r=>Bd n r.2) (f:=fun k=>KasT.ret (k,kas_rev p 0 m)) (fun a _=>hp.perm (zBs p 0 m)) _ (zF9 (hp.perm (zBs p 0 m)) _ _)
theorem zDF {n m nrem:Nat}{p:Array Nat}(hp:Bd n p):zD4 n (fun r=>Bd n r.2) (kas_descPart m nrem p):=
 zD4.bind (fun r hr=>by
  split
  . exact zE5 (hr.perm (zBs _ _ _))
  . exact zE5 hr) _ (zDP _ _ _ _ hp)
theorem zIO {n nrem:Nat}{p:Array Nat}(hp:Bd n p):zD4 n (fun r=>Bd n r.2) (kas_count nrem p):=
 zD4.bind (fun r _=>by
  split
  . exact hp
  . split
    . refine⟨hp _,hp _,fun b=>?_⟩
      cases b with
      | true=>exact hp
      | false=>exact zDF (hp.perm (zBs _ _ _))
    . exact zDF hp) _ (zF9 hp _ _)
theorem zDV {n k:Nat}{p:Array Nat}(hp:Bd n p):∀f l r,zD4 n (fun _=>True) (kas_place p k f l r)
 | 0,_,_=>trivial
 | f+1,l,r=>by
  unfold kas_place
  split
  . exact trivial
  . refine⟨hp _,hp _,fun b=>?_⟩
    cases b with
    | true=>exact zDV hp f _ _
    | false=>exact zDV hp f _ _
theorem zIX {n:Nat}:∀(f:Nat)(p:Array Nat)(k:Nat),Bd n p->zD4 n (fun _=>True) (kas_bin f p k)
 | 0,_,_,_=>trivial
 | f+1,p,k,hp=>zD4.bind (fun l _=>zIX f _ _ (hp.perm (bubble_perm _ _ _))) _ (zDV hp _ _ _)
theorem zIt {n:Nat}(h:0<n):zD4 n (fun _=>True) (kas_sort n):=
 zD4.bind (fun r hr=>by
  split
  . exact zIX _ _ _ hr
  . exact trivial) _ (zIO fun i=>by
    by_cases hi:i<n
    . simp[Array.getD,hi]
    . simp[Array.getD,hi];exact h)
end SortT
namespace SortT
open PySem PySem.W PySem.Calls PyProof.Rows
theorem wp_ev {α:Type}{cmp:Nat->Nat->(Bool->Shared->Prop)->Shared->Prop}{lt:Nat->Nat->Bool}{n:Nat}{s:Shared}(hc:∀i j C,i<n->j<n->C (lt i j) s->cmp i j C s){R:α->Prop}{Q:α->Shared->Prop} :
 ∀t:KasT α,zD4 n R t->Q (ev lt t) s->t.kasWp cmp Q s
 | .ret _,_,h=>h
 | .ask i j k,w,h=>hc i j _ w.1 w.2.1 (wp_ev hc (k (lt i j)) (w.2.2 _) h)
section
variable {prog:Program}{w:World}{A:Around}{E:Value->Shared->Prop}{s:Shared}
structure Put {O:KeyOrd}(key:Nat->O.α)(n:Nat)(out:List Nat):Prop where
 perm:out.Perm (List.range n)
 rise:∀(i j a b:Nat),i<=j->out[i]? = some a->out[j]? = some b->O.kle (key a) (key b)
theorem put_of {O:KeyOrd}{key:Nat->O.α}{n:Nat}{q:Array Nat}(hp:q.Perm (List.range n).toArray)(hs:Sr key q n):Put key n q.toList:=by
 have hl:q.toList.Perm (List.range n):=Array.perm_iff_toList_perm.mp hp
 refine⟨hl,fun i j a b hij ha hb=>?_⟩
 have hz:q.size=n:=by have:=hp.size_eq;simpa using this
 have hj:j<q.toList.length:=(zL.mp hb).1
 have hj':j<n:=by rw[<-hz];simpa using hj
 have h:=hs i j hij hj'
 have ga:q.getD i 0=a:=by
  rw[Array.getD_eq_getD_getElem?,<-Array.getElem?_toList,ha];rfl
 have gb:q.getD j 0=b:=by
  rw[Array.getD_eq_getD_getElem?,<-Array.getElem?_toList,hb];rfl
 unfold kk at h
 rw[ga,gb] at h
 exact h
structure Asks (prog:Program)(w:World)(A:Around)(s:Shared)(a:Addr)(vs:List Value){O:KeyOrd}(key:Nat->O.α)(κ:SortKind):Prop where
 kind:∀(h':Heap)(Q:SortKind->Shared->Prop)(E:Value->Shared->Prop),(∀b o,b≠a->s.heap.get? b=some o->h'.get? b=some o)->Q κ { s with heap:=h' }->wpAny (model prog w) A (keyKind' vs.toArray) Q E { s with heap:=h' }
 less:∀(h':Heap)(i j:Nat)(Q:Bool->Shared->Prop)(E:Value->Shared->Prop),(∀b o,b≠a->s.heap.get? b=some o->h'.get? b=some o)->i<vs.length->j<vs.length->Q (O.blt (key i) (key j)) { s with heap:=h' } ->
  wpAny (model prog w) A (keyLt' κ (vs.getD i Value.none) (vs.getD j Value.none)) Q E { s with heap:=h' }
theorem zFK {a:Addr}{vs:List Value}{n:Nat}{P:PySem.Fin->Shared->Prop}{O:KeyOrd}{key:Nat->O.α}{κ:SortKind}(ho:s.heap.get? a=some (seqObj "list" vs.toArray n)) (h64:vs.length<64)
 (ask:2<=vs.length->Asks prog w A s a vs key κ)
 (h:∀out:List Nat,Put key vs.length out->P (.done (.ret .none)) { s with heap:=sortedHeap s.heap a vs (out.map fun i=>vs.getD i Value.none).toArray }) :
 wpAny (model prog w) A (Builtin.«list.sort» ⟨[.ref a],[]⟩) P E s:=by
 rw[list_sort_plain]
 have ha:a<s.heap.objs.size:=zS ho
 refine zA (listItems_at ho rfl ?_)
 refine zA (listUpdate_at ho rfl ?_ (by rw[zI,sizeLine_eq];omega) (zj _))
 obtain⟨e1,ho1⟩:∃e1,(s.heap.update a (Obj.mapSeq fun _=>#[])).get? a=some (seqObj "list" #[] e1):=⟨_,get?_update_seq ho (fun _=>#[])⟩
 refine zA (seqEpoch_at ho1 rfl ?_)
 refine zA (wpAny_newTuple ?_ (by show vs.length<=_;rw[sizeLine_eq];omega))
 refine zA (wpAny_newList ?_ (zj _))
 refine zAa ?_
 have ho6:(((s.heap.update a (Obj.mapSeq fun _=>#[])).push (seqObj "tuple" vs.toArray 0)).push (seqObj "list" #[] 0)).get? a=some (seqObj "list" #[] e1):=by
  rw[Heap.get?_push_ne _ _ _ (by rw[size_push',Heap.size_update];exact zW (zBN ha)),Heap.get?_push_ne _ _ _ (by rw[Heap.size_update];exact zW ha)]
  exact ho1
 have keep:∀b o,b≠a->s.heap.get? b=some o->(((s.heap.update a (Obj.mapSeq fun _=>#[])).push (seqObj "tuple" vs.toArray 0)).push (seqObj "list" #[] 0)).get? b=some o:=fun b o hb e=>by
  refine zJ _ (zJ _ ?_)
  rw[Heap.get?_update_ne _ _ _ _ hb]
  exact e
 show wpAny (model prog w) A _ P E { s with heap:=((s.heap.update a (Obj.mapSeq fun _=>#[])).push (seqObj "tuple" vs.toArray 0)).push (seqObj "list" #[] 0) }
 dsimp only
 by_cases h2:vs.toArray.size<2
 . rw[if_pos h2,if_pos h2]
   refine zA (zG ?_)
   rw[StateT.run_pure]
   refine zA (zG ?_)
   dsimp only
   refine zA (seqEpoch_at ho6 rfl ?_)
   refine zA (listUpdate_at ho6 rfl ?_ (zj _) (by rw[Array.size_map];show (pairsOf vs).size<=_;rw[pairsOf_size,sizeLine_eq];omega))
   simp only[bne_self_eq_false,Bool.false_eq_true,if_false]
   refine zG ?_
   have hlen:vs.length<2:=by simpa using h2
   have hout:(arrOf (SortSt.mk' general' (vs.toArray.zip vs.toArray) #[] 7 none)).map (·.2)=((List.range vs.length).map fun i=>vs.getD i Value.none).toArray:=by
    show (vs.toArray.zip vs.toArray).map (·.2)=_
    match vs,hlen with
    | [],_=>simp
    | [v],_=>simp
    | _::_::_,h=>exfalso;simp only[zh] at h;omega
   have fin:=h (List.range vs.length) ⟨.refl _,fun i j x y hij hx hy=>by
    have hj:j<(List.range vs.length).length:=(zL.mp hy).1
    rw[zA4] at hj
    have e:i=j:=by omega
    subst e
    rw[hx] at hy
    cases hy
    exact KeyOrd.kle_refl _⟩
   rw[<-hout] at fin
   exact fin
 . rw[if_neg h2,if_neg h2]
   have h2':2<=vs.length:=by
    have:¬ vs.length<2:=by simpa using h2
    omega
   have K:=ask h2'
   refine zA (K.kind _ _ _ keep ?_)
   obtain⟨q,eq,hp,hs⟩:=zKi (key:=key) vs.length (by omega)
   have run:(kas_sort vs.length).kasWp (kas_ask prog w A κ vs) (fun p s'=>p=q/\s'={ s with heap:=((s.heap.update a (Obj.mapSeq fun _=>#[])).push (seqObj "tuple" vs.toArray 0)).push (seqObj "list" #[] 0) })
    { s with heap:=((s.heap.update a (Obj.mapSeq fun _=>#[])).push (seqObj "tuple" vs.toArray 0)).push (seqObj "list" #[] 0) }:=
    wp_ev (lt:=lt_ key) (n:=vs.length) (fun i j C hi hj hC=>K.less _ i j C _ keep hi hj hC) _ (zIt (by omega)) ⟨eq,rfl⟩
   refine zA (zAg (kat_run (ks:=vs) (vs:=vs) (Q:=fun st' s'=>∃p:Array Nat,p.size=vs.length/\arrOf st'=p.map (kas_item (vs.toArray.zip vs.toArray))/\failedOf st'=none/\p=q/\s'={ s with heap:=((s.heap.update a (Obj.mapSeq fun _=>#[])).push (seqObj "tuple" vs.toArray 0)).push (seqObj "list" #[] 0) })
    rfl h2' h64 (fun p' st' s' a1 a2 a3 a4=>⟨p',a1,a2,a3,a4⟩) run) ?_ fun _ _ e=>e)
   rintro ⟨⟨⟩,st'⟩ s' ⟨p,hsz,har,hf,rfl,rfl⟩
   dsimp only
   refine zA (seqEpoch_at ho6 rfl ?_)
   refine zA (listUpdate_at ho6 rfl ?_ (zj _) (by rw[Array.size_map,har,Array.size_map,hsz,sizeLine_eq];omega))
   rw[hf]
   simp only[bne_self_eq_false,Bool.false_eq_true,if_false]
   refine zG ?_
   have hout:=kat_snds (ks:=vs) (vs:=vs) rfl har
   have fin:=h p.toList (put_of hp hs)
   rw[<-hout] at fin
   exact fin
theorem sorted_list {l:Addr}{vs:List Value}{Q:Value->Shared->Prop}{O:KeyOrd}{key:Nat->O.α}{κ:SortKind}(hl:s.heap.IsList l vs.toArray)(h64:vs.length<64)
 (ask:2<=vs.length->∀(s':Shared)(a:Addr),(∀b o,s.heap.get? b=some o->b≠a)->(∀b o,s.heap.get? b=some o->s'.heap.get? b=some o)->Asks prog w A.in1.in1 s' a vs key κ)
 (h:∀(D:Addr)(h':Heap)(out:List Nat)(c:Nat),Put key vs.length out->s.heap.objs.size<=D->(∀b o,s.heap.get? b=some o->h'.get? b=some o) ->
  h'.get? D=some (seqObj "list" (out.map fun i=>vs.getD i Value.none).toArray c)->Q (.ref D) { s with heap:=h' }) :
 wpAny (model prog w) A (call (.builtin "sorted") [.ref l]) Q E s:=by
 refine Calls.call_function_entry kind_sorted plain_sorted entry_sorted (args_sorted1 _) ?_
 unfold Builtin.«sorted»
 refine zA (m:=checkCount "sorted" 1 1 _) (zG ?_)
 refine zA (collect_list hl ?_ (by rw[sizeLine_eq];omega))
 refine zA (wpAny_newList ?_ (by rw[sizeLine_eq];omega))
 have hsz:((s.heap.push (seqObj "list" #[] 0)).update s.heap.objs.size (Obj.mapSeq (· ++ vs.toArray))).objs.size=s.heap.objs.size+1:=by
  rw[Heap.size_update,size_push']
 have hoL:(((s.heap.push (seqObj "list" #[] 0)).update s.heap.objs.size (Obj.mapSeq (· ++ vs.toArray))).push (seqObj "list" vs.toArray 0)).get? (s.heap.objs.size+1)=some (seqObj "list" vs.toArray 0):=by
  rw[<-hsz];exact zP _ rfl
 have keep:∀b o,s.heap.get? b=some o->(((s.heap.push (seqObj "list" #[] 0)).update s.heap.objs.size (Obj.mapSeq (· ++ vs.toArray))).push (seqObj "list" vs.toArray 0)).get? b=some o:=fun b o q=>by
  have hlt:b<s.heap.objs.size:=zS q
  rw[Heap.get?_push_ne _ _ _ (by rw[hsz];exact zW (zBN hlt)),Heap.get?_update_ne _ _ _ _ (zW hlt),Heap.get?_push_ne _ _ _ (zW hlt)]
  exact q
 show wpAny _ _ _ _ _ { s with heap:=((s.heap.push (seqObj "list" #[] 0)).update s.heap.objs.size (Obj.mapSeq (· ++ vs.toArray))).push (seqObj "list" vs.toArray 0) }
 rw[hsz]
 refine zA (zAa (zAl slot_list_sort ⟨_,hoL,rfl⟩ entry_list_sort (zFK (O:=O) (key:=key) (κ:=κ) hoL h64 (fun h2=>ask h2 _ _ (fun b o e=>zW (zBN (zS e))) keep) fun out hp=>⟨_,rfl,?_⟩) (args_list_sort _)))
 refine zG ⟨_,rfl,?_⟩
 obtain⟨c,hc⟩:=sortedAll_at s.heap vs (out.map fun i=>vs.getD i Value.none).toArray
 exact h _ _ out c hp (Nat.le_succ _) (fun b o e=>sortedAll_old e) hc
end
end SortT
namespace DRaw
open PySem PySem.W PySem.Calls PyProof.Rows
noncomputable def At (h:Heap)(d:Addr)(es:Array DictEntry)(ep:Nat):Prop:=∃o,h.get? d=some o/\o.ExactDict/\o.data = .dict es ep
theorem At.keep {h h':Heap}{d:Addr}{es:Array DictEntry}{ep:Nat}(x:At h d es ep)(k:∀o,h.get? d=some o->h'.get? d=some o):At h' d es ep:=
 let ⟨o,ho,r⟩:=x;⟨o,k o ho,r⟩
theorem At.lt {h:Heap}{d:Addr}{es:Array DictEntry}{ep:Nat}(x:At h d es ep):d<h.objs.size:=let ⟨_,ho,_⟩:=x;zS ho
theorem At.typeIs {s:Shared}{d:Addr}{es:Array DictEntry}{ep:Nat}(x:At s.heap d es ep):s.TypeIs (.ref d) "dict" := let ⟨o,ho,hc,_⟩:=x;⟨o,ho,hc.1⟩
section
variable {prog:Program}{w:World}{A:Around}{E:Value->Shared->Prop}{s:Shared}{it d:Addr}{es:Array DictEntry}{i ep:Nat}
theorem iter {Q:Value->Shared->Prop}(hd:(d==sysModules)=false)(hm:At s.heap d es ep)
 (hQ:Q (.ref s.heap.objs.size) { s with heap:=s.heap.push { cls:=.type "dict_keyiterator",data:=.fields #[.ref d,.int 0 0,.int es.size 0,.int ep 0] } }) :
 wpAny (model prog w) A (pyIter (.ref d)) Q E s:=by
 obtain⟨o,ho,hc,hdat⟩:=id hm
 have hT:=hm.typeIs
 refine wpAny_pyIter_slot hT F.slot_dict_iter (zAl F.slot_dict_iter hT F.entry_dict_iter ?_ (F.args_dict_iter_1 _))
 unfold Builtin.«dict.__iter__»
 refine zA ?_
 unfold Builtin.Dict.dictSlotNone
 refine zA (wpAny_notOrdered_dict hT ?_)
 show wpAny _ _ (pure (Value.ref d)) _ _ s
 refine zG ?_
 show wpAny _ _ (Builtin.Dict.showsAll d >>= _) _ _ s
 unfold Builtin.Dict.showsAll
 rw[if_neg (by rw[hd];exact zT)]
 refine zA (zG ?_)
 refine zA (wpAny_dictEntries ho hdat ?_)
 refine zA (wpAny_dictEpoch ho hdat ?_)
 refine zA (zAo (zG ⟨_,rfl, "dict_keyiterator",_,⟨_,zP _ rfl,rfl⟩,F.slot_dict_keyiterator_next.lookup,?_⟩))
 simpa [rawInt] using hQ
theorem next {Q:Option Value->Shared->Prop}(hit:s.heap.IsKeyIter it d i es.size ep)(hm:At s.heap d es ep)(hlt':i<es.size)
 (hQ:∀h',h'.IsKeyIter it d (i+1) es.size ep->Heap.SameBut it s.heap h'->Q (some es[i].key) { s with heap:=h' }):wpAny (model prog w) A (pyNext (.ref it)) Q E s:=by
 obtain⟨o,ho,hc,hd⟩:=id hit
 obtain⟨od,hod,hcd,hdd⟩:=id hm
 unfold pyNext
 refine zA (wpAny_attempt (zAb (name:=Str.ofString "__next__") hit.typeIs F.slot_dict_keyiterator_next
  (zAl F.slot_dict_keyiterator_next hit.typeIs F.entry_dict_keyiterator_next ?_ (F.args_dict_keyiterator_next_1 _))))
 refine zA (zG ?_)
 refine zA ?_
 refine zA ?_
 first | refine zA (zBj hit.typeIs (zG ?_)) | refine zA (wpAny_typeNameOf_keyiter hit.typeIs (zG ?_))
 refine zA (wpAny_fieldsOf ho hd ?_)
 have hown:Builtin.Dict_items.ownsTuple "dict_keyiterator" = false:=by decide
 simp only[hown,Bool.false_eq_true,if_false]
 show wpAny _ _ (if (Value.ref d==Value.none)=true then _ else _) _ _ s
 rw[if_neg (show ¬ ((Value.ref d==Value.none)=true) from zT)]
 refine zA (zG ?_)
 refine zA (wpAny_dictEntries hod hdd ?_)
 rw[if_neg (by simp)]
 refine zA (zG ?_)
 refine zA (wpAny_dictEpoch hod hdd ?_)
 rw[if_neg (by simp)]
 refine zG ?_
 simp only[show ¬ ((i:Int)<0) from by omega,if_false,zBc,Array.getElem?_eq_getElem hlt']
 refine zA ?_
 first | refine zA (zBj hit.typeIs (zG ?_)) | refine zA (wpAny_typeNameOf_keyiter hit.typeIs (zG ?_))
 refine zA (wpAny_isOneOf_keyiter hit.typeIs ?_)
 show wpAny _ _ (setField (.ref it) 1 (rawInt ((i:Int)+1)) >>= _) _ _ s
 refine zA (wpAny_setField ho hd (by simp) ?_)
 have hit':(s.heap.update it (Obj.mapFields (·.setIfInBounds 1 (rawInt ((i:Int)+1))))).IsKeyIter it d (i+1) es.size ep:=
  ⟨_,Heap.get?_update_self _ ho (Obj.isFreed_of_fields (Obj.data_mapFields hd _)),(Obj.cls_mapFields ..).trans hc,by rw[Obj.data_mapFields hd];simp[rawInt]⟩
 refine zA (zAa ?_)
 refine zA (wpAny_isOneOf_keyiter (s:={ s with heap:=s.heap.update it (Obj.mapFields (·.setIfInBounds 1 (rawInt ((i:Int)+1)))) }) hit'.typeIs ?_)
 show wpAny _ _ (pure es[i].key) _ _ _
 exact zG (zG ⟨_,rfl,zG (hQ _ hit' (Heap.SameBut.update ..))⟩)
theorem stop {Q:Option Value->Shared->Prop}(hh:A.handled=none)(hit:s.heap.IsKeyIter it d i es.size ep)(hm:At s.heap d es ep)(hge:es.size<=i)
 (hQ:∀h',Heap.ExtBut it s.heap h'->Q none { s with heap:=h' }):wpAny (model prog w) A (pyNext (.ref it)) Q E s:=by
 obtain⟨o,ho,hc,hd⟩:=id hit
 obtain⟨od,hod,hcd,hdd⟩:=id hm
 unfold pyNext
 refine zA (wpAny_attempt (zAb (name:=Str.ofString "__next__") hit.typeIs F.slot_dict_keyiterator_next
  (zAl F.slot_dict_keyiterator_next hit.typeIs F.entry_dict_keyiterator_next ?_ (F.args_dict_keyiterator_next_1 _))))
 refine zA (zG ?_)
 refine zA ?_
 refine zA ?_
 first | refine zA (zBj hit.typeIs (zG ?_)) | refine zA (wpAny_typeNameOf_keyiter hit.typeIs (zG ?_))
 refine zA (wpAny_fieldsOf ho hd ?_)
 have hown:Builtin.Dict_items.ownsTuple "dict_keyiterator" = false:=by decide
 simp only[hown,Bool.false_eq_true,if_false]
 show wpAny _ _ (if (Value.ref d==Value.none)=true then _ else _) _ _ s
 rw[if_neg (show ¬ ((Value.ref d==Value.none)=true) from zT)]
 refine zA (zG ?_)
 refine zA (wpAny_dictEntries hod hdd ?_)
 rw[if_neg (by simp)]
 refine zA (zG ?_)
 refine zA (wpAny_dictEpoch hod hdd ?_)
 rw[if_neg (by simp)]
 refine zG ?_
 simp only[show ¬ ((i:Int)<0) from by omega,if_false,zBc,Array.getElem?_eq_none hge]
 refine zA ?_
 first | refine zA (zBj hit.typeIs (zG ?_)) | refine zA (wpAny_typeNameOf_keyiter hit.typeIs (zG ?_))
 show wpAny _ _ (setField (.ref it) 0 .none >>= _) _ _ s
 refine zA (wpAny_setField ho hd (by simp) ?_)
 show wpAny _ _ (newExc (.type "StopIteration") [] >>= _) _ _ _
 refine zA ?_
 simp only[newExc,newTuple]
 refine zA (zAo ?_ (by size_fits))
 refine zA (m:=firstArgMember _ _) (wpAny_of_eq (a:=Value.none) (by first | rfl | (simp only[firstArgMember];rfl)) ?_)
 refine zAo ?_ (by size_fits)
 simp only[raiseNew]
 refine zA (wpAny_handled ?_)
 rw[show A.in1.handled=none from hh]
 refine zA (zG (wpAny_throw ?_))
 refine zA (wpAny_isInstance (T := "StopIteration") (b:=true) ⟨_,zP _ rfl,rfl⟩ isSubtype_stop ?_)
 exact zG (hQ _ (((Heap.SameBut.update ..).extBut.push _).push _))
end
section
variable {prog:Program}{w:World}{A:Around}{d:Addr}{es:Array DictEntry}{ep:Nat}
theorem walks (hh:A.handled=none)(I:Addr)(hne:d≠I):Walks prog w A I [I,d] [I] es.size (fun i v=>∃e,es[i]? = some e/\v=e.key) (fun i h=>h.IsKeyIter I d i es.size ep/\At h d es ep) where
 sub:=fun b hb=>by simp at hb;simp[hb]
 frame:=fun _ _ _ st hk=>⟨st.1.at fun o e=>hk I (by simp) o e,st.2.keep fun o e=>hk d (by simp) o e⟩
 item:=fun i s Q E hi st hQ=>next st.1 st.2 hi fun h' hit' hs'=>
  hQ _ h' s.toks ⟨es[i],by simp[hi],rfl⟩ ⟨hit',st.2.keep fun o e=>hs'.extBut d o hne e⟩ fun b o hb e=>hs'.extBut b o (fun h=>hb (by simp[h])) e
 done:=fun s Q E st hQ=>stop hh st.1 st.2 (zM _) fun h' he'=>hQ h' s.toks fun b o hb e=>he' b o (fun h=>hb (by simp[h])) e
 self:=fun _ _ _ _ st hQ=>wpAny_pyIter_keyiter st.1 hQ
theorem src (lo:(d==sysModules)=false):KdlSrc prog w "dict" d d es.size (fun i v=>∃e,es[i]? = some e/\v=e.key) (fun h=>At h d es ep) where
 type:=fun _ hm=>hm.typeIs
 there:=fun _ hm=>⟨hm.lt,hm.lt⟩
 keep:=fun _ _ hm hk=>hm.keep fun o e=>hk d (.inl rfl) o e
 notList:=by decide
 notTuple:=by decide
 hint:=fun _ _ _ _ hm hq=>kdl_hint_dict hm.typeIs hq
 iter:=fun _ _ hh hm=>⟨_,_,(fun _ _ hq=>iter lo hm hq),walks hh _ (zW hm.lt),⟨⟨_,zP _ rfl,rfl,rfl⟩,hm.keep fun o e=>zJ _ e⟩⟩
end
end DRaw
namespace SortT
open PySem PySem.W PySem.Calls PyProof.Rows
theorem sorted_dict {prog:Program}{w:World}{A:Around}{E:Value->Shared->Prop}{s:Shared}{d:Addr}{es:Array DictEntry}{ep:Nat}{vs:List Value}{Q:Value->Shared->Prop}{O:KeyOrd}{key:Nat->O.α}{κ:SortKind}
 (hh:A.handled=none)(lo:(d==sysModules)=false)(hm:DRaw.At s.heap d es ep)(hvs:vs=es.toList.map (·.key))(h64:vs.length<64)
 (ask:2<=vs.length->∀(s':Shared)(a:Addr),(∀b o,s.heap.get? b=some o->b≠a)->(∀b o,s.heap.get? b=some o->s'.heap.get? b=some o)->Asks prog w A.in1.in1 s' a vs key κ)
 (h:∀(h1:Heap)(D:Addr)(h':Heap)(t':Nat)(out:List Nat)(c:Nat),Put key vs.length out->(∀b o,s.heap.get? b=some o->h1.get? b=some o)->h1.objs.size<=D->(∀b o,h1.get? b=some o->h'.get? b=some o) ->
  h'.get? D=some (seqObj "list" (out.map fun i=>vs.getD i Value.none).toArray c)->Q (.ref D) { s with heap:=h',toks:=t' }) :
 wpAny (model prog w) A (call (.builtin "sorted") [.ref d]) Q E s:=by
 have hlen:vs.length=es.size:=by rw[hvs];simp
 refine call_function_entry kind_sorted plain_sorted entry_sorted (args_sorted1 _) ?_
 unfold Builtin.«sorted»
 refine zA (m:=checkCount "sorted" 1 1 _) (zG ?_)
 refine zA (kdu_collect (A:=A.in1) (DRaw.src (es:=es) (ep:=ep) lo) hh hm (by rw[sizeLine_eq];omega) fun h1 tk acc hk hacc=>?_)
 have el:acc.toList=vs:=by
  apply List.ext_getElem?
  intro j
  by_cases hj:j<es.size
  . have hz:j<acc.size:=by rw[hacc.1];exact hj
    obtain⟨e,he,hv⟩:=hacc.2 j acc[j] (by simp[hz])
    rw[Array.getElem?_toList,Array.getElem?_eq_getElem hz,hv,hvs,zU,Array.getElem?_toList,he]
    rfl
  . rw[zAs (by rw[Array.length_toList,hacc.1];omega),zAs (by omega)]
 rw[el]
 refine zA (wpAny_newList ?_ (by rw[sizeLine_eq];omega))
 have hoL:(h1.push (seqObj "list" vs.toArray 0)).get? h1.objs.size=some (seqObj "list" vs.toArray 0):=zP _ rfl
 have keep1:∀b o,h1.get? b=some o->(h1.push (seqObj "list" vs.toArray 0)).get? b=some o:=fun b o q=>zJ _ q
 refine zA (zAa (zAl slot_list_sort ⟨_,hoL,rfl⟩ entry_list_sort (zFK (O:=O) (key:=key) (κ:=κ) hoL h64
  (fun h2=>ask h2 _ _ (fun b o e=>zW (zS (hk b o e))) fun b o e=>keep1 b o (hk b o e)) fun out hp=>⟨_,rfl,?_⟩) (args_list_sort _)))
 refine zG ⟨_,rfl,?_⟩
 obtain⟨c,hc⟩:=sortedHeap_at (vs:=vs) (out:=(out.map fun i=>vs.getD i Value.none).toArray) hoL
 refine h h1 _ _ _ out c hp hk (zM _) (fun b o e=>?_) hc
 have hb:b<h1.objs.size:=zS e
 rw[sortedHeap_old (zW hb) (by rw[zAj];exact zBN hb)]
 exact keep1 b o e
end SortT
namespace L2
open PySem PySem.Spec PyProof.Rows
theorem zEP:∀a:List Int,HT.lexLt a a=false
 | []=>rfl
 | x::r=>by rw[HT.lexLt_cons,if_pos rfl];exact zEP r
theorem zDb:∀a b c:List Int,HT.lexLt a b=true->HT.lexLt b c=true->HT.lexLt a c=true
 | [],[],_,h,_=>by cases h
 | [],_::_,[],_,h=>by cases h
 | [],_::_,_::_,_,_=>rfl
 | _::_,[],_,h,_=>by cases h
 | _::_,_::_,[],_,h=>by cases h
 | x::a,y::b,z::c,h1,h2=>by
  rw[HT.lexLt_cons] at h1 h2 ⊢
  by_cases e1:x=y
  . subst e1
    rw[if_pos rfl] at h1
    by_cases e2:x=z
    . subst e2
      rw[if_pos rfl] at h2 ⊢
      exact zDb a b c h1 h2
    . rw[if_neg e2] at h2 ⊢;exact h2
  . rw[if_neg e1] at h1
    have l1:x<y:=of_decide_eq_true h1
    by_cases e2:y=z
    . subst e2;rw[if_neg e1];exact h1
    . rw[if_neg e2] at h2
      have l2:y<z:=of_decide_eq_true h2
      rw[if_neg (by omega)]
      exact zZ (by omega)
theorem zCk:∀a b:List Int,HT.lexLt a b=false->HT.lexLt b a=false->a=b
 | [],[],_,_=>rfl
 | [],_::_,h,_=>by cases h
 | _::_,[],_,h=>by cases h
 | x::a,y::b,h1,h2=>by
  rw[HT.lexLt_cons] at h1 h2
  by_cases e:x=y
  . subst e
    rw[if_pos rfl] at h1 h2
    rw[zCk a b h1 h2]
  . rw[if_neg e] at h1
    rw[if_neg (Ne.symm e)] at h2
    have l1:=of_decide_eq_false h1
    have l2:=of_decide_eq_false h2
    omega
theorem zLa (a b c:List Int)(h:HT.lexLt a c=true):HT.lexLt a b=true\/HT.lexLt b c=true:=by
 cases h1:HT.lexLt a b with
 | true=>exact .inl rfl
 | false=>
  cases h2:HT.lexLt b a with
  | true=>exact .inr (zDb b a c h2 h)
  | false=>rw[<-zCk a b h1 h2];exact .inr h
noncomputable def zKD:KeyOrd:=⟨List Int,HT.lexLt,zEP,zDb,zLa,zCk⟩
noncomputable def zD5 (ms:List (List Int)):Prop:=ms.Pairwise fun a b=>HT.lexLt b a=false
noncomputable def zw (H:Hp):List V->List (List Int)->Prop
 | [],[]=>True
 | x::xs,k::ks=>(∃a,x = .ref a/\H a=some (.tup (k.map V.int))/\k≠[])/\zw H xs ks
 | _,_=>False
theorem zw.length {H:Hp}:∀{xs:List V}{ks:List (List Int)},zw H xs ks->xs.length=ks.length
 | [],[],_=>rfl
 | [],_::_,h=>h.elim
 | _::_,[],h=>h.elim
 | _::_,_::_,h=>by rw[zh,zh,zw.length h.2]
theorem zw.get {H:Hp}:∀{xs:List V}{ks:List (List Int)}{i:Nat}{x:V},zw H xs ks->xs[i]? = some x->∃a k,x = .ref a/\ks[i]? = some k/\H a=some (.tup (k.map V.int))/\k≠[]
 | [],_,_,_,_,h=>by simp at h
 | _::_,[],_,_,h,_=>h.elim
 | y::_,k::_,0,x,h,e=>by
  obtain⟨⟨a,h1,h2,h3⟩,_⟩:=h
  have e':y=x:=by simpa using e
  subst e'
  exact⟨a,k,h1,rfl,h2,h3⟩
 | _::_,_::_,i+1,x,h,e=>by
  obtain⟨a,k,h1,h2,h3⟩:=zw.get (i:=i) h.2 (by simpa using e)
  exact⟨a,k,h1,by simpa using h2,h3⟩
theorem zw.mk {H:Hp}:∀{xs:List V}{ks:List (List Int)},xs.length=ks.length->(∀(i:Nat)(x:V)(k:List Int),xs[i]? = some x->ks[i]? = some k->∃a,x=V.ref a/\H a=some (.tup (k.map V.int))/\k≠[])->zw H xs ks
 | [],[],_,_=>trivial
 | [],_::_,e,_=>by simp at e
 | _::_,[],e,_=>by simp at e
 | x::xs,k::ks,e,h=>⟨h 0 x k rfl rfl,zw.mk (by simpa using e) fun i x' k' h1 h2=>h (i+1) x' k' (by simpa using h1) (by simpa using h2)⟩
theorem zw.keep {H H':Hp}{xs:List V}{ks:List (List Int)}(h:zw H xs ks)(k:∀b ys,H b=some (.tup ys)->H' b=some (.tup ys)):zw H' xs ks:=
 zw.mk h.length fun i x c h1 h2=>by
  obtain⟨a,c',e1,e2,e3,e4⟩:=h.get h1
  rw[h2] at e2
  cases e2
  exact⟨a,e1,k a _ e3,e4⟩
theorem zw.snoc {H:Hp}:∀{xs:List V}{ks:List (List Int)}{x:V}{k:List Int},zw H xs ks->(∃a,x = .ref a/\H a=some (.tup (k.map V.int))/\k≠[])->zw H (xs++[x]) (ks++[k])
 | [],[],_,_,_,h=>⟨h,trivial⟩
 | [],_::_,_,_,t,_=>t.elim
 | _::_,[],_,_,t,_=>t.elim
 | _::_,_::_,_,_,t,h=>⟨t.1,zw.snoc t.2 h⟩
section
variable {prog:Program}{w:World}{A:Around}{s:Shared}
theorem zDf {fin:Bool}{Q:Bool->Shared->Prop}:∀(ns ms:List Int)(us ws:List Value)(i:Nat),IntsAre us ns->IntsAre ws ms->fin=decide (ns.length<ms.length)->Q (HT.lexLt ns ms) s ->
 PySem.W.KatLex prog w A true fin Q (us.zip ws) i s
 | [],[],_,_,_,.nil,.nil,e,q=>by subst e;exact q
 | [],_::_,_,_,_,.nil,.cons _ _ _,e,q=>by subst e;exact q
 | _::_,[],_,_,_,.cons _ _ _,.nil,e,q=>by subst e;exact q
 | n::ns,m::ms,_,_,i,.cons _ t hu,.cons _ u hw,e,q=>by
  rw[HT.lexLt_cons] at q
  refine PySem.W.kat_cons (wpAny_eqBool_int ?_)
  by_cases h:n=m
  . rw[if_pos h] at q
    rw[show (n==m)=true by simpa using h]
    exact PySem.W.kat_yes (zDf ns ms _ _ (i+1) hu hw (by rw[e];simp) q)
  . rw[if_neg h] at q
    rw[show (n==m)=false by simpa using h]
    refine PySem.W.kat_no ?_
    cases i with
    | zero=>exact oneLt_int q
    | succ j=>exact PySem.W.kat_one _ _ (PyProof.Rows.lt_int q)
theorem zIZ {X:Cx}{pins:List (Addr×Obj)}{σ:St}{H:Hp}{s s':Shared}{a:Addr}{ys:List V}{ks:List (List Int)}{vs:List Value}{A:Around}(I:Inv X pins σ H s)(T:zw H ys ks)(r:zA2 ys vs)(hne:0<vs.length)
 (fa:∀b o,s.heap.get? b=some o->b≠a)(kp:∀b o,s.heap.get? b=some o->s'.heap.get? b=some o):SortT.Asks X.prog X.w A s' a vs (O:=zKD) (fun i=>ks.getD i []) (tuples' true):=by
 have hl:=T.length
 have hv:=r.length
 have at_:∀(h':Heap),(∀b o,b≠a->s'.heap.get? b=some o->h'.get? b=some o)->∀i,i<vs.length->∃(p:Addr)(k:List Int)(us:List Value)(o:Obj)(n:Nat),vs[i]? = some (Value.ref p)/\ks[i]? = some k/\k≠[]/\IntsAre us k/\h'.get? p=some o/\o.cls = .type "tuple" /\ o.data = .seq us.toArray n:=fun h' kh i hi=>by
  have hy:i<ys.length:=by omega
  obtain⟨p,k,e1,e2,e3,e4⟩:=T.get (i:=i) (x:=ys[i]) (by simp[hy])
  obtain⟨u,hu,ru⟩:=r.get (i:=i) (x:=ys[i]) (by simp[hy])
  rw[e1] at ru
  cases (show u=Value.ref p from ru)
  obtain⟨_,its,rv,o,ho,hc,n,hd⟩:=I.hok p _ e3
  exact⟨p,k,its,o,n,hu,e2,e4,zBR rv,kh p o (fa p o ho) (kp p o ho),hc,hd⟩
 refine⟨fun h' Q E kh q=>?_,fun h' i j Q E kh hi hj q=>?_⟩
 . -- all keys are tuples whose first items are ints
   have tups:∀(m:Nat),m<=vs.length->∃fs:List Value,PySem.W.KatTups h' (vs.drop (vs.length-m)) fs/\fs.length=m/\∀f∈fs,∃x t,f=Value.int x t:=by
    intro m
    induction m with
    | zero=>intro _;exact⟨[],by rw[Nat.sub_zero,List.drop_length];exact trivial,rfl,fun f hf=>by simp at hf⟩
    | succ m ih=>
     intro hm
     obtain⟨fs,t,e,hf⟩:=ih (by omega)
     obtain⟨p,k,us,o,n,hu,hk,hk0,hI,ho,hc,hd⟩:=at_ h' kh (vs.length-(m+1)) (by omega)
     have ed:vs.drop (vs.length-(m+1))=Value.ref p::vs.drop (vs.length-m):=by
      have hlt:vs.length-(m+1)<vs.length:=by omega
      rw[List.drop_eq_getElem_cons hlt,show vs.length-(m+1)+1=vs.length-m by omega]
      have:vs[vs.length-(m+1)]=Value.ref p:=by
       rw[zC hlt] at hu
       exact zQ hu
      rw[this]
     cases hI with
     | nil=>exact absurd rfl hk0
     | cons x tx hI'=>
      refine⟨Value.int x tx::fs,by rw[ed];exact PySem.W.KatTups.cons ho hc hd rfl t,by rw[zh,e],fun f hf'=>?_⟩
      rcases za.mp hf' with rfl | hf'
      . exact⟨x,tx,rfl⟩
      . exact hf f hf'
   obtain⟨fs,t,e,hf⟩:=tups vs.length (zM _)
   rw[Nat.sub_self,List.drop_zero] at t
   refine PySem.W.kat_kind (T:=Value.type "int") t (by omega) (fun v hv=>?_) (by rfl) q
   obtain⟨x,tx,rfl⟩:=hf v hv
   exact PySem.W.Looks.of_pure rfl
 . obtain⟨p,k,us,o,n,hu,hk,_,hI,ho,hc,hd⟩:=at_ h' kh i hi
   obtain⟨p2,k2,us2,o2,n2,hu2,hk2,_,hI2,ho2,hc2,hd2⟩:=at_ h' kh j hj
   have e1:vs.getD i Value.none = .ref p:=by rw[zE,hu];rfl
   have e2:vs.getD j Value.none = .ref p2:=by rw[zE,hu2];rfl
   have g1:ks.getD i []=k:=by rw[zE,hk];rfl
   have g2:ks.getD j []=k2:=by rw[zE,hk2];rfl
   rw[e1,e2]
   refine PySem.W.kat_lt (s:={ s' with heap:=h' }) ho hd ho2 hd2 ?_
   have q':Q (HT.lexLt k k2) { s' with heap:=h' }:=by
    have:zKD.blt (ks.getD i []) (ks.getD j [])=HT.lexLt k k2:=by rw[g1,g2];rfl
    rw[<-this];exact q
   have l1:=hI.length
   have l2:=hI2.length
   exact zDf k k2 us us2 0 hI hI2 (by simp only[zI];rw[l1,l2]) q'
theorem zI8 {H:Hp}{ys:List V}{ks:List (List Int)}{vs:List Value}{out:List Nat}(T:zw H ys ks)(r:zA2 ys vs)(p:SortT.Put (O:=zKD) (fun i=>ks.getD i []) vs.length out) :
 ∃zs ms,zw H zs ms/\ms.Perm ks/\zD5 ms/\zA2 zs (out.map fun i=>vs.getD i Value.none)/\zs.length=ys.length:=by
 have hl:=T.length
 have hv:=r.length
 have hb:∀i∈out,i<vs.length:=fun i hi=>zAu.mp (p.perm.mem_iff.mp hi)
 refine⟨out.map fun i=>ys.getD i .non,out.map fun i=>ks.getD i [],zw.mk (by rw[zD,zD]) fun j x k hx hk=>?_,?_,?_,?_,?_⟩
 . rw[zU] at hx hk
   cases e:out[j]? with
   | none=>rw[e] at hx;cases hx
   | some i=>
    rw[e] at hx hk
    have hi:=hb i (zl e)
    have hy:i<ys.length:=by omega
    obtain⟨a,c,e1,e2,e3,e4⟩:=T.get (i:=i) (x:=ys[i]) (by simp[hy])
    have ex:ys.getD i .non=x:=zQ hx
    have ek:ks.getD i []=k:=zQ hk
    rw[zE,zC hy] at ex
    rw[zE,e2] at ek
    have ex':ys[i]=x:=ex
    have ek':c=k:=ek
    subst ek'
    exact⟨a,by rw[<-ex'];exact e1,e3,e4⟩
 . have h1:=p.perm.map fun i=>ks.getD i []
   have h2:(List.range vs.length).map (fun i=>ks.getD i [])=ks:=by
    rw[show vs.length=ks.length by omega]
    apply List.ext_getElem?
    intro j
    rw[zU]
    by_cases hj:j<ks.length
    . rw[List.getElem?_range hj,zC hj];simp[hj]
    . rw[zAs (by rw[zA4];omega),zAs (by omega)];rfl
   rw[h2] at h1
   exact h1
 . refine zAh.mpr fun i j hi hj hij=>?_
   rw[zD] at hi hj
   have:=p.rise i j out[i] out[j] (zAE hij) (by simp) (by simp)
   have h3:HT.lexLt (ks.getD out[j] []) (ks.getD out[i] [])=false:=this
   simpa using h3
 . have:∀l:List Nat,(∀i∈l,i<vs.length)->zA2 (l.map fun i=>ys.getD i .non) (l.map fun i=>vs.getD i Value.none):=by
    intro l
    induction l with
    | nil=>intro _;exact .nil
    | cons i l ih=>
     intro h
     have hi:=h i ze
     have hy:i<ys.length:=by omega
     obtain⟨u,hu,ru⟩:=r.get (i:=i) (x:=ys[i]) (by simp[hy])
     refine .cons ?_ (ih fun j hj=>h j (zf _ hj))
     show zBY (ys.getD i V.non) (vs.getD i Value.none)
     rw[zE,zC hy,zE,hu]
     exact ru
   exact this out hb
 . rw[zD,p.perm.length_eq,zA4];omega
theorem zEF {X:Cx}{pins:List (Addr×Obj)}{σ:St}{H:Hp}{s:Shared}{h':Heap}{D:Addr}{c t':Nat}{zs:List V}{us:List Value}(I:Inv X pins σ H s)(hD:s.heap.objs.size<=D)(kp:∀b o,s.heap.get? b=some o->h'.get? b=some o)
 (ho:h'.get? D=some (seqObj "list" us.toArray c)) (r:zA2 zs us)(hz:zs.length<=sizeLine):Inv X pins σ (upd H D (.lst zs)) { s with heap:=h',toks:=t' }:=
 I.laid kp hD (show zBA X.prog X.w _ _ _ (.lst zs) from ⟨hz,us,c,r,ho⟩)
end
section
variable {X:Cx}
theorem zB9:zB6 X (.builtin "sorted") (fun xs H Q=>∃p ys ks,xs=[.ref p]/\SqL X.K H p ys/\zw H ys ks/\ks.length<64 /\
 ∀l zs ms,H l=none->zw H zs ms->ms.Perm ks->zD5 ms->Q (.ref l) (upd H l (.lst zs))):=by
 intro pins s σ H xs us Q I r h
 obtain⟨p,ys,ks,rfl,hq,T,h64,q⟩:=h
 obtain⟨u,rfl,rx⟩:=zCa r
 cases rx
 obtain⟨its,r',pl,hz⟩:=I.list hq
 have hl:=T.length
 have hv:=r'.length
 refine SortT.sorted_list (O:=zKD) (key:=fun i=>ks.getD i []) (κ:=tuples' true) pl.isList (by omega) (fun h2 s' a fa kp=>zIZ I T r' (by omega) fa kp) fun D h' out c pt hD kp ho=>?_
 obtain⟨zs,ms,T2,hp,hr,rz,hlz⟩:=zI8 T r' pt
 exact⟨.ref D,_,zEF (t':=s.toks) I hD kp ho rz (by omega),rfl,q D zs ms (I.hok.fresh hD) T2 hp hr⟩
end
end L2
namespace L2
open PySem PySem.Spec PyProof.Rows
mutual
inductive zAZ (H:Hp):V->PyData->Prop
 | non:zAZ H .non .none
 | bl (b:Bool):zAZ H (.bl b) (.bool b)
 | int (i:Int):zAZ H (.int i) (.int i)
 | str (x:Str):zAZ H (.str x) (.str x)
 | tup {a:Addr}{xs:List V}{ds:List PyData}:H a=some (.tup xs)->zAt H xs ds->zAZ H (.ref a) (.tuple ds)
 | lst {a:Addr}{xs:List V}{ds:List PyData}:H a=some (.lst xs)->zAt H xs ds->zAZ H (.ref a) (.list ds)
inductive zAt (H:Hp):List V->List PyData->Prop
 | nil:zAt H [] []
 | cons {x:V}{xs:List V}{d:PyData}{ds:List PyData}:zAZ H x d->zAt H xs ds->zAt H (x::xs) (d::ds)
end
section
variable {P:Program}{w:World}{H:Hp}{h:Heap}
mutual
theorem zAZ.reads (ok:HOk P w H h):∀{x:V}{d:PyData},zAZ H x d->∀{u:Value},zBY x u->∃as,Reads h u d as
 | _,_,.non,u,r=>by cases (show u=Value.none from r);exact⟨_,.none⟩
 | _,_,.bl b,u,r=>by cases (show u=Value.bool b from r);exact⟨_,.bool b⟩
 | _,_,.int i,u,r=>by obtain⟨t,rfl⟩:=r;exact⟨_,.int i t⟩
 | _,_,.str x,u,r=>by obtain⟨t,rfl⟩:=r;exact⟨_,.str x t⟩
 | _,_,.tup (a:=a) e s,u,r=>by
  cases (show u=Value.ref a from r)
  obtain⟨_,its,rv,o,ho,hc,n,hd⟩:=ok a _ e
  obtain⟨as,ra⟩:=zAt.reads ok s rv
  exact⟨_,.tuple ho hc hd (by simpa using ra)⟩
 | _,_,.lst (a:=a) e s,u,r=>by
  cases (show u=Value.ref a from r)
  obtain⟨_,its,n,rv,ho⟩:=ok a _ e
  obtain⟨as,ra⟩:=zAt.reads ok s rv
  exact⟨_,.list ho rfl rfl (by simpa using ra)⟩
theorem zAt.reads (ok:HOk P w H h):∀{xs:List V}{ds:List PyData},zAt H xs ds->∀{us:List Value},zA2 xs us->∃as,ReadsAll h us ds as
 | _,_,.nil,us,r=>by cases r;exact⟨_,.nil⟩
 | _,_,.cons s t,us,r=>by
  cases r with
  | cons r1 r2=>
   obtain⟨a1,h1⟩:=zAZ.reads ok s r1
   obtain⟨a2,h2⟩:=zAt.reads ok t r2
   exact⟨_,.cons h1 h2⟩
end
end
section
variable {X:Cx}
end
end L2
namespace L2
open PySem PySem.Spec PyProof.Rows
section
variable {X:Cx}{es xs:List Expr}{t t1:TA}
theorem zBM {i j pos} (hr:PA X es t):PA X (.Constant (.int i) j pos::es) (zKV (tC (.int i)) t):=zB zY hr (by rfl)
theorem pa_lst {pos} (h:PA X xs t1)(hr:PA X es t):PA X (.List xs pos::es) (zKV (tLst t1) t):=zB (zBF h) hr (by rfl)
end
inductive zDv:List Expr->List Int->Prop where
 | nil:zDv [] []
 | cons {i:Int}{j:Nat}{pos:Pos}{es:List Expr}{ns:List Int}:zDv es ns->zDv (.Constant (.int i) j pos::es) (i::ns)
theorem zHc {X:Cx}{es:List Expr}{ns:List Int}(h:zDv es ns):PA X es (fun _ H Q=>Q (ns.map V.int) H):=by
 induction h with
 | nil=>exact zK
 | cons _ ih=>
  intro pos pins s σ H Q I q
  exact (zBM ih) pos pins s σ H Q I q
inductive zCy:List Expr->List (List Int)->Prop where
 | nil:zCy [] []
 | cons {xs:List Expr}{ns:List Int}{pos:Pos}{es:List Expr}{nss:List (List Int)}:zDv xs ns->ns.length<=sizeLine->zCy es nss->zCy (.List xs pos::es) (ns::nss)
noncomputable def zJn:List (List Int)->TA
 | []=>tNil
 | ns::r=>fun σ H Q=>∀p,H p=none->zJn r σ (upd H p (.lst (ns.map V.int))) fun xs H2=>Q (.ref p::xs) H2
theorem zJG {X:Cx}{es:List Expr}{nss:List (List Int)}(h:zCy es nss):PA X es (zJn nss):=by
 induction h with
 | nil=>exact zK
 | cons hx hl _ ih=>
  intro pos pins s σ H Q I q
  exact (pa_lst (zHc hx) ih) pos pins s σ H Q I ⟨by rw[zD];exact hl,fun p hp=>q p hp⟩
end L2
namespace WM
theorem zKB {α:Type} [DecidableEq α]:∀{l₁ l₂:List α},l₁.Nodup->(∀x∈l₁,x∈l₂)->l₁.length<=l₂.length
 | [],_,_,_=>zj _
 | x::r,l₂,h,s=>by
  obtain⟨h1,h2⟩:=zAi.mp h
  have hx:x∈l₂:=s x ze
  have ih:=zKB (l₁:=r) (l₂:=l₂.erase x) h2 fun y hy=>by
   have hne:y≠x:=fun e=>h1 (e ▸ hy)
   exact (List.mem_erase_of_ne hne).mpr (s y (zf _ hy))
  rw[List.length_erase_of_mem hx] at ih
  have:0<l₂.length:=List.length_pos_of_mem hx
  rw[zh]
  omega
noncomputable def lowTo (n:Nat):List Int:=(List.range n).map fun (i:Nat)=>(i:Int)
theorem zGV {n:Nat}{x:Int}:x∈lowTo n↔0<=x/\x<n:=by
 unfold lowTo
 rw[zAB]
 constructor
 . rintro ⟨i,hi,rfl⟩
   have:=zAu.mp hi
   omega
 . rintro ⟨h0,h1⟩
   exact⟨x.toNat,zAu.mpr (by omega),by omega⟩
theorem nd_len {n:Nat}{l:List Int}(h:l.Nodup)(hb:∀x∈l,0<=x/\x<n):l.length<=n:=by
 have:=zKB h (l₂:=lowTo n) fun x hx=>zGV.mpr (hb x hx)
 simpa [lowTo] using this
theorem zH8 (n:Nat):(lowTo n).Pairwise (· < ·):=by
 unfold lowTo
 rw[zAU]
 exact List.pairwise_lt_range.imp fun h=>by omega
noncomputable abbrev T3:=Int×Int×Int
noncomputable def tl (t:T3):List Int:=[t.1,t.2.1,t.2.2]
structure GW (n:Int)(ts:List T3):Prop where
 n1:1<=n
 n24:n<=24
 len:ts.length<64
 rng:∀t∈ts,0<=t.1/\t.1<t.2.1/\t.2.1<n/\1<=t.2.2/\t.2.2<=99
 dis:ts.Pairwise fun s t=>¬ (s.1=t.1/\s.2.1=t.2.1)
noncomputable def Adj (ts:List T3)(x y l:Int):Prop:=(x,y,l)∈ts\/(y,x,l)∈ts
theorem Adj.symm {ts:List T3}{x y l:Int}(h:Adj ts x y l):Adj ts y x l:=h.elim .inr .inl
theorem GW.uniq {n:Int}{ts:List T3}(g:GW n ts){x y l l':Int}(h:Adj ts x y l)(h':Adj ts x y l'):l=l':=by
 have key:∀{ts:List T3},ts.Pairwise (fun s t=>¬ (s.1=t.1/\s.2.1=t.2.1))->∀{a b l l':Int},(a,b,l)∈ts->(a,b,l')∈ts->l=l':=by
  intro ts
  induction ts with
  | nil=>intro _ a b l l' h;simp at h
  | cons t r ih=>
   intro hp a b l l' h h'
   obtain⟨q,hr⟩:=zAw.mp hp
   rcases za.mp h with e | e
   . rcases za.mp h' with e' | e'
     . rw[<-e] at e';injection e' with _ e2;injection e2 with _ e3;exact e3.symm
     . exact absurd (by rw[<-e];exact⟨rfl,rfl⟩) (q _ e')
   . rcases za.mp h' with e' | e'
     . exact absurd (by rw[<-e'];exact⟨rfl,rfl⟩) (q _ e)
     . exact ih hr e e'
 rcases h with h | h <;> rcases h' with h' | h'
 . exact key g.dis h h'
 . have:=g.rng _ h;have:=g.rng _ h';simp only at *;omega
 . have:=g.rng _ h;have:=g.rng _ h';simp only at *;omega
 . exact key g.dis h h'
theorem GW.adj {n:Int}{ts:List T3}(g:GW n ts){x y l:Int}(h:Adj ts x y l):0<=x/\x<n/\0<=y/\y<n/\x≠y/\1<=l/\l<=99:=by
 rcases h with h | h <;> (have:=g.rng _ h;simp only at *;omega)
noncomputable def fd (p:Int):List T3->List (List Int)
 | []=>[]
 | t::r=>(if t.1=p then [[t.2.1,t.2.2]] else [])++(if t.2.1=p then [[t.1,t.2.2]] else [])++fd p r
theorem zFS (p:Int):∀a b:List T3,fd p (a++b)=fd p a++fd p b
 | [],b=>rfl
 | t::r,b=>by show _++_++fd p (r++b)=_;rw[zFS p r b];simp[fd,List.append_assoc]
theorem zDE {p:Int}{k:List Int}:∀{ts:List T3},k∈fd p ts↔∃y l,k=[y,l]/\Adj ts p y l
 | []=>by simp[fd,Adj]
 | (a,b,c)::r=>by
  have ih:=zDE (p:=p) (k:=k) (ts:=r)
  show k∈_++_++fd p r↔_
  rw[zx,zx,ih]
  simp only
  constructor
  . rintro ((h | h) | ⟨y,l,e,h⟩)
    . split at h
      . rename_i e;simp at h;subst e;exact⟨b,c,h,.inl ze⟩
      . simp at h
    . split at h
      . rename_i e;simp at h;subst e;exact⟨a,c,h,.inr ze⟩
      . simp at h
    . exact⟨y,l,e,h.elim (fun z=>.inl (zf _ z)) fun z=>.inr (zf _ z)⟩
  . rintro ⟨y,l,e,h⟩
    rcases h with h | h
    . rcases za.mp h with q | q
      . injection q with q1 q2;injection q2 with q2 q3;subst q1 q2 q3
        exact .inl (.inl (by simp[e]))
      . exact .inr ⟨y,l,e,.inl q⟩
    . rcases za.mp h with q | q
      . injection q with q1 q2;injection q2 with q2 q3;subst q1 q2 q3
        exact .inl (.inr (by simp[e]))
      . exact .inr ⟨y,l,e,.inr q⟩
theorem zGZ {n:Int}(p:Int):∀{ts:List T3},(∀t∈ts,t.1<t.2.1)->(fd p ts).length<=ts.length
 | [],_=>zM _
 | t::r,h=>by
  have ih:=zGZ (n:=n) p (ts:=r) fun t ht=>h t (zf _ ht)
  have h0:=h t ze
  show (_++_++fd p r).length<=_
  rw[zN,zN,zh]
  have:(if t.1=p then [[t.2.1,t.2.2]] else ([]:List (List Int))).length+(if t.2.1=p then [[t.1,t.2.2]] else ([]:List (List Int))).length<=1:=by
   split <;> split <;> simp <;> omega
  omega
noncomputable def hd (k:List Int):Int:=k.getD 0 0
theorem zJV {n:Int}{ts:List T3}(g:GW n ts)(p:Int):((fd p ts).map hd).Nodup:=by
 have key:∀(ts:List T3),(∀t∈ts,t.1<t.2.1)->ts.Pairwise (fun s t=>¬ (s.1=t.1/\s.2.1=t.2.1))->((fd p ts).map hd).Nodup:=by
  intro ts
  induction ts with
  | nil=>intro _ _;exact List.nodup_nil
  | cons t r ih=>
   intro hlt hp
   obtain⟨q,hr⟩:=zAw.mp hp
   have h0:=hlt t ze
   have hr':∀t∈r,t.1<t.2.1:=fun t ht=>hlt t (zf _ ht)
   have ih':=ih hr' hr
   have no:∀y c,(∀l,Adj r p y l->False)->([y,c]:List Int)=[y,c]->¬ y∈(fd p r).map hd:=by
    intro y c hn _ hm
    obtain⟨k,hk,e⟩:=zAB.mp hm
    obtain⟨y',l,ek,ha⟩:=zDE.mp hk
    subst ek
    have:y'=y:=e
    subst this
    exact hn l ha
   show ((_++_++fd p r).map hd).Nodup
   by_cases h1:t.1=p
   . have h2:¬ t.2.1=p:=by omega
     rw[if_pos h1,if_neg h2]
     show (t.2.1::(fd p r).map hd).Nodup
     refine zAi.mpr ⟨no _ t.2.2 (fun l ha=>?_) rfl,ih'⟩
     rcases ha with ha | ha
     . exact q _ ha ⟨h1,rfl⟩
     . have:=hr' _ ha;simp only at this;omega
   . by_cases h2:t.2.1=p
     . rw[if_neg h1,if_pos h2]
       show (t.1::(fd p r).map hd).Nodup
       refine zAi.mpr ⟨no _ t.2.2 (fun l ha=>?_) rfl,ih'⟩
       rcases ha with ha | ha
       . have:=hr' _ ha;simp only at this;omega
       . exact q _ ha ⟨rfl,h2⟩
     . rw[if_neg h1,if_neg h2]
       exact ih'
 exact key ts (fun t ht=>(g.rng t ht).2.1) g.dis
end WM
namespace WM
inductive Way (ts:List T3):Int->Int->Int->Prop where
 | nil (x:Int):Way ts x x 0
 | cons {x z y l d:Int}:Adj ts x z l->Way ts z y d->Way ts x y (l+d)
theorem Way.nn {n:Int}{ts:List T3}(g:GW n ts){x y d:Int}(h:Way ts x y d):0<=d:=by
 induction h with
 | nil=>exact Int.le_refl _
 | cons ha _ ih=>have:=g.adj ha;omega
theorem Way.one {ts:List T3}{x y l:Int}(h:Adj ts x y l):Way ts x y l:=by
 have:=Way.cons h (.nil y)
 rwa [Int.add_zero] at this
theorem Way.trans {ts:List T3}{x y z d e:Int}(h:Way ts x y d)(h':Way ts y z e):Way ts x z (d+e):=by
 induction h with
 | nil=>rw[zBW];exact h'
 | cons ha _ ih=>rw[Int.add_assoc];exact .cons ha (ih h')
theorem Way.symm {ts:List T3}{x y d:Int}(h:Way ts x y d):Way ts y x d:=by
 induction h with
 | nil=>exact .nil _
 | cons ha _ ih=>have:=ih.trans (.one ha.symm);rwa [Int.add_comm] at this
theorem Way.snoc {ts:List T3}{x y z d l:Int}(h:Way ts x y d)(ha:Adj ts y z l):Way ts x z (d+l):=h.trans (.one ha)
noncomputable def IsD (ts:List T3)(x y d:Int):Prop:=Way ts x y d/\∀e,Way ts x y e->d<=e
noncomputable def Len (ts:List T3)(x y:Int):Option Int->Prop
 | some d=>IsD ts x y d
 | none=>∀d,¬ Way ts x y d
theorem IsD.uniq {ts:List T3}{x y d e:Int}(h:IsD ts x y d)(h':IsD ts x y e):d=e:=Int.le_antisymm (h.2 _ h'.1) (h'.2 _ h.1)
theorem Len.uniq {ts:List T3}{x y:Int}{o o':Option Int}(h:Len ts x y o)(h':Len ts x y o'):o=o':=by
 cases o with
 | none=>
  cases o' with
  | none=>rfl
  | some e=>exact absurd h'.1 (h e)
 | some d=>
  cases o' with
  | none=>exact absurd h.1 (h' d)
  | some e=>exact congrArg some (IsD.uniq h h')
theorem IsD.symm {ts:List T3}{x y d:Int}(h:IsD ts x y d):IsD ts y x d:=⟨h.1.symm,fun e he=>h.2 e he.symm⟩
theorem Len.symm {ts:List T3}{x y:Int}{o:Option Int}(h:Len ts x y o):Len ts y x o:=by
 cases o with
 | none=>exact fun d hd=>h d hd.symm
 | some d=>exact IsD.symm h
theorem zJS {n:Int}{ts:List T3}(g:GW n ts)(x:Int):IsD ts x x 0:=⟨.nil x,fun _ h=>h.nn g⟩
structure Dj (ts:List T3)(s:Int)(kn wt:Int->Option Int):Prop where
 kd:∀p d,kn p=some d->IsD ts s p d
 wk:∀p d,wt p=some d->kn p=none/\Way ts s p d
 ord:∀p d q e,kn p=some d->wt q=some e->d<=e
 nb:∀p d q l,kn p=some d->Adj ts p q l->(∃e,kn q=some e)\/∃e,wt q=some e/\e<=d+l
 st:(∃d,kn s=some d)\/wt s=some 0
theorem Dj.front {n:Int}{ts:List T3}(g:GW n ts){s:Int}{kn wt:Int->Option Int}(h:Dj ts s kn wt){y d:Int}(w:Way ts s y d):(∃e,kn y=some e)\/∃q e,wt q=some e/\e<=d:=by
 have key:∀{x y d:Int},Way ts x y d->∀dx,kn x=some dx->(∃e,kn y=some e)\/∃q e,wt q=some e/\e<=dx+d:=by
  intro x y d w
  induction w with
  | nil=>intro dx hx;exact .inl ⟨dx,hx⟩
  | cons ha w' ih=>
   intro dx hx
   rename_i x z y l d
   have hl:=g.adj ha
   have hw:=w'.nn g
   rcases h.nb x dx z l hx ha with ⟨e,he⟩ | ⟨e,he,hle⟩
   . have hez:e<=dx+l:=(h.kd z e he).2 _ ((h.kd x dx hx).1.snoc ha)
     rcases ih e he with q | ⟨q,e',hq,hle⟩
     . exact .inl q
     . exact .inr ⟨q,e',hq,by omega⟩
   . exact .inr ⟨z,e,he,by omega⟩
 rcases h.st with ⟨ds,hs⟩ | hs
 . have:ds=0:=IsD.uniq (h.kd s ds hs) (zJS g s)
   subst this
   rcases key w 0 hs with q | ⟨q,e,a,b⟩
   . exact .inl q
   . exact .inr ⟨q,e,a,by omega⟩
 . exact .inr ⟨s,0,hs,w.nn g⟩
theorem Dj.pick {n:Int}{ts:List T3}(g:GW n ts){s:Int}{kn wt:Int->Option Int}(h:Dj ts s kn wt){p d:Int}(hp:wt p=some d)(hm:∀q e,wt q=some e->d<=e):IsD ts s p d:=by
 obtain⟨hk,hw⟩:=h.wk p d hp
 refine⟨hw,fun e he=>?_⟩
 rcases h.front g he with ⟨e',q⟩ | ⟨q,e',hq,hle⟩
 . rw[hk] at q;cases q
 . exact Int.le_trans (hm q e' hq) hle
theorem Dj.done {n:Int}{ts:List T3}(g:GW n ts){s:Int}{kn wt:Int->Option Int}(h:Dj ts s kn wt)(hw:∀q,wt q=none)(y:Int):Len ts s y (kn y):=by
 cases e:kn y with
 | some d=>exact h.kd y d e
 | none=>
  intro d w
  rcases h.front g w with ⟨e',q⟩ | ⟨q,e',hq,_⟩
  . rw[e] at q;cases q
  . rw[hw] at hq;cases hq
structure Dm (ts:List T3)(s p d:Int)(kn wt:Int->Option Int)(seen:Int->Prop):Prop where
 kd:∀q e,kn q=some e->IsD ts s q e
 wk:∀q e,wt q=some e->kn q=none/\Way ts s q e
 ord:∀q e r f,kn q=some e->wt r=some f->e<=f
 nb:∀q e r l,kn q=some e->Adj ts q r l->(q=p/\¬ seen r)\/(∃f,kn r=some f)\/∃f,wt r=some f/\f<=e+l
 st:∃e,kn s=some e
 pd:kn p=some d
 mx:∀q e,kn q=some e->e<=d
theorem Dj.enter {n:Int}{ts:List T3}(g:GW n ts){s:Int}{kn wt:Int->Option Int}(h:Dj ts s kn wt){p d:Int}(hp:wt p=some d)(hm:∀q e,wt q=some e->d<=e) :
 Dm ts s p d (fun q=>if q=p then some d else kn q) (fun q=>if q=p then none else wt q) (fun _=>False):=by
 have hd:=h.pick g hp hm
 have hk:=(h.wk p d hp).1
 refine⟨fun q e hq=>?_,fun q e hq=>?_,fun q e r f hq hr=>?_,fun q e r l hq ha=>?_,?_,if_pos rfl,fun q e hq=>?_⟩
 . by_cases hqp:q=p
   . rw[if_pos hqp] at hq;cases hq;rw[hqp];exact hd
   . rw[if_neg hqp] at hq;exact h.kd q e hq
 . by_cases hqp:q=p
   . rw[if_pos hqp] at hq;cases hq
   . rw[if_neg hqp] at hq ⊢;exact h.wk q e hq
 . by_cases hrp:r=p
   . rw[if_pos hrp] at hr;cases hr
   . rw[if_neg hrp] at hr
     by_cases hqp:q=p
     . rw[if_pos hqp] at hq;cases hq;exact hm r f hr
     . rw[if_neg hqp] at hq;exact h.ord q e r f hq hr
 . by_cases hqp:q=p
   . exact .inl ⟨hqp,fun z=>z⟩
   . rw[if_neg hqp] at hq
     by_cases hrp:r=p
     . exact .inr (.inl ⟨d,if_pos hrp⟩)
     . rcases h.nb q e r l hq ha with ⟨f,hf⟩ | ⟨f,hf,hle⟩
       . exact .inr (.inl ⟨f,by rw[if_neg hrp];exact hf⟩)
       . exact .inr (.inr ⟨f,by rw[if_neg hrp];exact hf,hle⟩)
 . by_cases hsp:s=p
   . exact⟨d,if_pos hsp⟩
   . rcases h.st with ⟨e,he⟩ | he
     . exact⟨e,by rw[if_neg hsp];exact he⟩
     . -- s waits with 0: then d is 0 too,and p is come to by a way of 0
       have h0:=hm s 0 he
       have:=hd.1.nn g
       have hd0:d=0:=by omega
       subst hd0
       exfalso
       have:∀{x y d:Int},Way ts x y d->d=0->x=y:=by
        intro x y d w
        cases w with
        | nil=>intro _;rfl
        | cons ha w'=>intro e;have:=g.adj ha;have:=w'.nn g;omega
       exact hsp (this hd.1 rfl)
 . by_cases hqp:q=p
   . rw[if_pos hqp] at hq;cases hq;exact Int.le_refl _
   . rw[if_neg hqp] at hq;exact h.ord q e p d hq hp
theorem Dm.skip {ts:List T3}{s p d:Int}{kn wt:Int->Option Int}{seen:Int->Prop}(h:Dm ts s p d kn wt seen){r:Int}(hr:∃f,kn r=some f):Dm ts s p d kn wt (fun x=>seen x\/x=r):=
 ⟨h.kd,h.wk,h.ord,fun q e x l hq ha=>by
  rcases h.nb q e x l hq ha with ⟨a,b⟩ | c
  . by_cases hx:x=r
    . subst hx;exact .inr (.inl hr)
    . exact .inl ⟨a,fun z=>z.elim b hx⟩
  . exact .inr c,h.st,h.pd,h.mx⟩
theorem Dm.wait {n:Int}{ts:List T3}(g:GW n ts){s p d:Int}{kn wt:Int->Option Int}{seen:Int->Prop}(h:Dm ts s p d kn wt seen){r l:Int}(ha:Adj ts p r l)(hr:kn r=none){f:Int}
 (hf:(wt r=none/\f=d+l)\/∃e,wt r=some e/\f=min (d+l) e):Dm ts s p d kn (fun x=>if x=r then some f else wt x) (fun x=>seen x\/x=r):=by
 have hl:=g.adj ha
 have hway:Way ts s r (d+l):=(h.kd p d h.pd).1.snoc ha
 have hf1:f<=d+l:=by
  rcases hf with ⟨_,e⟩ | ⟨e,_,e'⟩
  . omega
  . omega
 have hf2:Way ts s r f:=by
  rcases hf with ⟨_,rfl⟩ | ⟨e,he,rfl⟩
  . exact hway
  . by_cases hle:d+l<=e
    . rw[Int.min_eq_left hle];exact hway
    . rw[Int.min_eq_right (by omega)];exact (h.wk r e he).2
 have hf3:d<=f:=by
  rcases hf with ⟨_,rfl⟩ | ⟨e,he,rfl⟩
  . omega
  . have:=h.ord p d r e h.pd he;omega
 refine⟨h.kd,fun q e hq=>?_,fun q e x y hq hx=>?_,fun q e x k hq hax=>?_,h.st,h.pd,h.mx⟩
 . by_cases hqr:q=r
   . rw[if_pos hqr] at hq;cases hq;rw[hqr];exact⟨hr,hf2⟩
   . rw[if_neg hqr] at hq;exact h.wk q e hq
 . by_cases hxr:x=r
   . rw[if_pos hxr] at hx;cases hx;have:=h.mx q e hq;omega
   . rw[if_neg hxr] at hx;exact h.ord q e x y hq hx
 . by_cases hxr:x=r
   . subst hxr
     refine .inr (.inr ⟨f,if_pos rfl,?_⟩)
     rcases h.nb q e x k hq hax with ⟨a,_⟩ | ⟨y,hy⟩ | ⟨y,hy,hle⟩
     . subst a
       rw[h.pd] at hq;cases hq
       rw[g.uniq hax ha];exact hf1
     . rw[hr] at hy;cases hy
     . rcases hf with ⟨e1,_⟩ | ⟨e1,he1,e2⟩
       . rw[e1] at hy;cases hy
       . rw[he1] at hy;cases hy;omega
   . rcases h.nb q e x k hq hax with ⟨a,b⟩ | c | ⟨y,hy,hle⟩
     . exact .inl ⟨a,fun z=>z.elim b hxr⟩
     . exact .inr (.inl c)
     . exact .inr (.inr ⟨y,by rw[if_neg hxr];exact hy,hle⟩)
theorem Dm.leave {ts:List T3}{s p d:Int}{kn wt:Int->Option Int}{seen:Int->Prop}(h:Dm ts s p d kn wt seen)(hs:∀r l,Adj ts p r l->seen r):Dj ts s kn wt:=
 ⟨h.kd,h.wk,h.ord,fun q e r l hq ha=>by
  rcases h.nb q e r l hq ha with ⟨a,b⟩ | c
  . subst a;exact absurd (hs r l ha) b
  . exact c,.inl h.st⟩
end WM
namespace WM
noncomputable def fnl (kn:List (Option Int))(p:Int):Option Int:=if 0<=p then kn.getD p.toNat none else none
noncomputable def cnt (kn:List (Option Int)):Nat:=(kn.filter Option.isSome).length
theorem zKK (kn:List (Option Int)):cnt kn<=kn.length:=zAr _ _
theorem zLk {kn:List (Option Int)}{p:Int}{o:Option Int}(h0:0<=p)(h1:p.toNat<kn.length)(q:Int):fnl (kn.set p.toNat o) q=if q=p then o else fnl kn q:=by
 unfold fnl
 by_cases hq:0<=q
 . rw[if_pos hq,if_pos hq,zE,zE,List.getElem?_set]
   by_cases e:q=p
   . subst e;simp[h1]
   . have:¬ p.toNat=q.toNat:=by omega
     rw[if_neg this,if_neg e]
 . rw[if_neg hq,if_neg (by omega),if_neg hq]
theorem zIQ:∀{kn:List (Option Int)}{j:Nat}{d:Int},kn[j]? = some none->cnt (kn.set j (some d))=cnt kn+1
 | [],_,_,h=>by simp at h
 | o::r,0,d,h=>by
  have:o=none:=by simpa using h
  subst this
  simp[cnt,List.set]
 | o::r,j+1,d,h=>by
  have ih:=zIQ (kn:=r) (j:=j) (d:=d) (by simpa using h)
  unfold cnt at ih ⊢
  rw[List.set_cons_succ]
  cases o with
  | none=>rw[zBJ (by simp),zBJ (by simp)];exact ih
  | some x=>rw[zBI (by simp),zBI (by simp),zh,zh,ih]
theorem zLp (n:Nat):cnt (List.replicate n none)=0:=by
 unfold cnt
 rw[List.filter_replicate]
 simp
theorem zDk (n:Nat)(q:Int):fnl (List.replicate n none) q=none:=by
 unfold fnl
 split
 . rw[zE,List.getElem?_replicate]
   split <;> rfl
 . rfl
structure Dl (ts:List T3)(n s:Int)(kn:List (Option Int))(wt:Int->Option Int):Prop where
 dj:Dj ts s (fnl kn) wt
 ln:kn.length=n.toNat
 bk:∀p d,fnl kn p=some d->d<=99*cnt kn
 bw:∀p e,wt p=some e->e<=99*cnt kn/\0<=p/\p<n
structure Dn (ts:List T3)(n s p d:Int)(kn:List (Option Int))(wt:Int->Option Int)(seen:Int->Prop):Prop where
 dm:Dm ts s p d (fnl kn) wt seen
 ln:kn.length=n.toNat
 bk:∀q e,fnl kn q=some e->e<=99*cnt kn
 bd:d+99<=99*cnt kn
 bw:∀q e,wt q=some e->e<=99*cnt kn/\0<=q/\q<n
theorem Dl.start {n:Int}{ts:List T3}(g:GW n ts){s:Int}(h0:0<=s)(h1:s<n):Dl ts n s (List.replicate n.toNat none) (fun q=>if q=s then some 0 else none):=by
 refine⟨⟨fun p d h=>?_,fun p d h=>?_,fun p d q e h=>?_,fun p d q l h=>?_,.inr (if_pos rfl)⟩,zAq,fun p d h=>?_,fun p e h=>?_⟩
 . rw[zDk] at h;cases h
 . by_cases e:p=s
   . rw[if_pos e] at h;cases h;rw[e];exact⟨zDk _ _,.nil s⟩
   . rw[if_neg e] at h;cases h
 . rw[zDk] at h;cases h
 . rw[zDk] at h;cases h
 . rw[zDk] at h;cases h
 . by_cases e:p=s
   . rw[if_pos e] at h;cases h;rw[e,zLp];exact⟨by simp,h0,h1⟩
   . rw[if_neg e] at h;cases h
theorem Dl.enter {n:Int}{ts:List T3}(g:GW n ts){s:Int}{kn:List (Option Int)}{wt:Int->Option Int}(h:Dl ts n s kn wt){p d:Int}(hp:wt p=some d)(hm:∀q e,wt q=some e->d<=e) :
 kn[p.toNat]? = some none/\0<=p/\p<n/\cnt (kn.set p.toNat (some d))=cnt kn+1/\Dn ts n s p d (kn.set p.toNat (some d)) (fun q=>if q=p then none else wt q) (fun _=>False):=by
 obtain⟨hb,h0,h1⟩:=h.bw p d hp
 have hl:=h.ln
 have hlt:p.toNat<kn.length:=by omega
 have hk:=(h.dj.wk p d hp).1
 have hn:kn[p.toNat]? = some none:=by
  unfold fnl at hk
  rw[if_pos h0,zE,zC hlt] at hk
  rw[zC hlt]
  exact congrArg some hk
 have hc:=zIQ (d:=d) hn
 have ef:fnl (kn.set p.toNat (some d))=fun q=>if q=p then some d else fnl kn q:=funext fun q=>zLk h0 hlt q
 refine⟨hn,h0,h1,hc,⟨?_,by rw[List.length_set];exact hl,fun q e hq=>?_,by rw[hc];omega,fun q e hq=>?_⟩⟩
 . rw[ef];exact h.dj.enter g hp hm
 . rw[ef] at hq
   simp only at hq
   rw[hc]
   by_cases e':q=p
   . rw[if_pos e'] at hq;cases hq;omega
   . rw[if_neg e'] at hq;have:=h.bk q e hq;omega
 . by_cases e':q=p
   . rw[if_pos e'] at hq;cases hq
   . rw[if_neg e'] at hq;have:=h.bw q e hq;rw[hc];exact⟨by omega,this.2⟩
theorem Dn.skip {n:Int}{ts:List T3}{s p d:Int}{kn:List (Option Int)}{wt:Int->Option Int}{seen:Int->Prop}(h:Dn ts n s p d kn wt seen){r f:Int}(hr:fnl kn r=some f):Dn ts n s p d kn wt (fun x=>seen x\/x=r):=
 ⟨h.dm.skip ⟨f,hr⟩,h.ln,h.bk,h.bd,h.bw⟩
theorem Dn.wait {n:Int}{ts:List T3}(g:GW n ts){s p d:Int}{kn:List (Option Int)}{wt:Int->Option Int}{seen:Int->Prop}(h:Dn ts n s p d kn wt seen){r l:Int}(ha:Adj ts p r l)(hr:fnl kn r=none) :
 Dn ts n s p d kn (fun x=>if x=r then some (if (wt r).getD (d+l)<d+l then (wt r).getD (d+l) else d+l) else wt x) (fun x=>seen x\/x=r):=by
 have hl:=g.adj ha
 have hf:(wt r=none/\(if (wt r).getD (d+l)<d+l then (wt r).getD (d+l) else d+l)=d+l)\/∃e,wt r=some e/\(if (wt r).getD (d+l)<d+l then (wt r).getD (d+l) else d+l)=min (d+l) e:=by
  cases e:wt r with
  | none=>exact .inl ⟨rfl,by simp⟩
  | some x=>
   refine .inr ⟨x,rfl,?_⟩
   simp only[Option.getD_some]
   split <;> omega
 refine⟨h.dm.wait g ha hr hf,h.ln,h.bk,h.bd,fun q e hq=>?_⟩
 by_cases e':q=r
 . rw[if_pos e'] at hq
   have hd:=h.bd
   have e2:=zQ hq
   refine⟨?_,by omega,by omega⟩
   split at e2 <;> omega
 . rw[if_neg e'] at hq;exact h.bw q e hq
theorem Dn.leave {n:Int}{ts:List T3}{s p d:Int}{kn:List (Option Int)}{wt:Int->Option Int}{seen:Int->Prop}(h:Dn ts n s p d kn wt seen)(hs:∀r l,Adj ts p r l->seen r):Dl ts n s kn wt:=
 ⟨h.dm.leave hs,h.ln,h.bk,h.bw⟩
structure zJj (ts:List T3)(n s:Int)(kn:List (Option Int)):Prop where
 ln:kn.length=n.toNat
 len:∀y,0<=y->y<n->Len ts s y (fnl kn y)
 bd:∀o∈kn,∀d,o=some d->0<=d/\d<=2376
theorem Dl.done {n:Int}{ts:List T3}(g:GW n ts){s:Int}{kn:List (Option Int)}{wt:Int->Option Int}(h:Dl ts n s kn wt)(hw:∀q,wt q=none):zJj ts n s kn:=by
 refine⟨h.ln,fun y _ _=>h.dj.done g hw y,fun o ho d e=>?_⟩
 obtain⟨j,hj,ej⟩:=zAT ho
 have hf:fnl kn (j:Int)=some d:=by
  unfold fnl
  rw[if_pos (by omega),zE,zBc,zC hj,ej,e];rfl
 have h1:=h.bk _ _ hf
 have h2:=(h.dj.kd _ _ hf).1.nn g
 have h3:=zKK kn
 have:=h.ln
 have:=g.n24
 omega
end WM
namespace WM
noncomputable def Rows (ts:List T3)(n:Int)(M:List (List (Option Int))):Prop:=M.length=n.toNat/\∀x,0<=x->x<n->zJj ts n x (M.getD x.toNat [])
end WM
namespace WM
noncomputable def Btw (ts:List T3)(x y p:Int):Prop:=∃a b,IsD ts x p a/\IsD ts p y b/\IsD ts x y (a+b)
noncomputable def Nxt (ts:List T3)(x y p:Int):Prop:=∃l b,Adj ts x p l/\IsD ts p y b/\IsD ts x y (l+b)
theorem Way.in_ {n:Int}{ts:List T3}(g:GW n ts){x y d:Int}(w:Way ts x y d)(hx:0<=x)(hx':x<n):0<=y/\y<n:=by
 induction w with
 | nil=>exact⟨hx,hx'⟩
 | cons ha _ ih=>have:=g.adj ha;exact ih this.2.2.1 this.2.2.2.1
theorem Len.via {ts:List T3}{x y p a d:Int}{o:Option Int}(h1:IsD ts x p a)(h2:IsD ts x y d)(h3:Len ts p y o):∃b,o=some b/\d<=a+b:=by
 cases o with
 | none=>exact absurd (h1.1.symm.trans h2.1) (h3 _)
 | some b=>exact⟨b,rfl,h2.2 _ (h1.1.trans h3.1)⟩
end WM
namespace WM
end WM
namespace L2
open PySem PySem.Spec PyProof.Rows
noncomputable def intO:KeyOrd:=⟨Int,fun a b=>decide (a<b),fun a=>zb (by omega),fun a b c h1 h2=>zZ (by have:=of_decide_eq_true h1;have:=of_decide_eq_true h2;omega),
 fun a b c h=>by
  have h':a<c:=of_decide_eq_true h
  by_cases hab:a<b
  . exact .inl (zZ hab)
  . exact .inr (zZ (by omega)),
 fun a b h1 h2=>by have:=of_decide_eq_false h1;have:=of_decide_eq_false h2;omega⟩
theorem zIa {prog:Program}{w:World}{A:Around}{s:Shared}{a:Addr}{vs:List Value}{ns:List Int}(hI:IntsAre vs ns)(h2:2<=vs.length) :
 SortT.Asks prog w A s a vs (O:=intO) (fun i=>ns.getD i 0) oneType':=by
 have hl:=hI.length
 have at_:∀i,i<vs.length->∃t,vs.getD i Value.none = .int (ns.getD i 0) t:=fun i hi=>by
  obtain⟨n,hn⟩:∃n,ns[i]? = some n:=⟨_,zC (by omega)⟩
  obtain⟨t,ht⟩:=hI.get i n hn
  exact⟨t,by rw[zE,zE,ht,hn];rfl⟩
 refine⟨fun h' Q E kh q=>?_,fun h' i j Q E kh hi hj q=>?_⟩
 . rw[ksk_kind (keys:=vs.toArray) (kz:=ns) (by simpa using hI) (by simpa using h2)]
   exact zG q
 . obtain⟨t,e1⟩:=at_ i hi
   obtain⟨u,e2⟩:=at_ j hj
   rw[e1,e2]
   exact PySem.W.kat_lt_int q
theorem zI9 {vs:List Value}{ns:List Int}{out:List Nat}(hI:IntsAre vs ns)(p:SortT.Put (O:=intO) (fun i=>ns.getD i 0) vs.length out) :
 ∃ms:List Int,ms.Perm ns/\ms.Pairwise (· <= ·)/\zA2 (ms.map V.int) (out.map fun i=>vs.getD i Value.none)/\ms.length=ns.length:=by
 have hl:=hI.length
 have hb:∀i∈out,i<vs.length:=fun i hi=>zAu.mp (p.perm.mem_iff.mp hi)
 refine⟨out.map fun i=>ns.getD i 0,?_,?_,?_,?_⟩
 . have h1:=p.perm.map fun i=>ns.getD i 0
   have h2:(List.range vs.length).map (fun i=>ns.getD i 0)=ns:=by
    rw[show vs.length=ns.length by omega]
    apply List.ext_getElem?
    intro j
    rw[zU]
    by_cases hj:j<ns.length
    . rw[List.getElem?_range hj,zC hj];simp[hj]
    . rw[zAs (by rw[zA4];omega),zAs (by omega)];rfl
   rw[h2] at h1
   exact h1
 . refine zAh.mpr fun i j hi hj hij=>?_
   rw[zD] at hi hj
   have:=p.rise i j out[i] out[j] (zAE hij) (by simp) (by simp)
   have h3:decide (ns.getD out[j] 0<ns.getD out[i] 0)=false:=this
   have h4:=of_decide_eq_false h3
   rw[List.getElem_map,List.getElem_map]
   omega
 . have:∀l:List Nat,(∀i∈l,i<vs.length)->zA2 ((l.map fun i=>ns.getD i 0).map V.int) (l.map fun i=>vs.getD i Value.none):=by
    intro l
    induction l with
    | nil=>intro _;exact .nil
    | cons i l ih=>
     intro h
     have hi:=h i ze
     obtain⟨n,hn⟩:∃n,ns[i]? = some n:=⟨_,zC (by omega)⟩
     obtain⟨t,ht⟩:=hI.get i n hn
     refine .cons ?_ (ih fun j hj=>h j (zf _ hj))
     show zBY (V.int (ns.getD i 0)) (vs.getD i Value.none)
     rw[zE,zE,ht,hn]
     exact⟨t,rfl⟩
   exact this out hb
 . rw[zD,p.perm.length_eq,zA4];omega
section
variable {X:Cx}
theorem zFb (hc:X.calm=true):zB6 X (.builtin "sorted") (fun xs H Q=>∃p kvs ns,xs=[.ref p]/\H p=some (.dK kvs)/\kvs.map (·.1)=ns.map Sum.inl/\ns.length<64 /\
 ∀(l:Addr)(ms:List Int),H l=none->ms.Perm ns->ms.Pairwise (· <= ·)->Q (.ref l) (upd H l (.lst (ms.map V.int)))):=by
 intro pins s σ H xs us Q I r h
 obtain⟨p,kvs,ns,rfl,hd,hks,h64,q⟩:=h
 obtain⟨u,rfl,rx⟩:=zCa r
 cases rx
 obtain⟨hz,lo,vs,rel,o,es,ep,ho,hx,hdat,_,hpr,hnd⟩:=zII I.hok hd
 have key:∀(es:List DictEntry)(kvs:List (Key×V))(vs:List (Key×Value))(ns:List Int),KV kvs vs->Pairs (zBC X.prog X.w) es vs->kvs.map (·.1)=ns.map Sum.inl->IntsAre (es.map (·.key)) ns:=by
  intro es
  induction es with
  | nil=>
   intro kvs vs ns rel pr e
   cases pr
   cases rel
   cases ns with
   | nil=>exact .nil
   | cons n ns=>simp at e
  | cons d es ih=>
   intro kvs vs ns rel pr e
   cases pr with
   | cons k1 k2 k3=>
    cases rel with
    | cons hpq t=>
     cases ns with
     | nil=>simp at e
     | cons n ns=>
      simp only[zv,List.cons.injEq] at e
      rw[<-hpq.1,e.1] at k1
      obtain⟨t0,e0⟩:=Value.isInt_shape (k:=n) (v:=d.key) k1
      rw[zv,e0]
      exact .cons n t0 (ih _ _ _ t k3 e.2)
 have hI:IntsAre (es.toList.map (·.key)) ns:=key _ _ _ _ rel hpr hks
 have hl:=hI.length
 refine SortT.sorted_dict (O:=intO) (key:=fun i=>ns.getD i 0) (κ:=oneType') (vs:=es.toList.map (·.key)) (I.ok.hd hc) lo ⟨o,ho,hx,hdat⟩ rfl (by omega) (fun h2 s' a fa kp=>zIa hI h2) fun h1 D h' t' out c pt k1 hD k2 ho=>?_
 obtain⟨ms,hp,hr,rz,hlz⟩:=zI9 hI pt
 have I1:Inv X pins σ H { s with heap:=h1,toks:=s.toks }:=I.kept k1
 refine⟨.ref D,_,zEF (s:={ s with heap:=h1,toks:=s.toks }) (t':=t') I1 hD k2 ho rz ?_,rfl,q D ms (I1.hok.fresh hD) hp hr⟩
 have:sizeLine=16777216:=rfl
 rw[zD]
 omega
end
noncomputable def zIf (c:Addr)(q:Str):Heap->Prop:=fun h=>∃o vs t,h.get? c=some o/\o.data = .fields vs/\vs[1]? = some (.str q t)
noncomputable def zB5 (H:Hp)(P:Addr)(pos:Pos)(q:Str):Prop:=∃ps,H P=some (.tbl ps)/\TriplesOk ps.toList/\(codeAmong pos ps.toList=none\/∃c,codeAmong pos ps.toList=some (.ref c)/\H c=some (.ext (zIf c q)))
noncomputable def SmT (H H':Hp):Prop:=∀b o,H b=some o->(∃ps,o = .tbl ps)\/H' b=some o
theorem SmT.refl (H:Hp):SmT H H:=fun _ _ e=>.inr e
theorem SmT.of {H H':Hp}(h:zAW H H'):SmT H H':=fun b o e=>.inr (h b o e)
theorem SmT.trans {H H1 H2:Hp}(a:SmT H H1)(b:SmT H1 H2):SmT H H2:=fun c o e=>by
 rcases a c o e with z | z
 . exact .inl z
 . exact b c o z
theorem zB5.keep {H H':Hp}{P:Addr}{pos:Pos}{q:Str}(h:zB5 H P pos q)(k:∀o,H P=some o->H' P=some o)(k2:∀c φ,H c=some (.ext φ)->H' c=some (.ext φ)):zB5 H' P pos q:=by
 obtain⟨ps,a,b,c⟩:=h
 exact⟨ps,k _ a,b,c.imp id fun ⟨c,e,f⟩=>⟨c,e,k2 _ _ f⟩⟩
theorem zB5.same {H H':Hp}{P:Addr}{pos:Pos}{q:Str}(h:zB5 H P pos q)(k:zAW H H'):zB5 H' P pos q:=h.keep (fun _=>k _ _) fun _ _=>k _ _
noncomputable def zIg (mg:Str->Option Value)(h:Heap):Prop:=∃bm ob,mg "__builtins__" = some (.ref bm)/\bm≠builtinsNs/\h.get? bm=some ob/\ob.cls = .type "module" /\ ob.dict=some builtinsNs/\ob.data = .plain
theorem zKA {h:Heap}{a:Addr}{m m':Str->Option Value}(x:h.Ns a m)(y:h.Ns a m'):m=m':=by
 obtain⟨o,es,ep,e,d,_,f⟩:=x
 obtain⟨o',es',ep',e',d',_,f'⟩:=y
 rw[e] at e';cases e'
 rw[d] at d';cases d'
 funext n
 rw[<-f n,<-f' n]
section
variable {X:Cx}{pins:List (Addr×Obj)}{σ:St}{H:Hp}{s:Shared}
theorem Inv.growL {Pt c':Addr}{ps more:Array Value}{o:HO}{t':Nat}{h':Heap}(I:Inv X pins σ H s)(hP:H Pt=some (.tbl ps))(hp:s.heap.objs.size<=c')(k:∀b u,b≠Pt->s.heap.get? b=some u->h'.get? b=some u)
 (newP:h'.get? Pt=some (PySem.W.tabObj (ps++more)))(new:zBA X.prog X.w (upd (upd H Pt (.tbl (ps++more))) c' o) h' c' o) :
 Inv X pins σ (upd (upd H Pt (.tbl (ps++more))) c' o) { s with heap:=h',toks:=t' }:=by
 have hc:H c'=none:=I.hok.fresh hp
 have nP:∀b,H b=none->b≠Pt:=fun b n z=>by rw[z,hP] at n;cases n
 have nc:∀b u,s.heap.get? b=some u->b≠c':=fun b u e=>zW (zk (zS e) hp)
 have up:∀b u,H b=some u->b≠Pt->(upd (upd H Pt (.tbl (ps++more))) c' o) b=some u:=fun b u e hb=>by rw[zV (zc e hc),zV hb];exact e
 refine I.un ⟨fun b u e n _ _=>k b u (nP b n) e,fun b u e n _ _=>⟨u.slots,k b u (nP b n) e⟩,fun b u e n _=>by rw[zV (nc b u e),zV (nP b n)];exact n,fun b u e _=>?_,fun b xs e=>up b _ e (zAJ e hP (by intro z;cases z)),fun b ob u e=>up b _ e (zAJ e hP (by intro z;cases z)),fun b qs e=>?_⟩ ?_
 . by_cases hb:b=Pt
   . rw[hb];exact⟨_,newP⟩
   . exact⟨u,k b u hb e⟩
 . by_cases hb:b=Pt
   . subst hb
     rw[hP] at e;cases e
     exact⟨more,by rw[zV (zc hP hc),zH]⟩
   . exact⟨#[],by rw[up b _ e hb];simp⟩
 . intro b u e
   by_cases hbc:b=c'
   . subst hbc;rw[zH] at e;cases e;exact new
   . rw[zV hbc] at e
     by_cases hb:b=Pt
     . subst hb;rw[zH] at e;cases e;exact newP
     . rw[zV hb] at e
       refine (I.hok b u e).stay (fun d v hd q=>k d v ?_ q) (fun d q=>up d _ q (zAJ q hP (by intro z;cases z))) fun d xs q=>up d _ q (zAJ q hP (by intro z;cases z))
       rcases hd with z | z
       . rw[z];exact hb
       . exact zAJ z hP (by intro z';cases z')
theorem lam_ev {P c:Addr}{params:Arguments}{body:Expr}{lscope:Scope}{lpos:Pos}{Q:Value->Shared->Prop}{E:Value->Shared->Prop}(I:Inv X pins σ H s)(T:zB5 H P lpos (X.env.qual ++ "<lambda>"))
 (hcode:X.env.code = .ref c)(C:PySem.W.CodeHd X.base c P)(hbm:zIg X.mg X.base)(hfree:∀y∈lscope.names,y.2 = .free->X.env.kindOf y.1=some .cell)(hdef:defaultsOf params X.env=([],[]))
 (h:∀(f:Addr)(pm cv ctv:Value)(s':Shared)(H':Hp),Inv X pins σ H' s'->SmT H H'->zB5 H' P lpos (X.env.qual ++ "<lambda>")->s.heap.objs.size<=f ->
  s'.heap.get? f=some { cls:=.type "function",data:=.func (PySem.W.kla_fn "<lambda>" (X.env.qual ++ "<lambda>") params body lscope (zDG X.env.cells lscope.names []) pm cv ctv) } ->
  s'.heap.CodeRec cv (X.env.qual ++ "<lambda>")->Q (.ref f) s') :
 wpAny (model X.prog X.w) X.A (eval (.Lambda params body lscope lpos) X.env) Q E s:=by
 obtain⟨ps,hP,ht,hcase⟩:=T
 have oP:s.heap.get? P=some (PySem.W.tabObj ps):=I.hok P _ hP
 have hg:=I.mod.glob.keeps I.bk
 have C':PySem.W.CodeHd s.heap c P:=C.keeps I.bk
 have hcl:closureFor lscope X.env=pure (zDG X.env.cells lscope.names []):=zCq fun y hy hf=>I.ok.has y.1 (.inl (hfree y hy hf))
 have nP:∀b o,X.base.get? b=some o->b≠P:=fun b o e z=>by
  have:=(I.bs b o e).2
  rw[z,hP] at this;cases this
 have hgP:mainGlobals≠P:=by
  obtain⟨o,es,ep,e,_⟩:=I.mod.glob
  exact nP _ _ e
 have hb:s.heap.BuiltinsAt X.mg P:=by
  obtain⟨bm,ob,b1,b2,b3,b4,b5,b6⟩:=hbm
  refine⟨bm,ob,b1,b2,fun z=>?_,nP _ _ b3,I.bk _ _ b3,b4,b5,b6⟩
  obtain⟨o,es,ep,e,hd,_⟩:=I.mod.glob
  rw[z,e] at b3;cases b3;rw[hd] at b6;cases b6
 refine PySem.W.kla_eval hdef ?_
 rcases hcase with hn | ⟨c1,hc1,hH⟩
 . refine PySem.W.kla_makeFunction (mg:=X.mg) hcl I.ok.glob hg hcode C' oP ht hn hgP hb fun c' ctv h' tk hx hge hlt hrec htb=>?_
   obtain⟨c2,oc,vs,t,e2,hoc,hd,hv⟩:=id hrec
   cases e2
   have kp:∀b u,b≠P->s.heap.get? b=some u->(h'.push (PySem.W.kla_obj "<lambda>" (X.env.qual ++ "<lambda>") params body lscope (zDG X.env.cells lscope.names []) ((X.mg "__name__").getD .none) c' ctv)).get? b=some u:=fun b u hb' e=>zJ _ (hx b u hb' e)
   have hcn:H c'=none:=I.hok.fresh hge
   have nPc:P≠c':=zc hP hcn
   refine h h'.objs.size ((X.mg "__name__").getD .none) (.ref c') ctv _ _ (I.growL (c':=c') (o:=.ext (zIf c' (X.env.qual ++ "<lambda>"))) (t':=tk) hP hge kp (zJ _ htb) ⟨⟨oc,vs,t,zJ _ hoc,hd,hv⟩,⟨oc,zJ _ hoc⟩,fun h1 h2 ⟨o1,v1,t1,a1,a2,a3⟩ k12=>⟨o1,v1,t1,k12 _ a1,a2,a3⟩⟩) ?_ ?_ ?_ ?_ ?_
   . intro b o e
     by_cases hbP:b=P
     . left
       rw[hbP,hP] at e
       exact⟨ps,(zQ e).symm⟩
     . right
       rw[zV (zc e hcn),zV hbP];exact e
   . refine⟨ps ++ #[rawInt lpos.line,rawInt lpos.col,.ref c'],by rw[zV nPc,zH],?_,.inr ⟨c',?_,zH⟩⟩
     . rw[Array.toList_append];exact TriplesOk_snoc _ _ _ _ ht
     . rw[Array.toList_append];exact codeAmong_snoc _ ht hn
   . have:=zAE (zBE hge hlt)
     exact this
   . exact zP _ rfl
   . exact hrec.keeps fun b o e=>zJ _ e
 . obtain⟨⟨oc,vs,t,hoc,hd,hv⟩,_⟩:=I.hok c1 _ hH
   refine PySem.W.kla_makeFunctionHit (mg:=X.mg) hcl I.ok.glob hg hcode C' oP ht hc1 hb fun ctv h' tk hk hsz=>?_
   refine h h'.objs.size ((X.mg "__name__").getD .none) (.ref c1) ctv _ _ (I.kept (t':=tk) fun b u e=>zJ _ (hk b u e)) (SmT.refl _) ⟨ps,hP,ht,.inr ⟨c1,hc1,hH⟩⟩ hsz (zP _ rfl) ⟨c1,oc,vs,t,rfl,zJ _ (hk _ _ hoc),hd,hv⟩
end
theorem zLi {X:Cx}{sc:Scope}(h:(sc.names.all fun y=>y.2 != .free || X.env.kindOf y.1==some .cell)=true):∀y∈sc.names,y.2 = .free->X.env.kindOf y.1=some .cell:=fun y hy e=>by
 have a:=zBl.mp h y hy
 rw[e] at a
 simpa using a
section
variable {X:Cx}
noncomputable def zKT (j:Nat)(P:Addr)(lpos:Pos)(q:Str)(t:TA):TE:=fun σ H Q=>t σ H fun vs H1=>∃(l d:Addr)(ns:List Int)(kvs:List (Key×V))(val:Int->Int),vs=[.ref l]/\H1 l=some (.lst (ns.map V.int))/\ns≠[]/\σ[j]? = some (some (.ref d))/\H1 d=some (.dK kvs) /\
 (∀n∈ns,zCG kvs (Sum.inl n)=some (.int (val n)))/\zB5 H1 P lpos q/\∀(M:Int)(H2:Hp),M∈ns->(∀n∈ns,val M<=val n)->SmT H1 H2->zB5 H2 P lpos q->Q (.int M) H2
theorem zHY {k j:Nat}{P c:Addr}{dn pn:Str}{e:Expr}{t:TA}{params:Arguments}{lscope:Scope}{lpos pos np p1 p2 p3 kpos:Pos}
 (hc:X.calm=true)(hr:zCF (k+1) X.A)(hg:Gl X "min") (hm:X.mg "min" = none) (he:PA X [e] t)(hcode:X.env.code = .ref c)(C:PySem.W.CodeHd X.base c P)(hbm:zIg X.mg X.base)
 (hN:X.N[j]? = some dn)(hkd:X.env.kindOf dn=some .cell)(hS:lscope.kind = .function)(hco:lscope.isCoroutine=false)(hgen:lscope.isGenerator=false)(hcell:∀x∈lscope.names,x.2 ≠ .cell)
 (hfree:∀y∈lscope.names,y.2 = .free->X.env.kindOf y.1=some .cell)(hdn:lscope.names.lookup dn=some .free)(hpn:lscope.names.lookup pn=some .local)(hdef:defaultsOf params X.env=([],[]))
 (hbind:∀(q:Str)(body:Expr)(cl:List (Str×Addr))(pm cdv ct v:Value),bindArgs (PySem.W.kla_fn "<lambda>" q params body lscope cl pm cdv ct) ⟨[v],[]⟩=pure [(pn,v)])
 (hd1:(dn==("__debug__" : Str))=false:=by decide) (hd2:(dn==("__classdict__" : Str))=false:=by decide) (hd3:(pn==("__debug__" : Str))=false:=by decide)
 (hs1:backTo pos (starEach [e] X.env)=(false,eval e X.env)::backTo pos (starEach [] X.env):=by rfl)(hs2:(backTo pos (starEach [e] X.env)).any (·.1)=false:=by rfl) :
 PE X (.Call (.Name "min" np) [e] [⟨some "key",.Lambda params (.Subscript (.Name dn p1) (.Name pn p2) p3) lscope lpos,kpos⟩] pos) (zKT j P lpos (X.env.qual ++ "<lambda>") t):=by
 intro pins s σ H Q I h
 refine zAv (zCU I hg hm (by decide +kernel:bootBuiltins "min" = some (.builtin "min")) ?_)
 refine PyProof.Rows.callWith_kw (thn (he pos pins s σ H _ I h) fun us s1 ⟨vs,H1,I1,r,q1⟩=>?_) hs1 hs2
 obtain⟨l,d,ns,kvs,val,rfl,hl,hne,hσ,hdd,hval,T,q⟩:=q1
 obtain⟨u,rfl,rx⟩:=zCa r
 cases rx
 show wpAny _ _ (evalAll ((do let v <-eval (.Lambda params (.Subscript (.Name dn p1) (.Name pn p2) p3) lscope lpos) X.env;standAt pos;pure v)::[])) _ _ s1
 refine wpAny_evalAll_cons (zA (lam_ev I1 T hcode C hbm hfree hdef fun f pm cv ctv s2 H2 I2 sm T2 hfge hf hrec=>zA (wpAny_standAt (zG (wpAny_evalAll_nil ?_)))))
 show wpAny _ _ (call (.builtin "min") [.ref l] [(Str.ofString "key",.ref f)]) _ _ s2
 have keep2:∀b o,H1 b=some o->(∀ps,o ≠ .tbl ps)->H2 b=some o:=fun b o e ho=>by
  rcases sm b o e with ⟨ps,z⟩ | z
  . exact absurd z (ho ps)
  . exact z
 have hl2:H2 l=some (.lst (ns.map V.int)):=keep2 _ _ hl (by intro ps z;cases z)
 have hd2':H2 d=some (.dK kvs):=keep2 _ _ hdd (by intro ps z;cases z)
 obtain⟨_,its,nn,rv,ho⟩:=I2.hok l _ hl2
 obtain⟨hz,lo,vs,rel,od,es,ep,hod,hdr⟩:=zII I2.hok hd2'
 have hI:IntsAre its ns:=zBR rv
 obtain⟨m,F0⟩:=I2.fr
 have notL:∀b o,H2 b=some o->b≠X.env.locals:=fun b o e z=>by rw[z,I2.free] at e;cases e
 have kp:∀(h':Heap)(own:List (Addr×Obj)),Fr X.base X.env.locals h' m->News X.base X.env.locals h' (zDu X.base s2.heap X.env.locals++own)->∀b o,b≠X.env.locals->s2.heap.get? b=some o->h'.get? b=some o:=fun h' own F' N' b o hb e'=>by
  cases qb:X.base.get? b with
  | some u=>
   have z:=I2.bk b u qb
   rw[e'] at z;cases z
   exact F'.keep b _ qb
  | none=>exact (N' (b,o) (zBa _ (zF3 hb qb e'))).1
 obtain⟨m',hn',hloc⟩:=I2.loc
 have em:m'=m:=zKA hn' F0.ns
 subst em
 obtain⟨ud,rd,lk⟩:=hloc j dn (.ref d) hN hσ (.inr (.inl hkd))
 cases (show ud=Value.ref d from rd)
 obtain⟨cc,hcc,oc,hoc,hdc⟩:∃cc,X.env.cells.lookup dn=some cc/\s2.heap.IsCell cc (some (.ref d)):=by
  rcases lk with ⟨z,_⟩ | ⟨_,cc,a,b⟩
  . rw[hkd] at z;cases z
  . exact⟨cc,a,b⟩
 have hcl:(zDG X.env.cells lscope.names []).lookup dn=some cc:=by
  obtain⟨c',hc'⟩:=zCs ⟨cc,hcc⟩ lscope.names [] (PySem.mem_of_lookup hdn)
  rcases zCr _ _ hc' with z | z
  . simp at z
  . rw[hcc] at z;cases z;exact hc'
 have hsz0:X.env.locals<s1.heap.objs.size:=I1.lt
 have hfL:f≠X.env.locals:=zAH (zk hsz0 hfge)
 refine PyProof.Rows.kmk_min_letter (h₀:=X.base) (L:=X.env.locals) (m:=m') (news:=zDu X.base s2.heap X.env.locals) (ns:=ns) val (I2.ok.hd hc) F0 zJO (fun h' F' N'=>?_) hI (List.length_pos_iff.mpr hne) (fun n tn h' tk own hn F' N'=>?_) (fun M tM h' tk F' N' hM hbest=>?_)
 . exact⟨_,kp h' [] F' (by rw[zr];exact N') l _ (notL _ _ hl2) ho,rfl,nn,rfl⟩
 . have kk:=kp h' own F' N'
   obtain⟨c1,o1,v1,t1,e1,ho1,hd1',hv1⟩:=id hrec
   subst e1
   have hc1L:c1≠X.env.locals\/True:=.inr trivial
   have rec':h'.CodeRec (.ref c1) (X.env.qual ++ "<lambda>"):=by
    refine⟨c1,o1,v1,t1,rfl,kk c1 o1 (fun z=>?_) ho1,hd1',hv1⟩
    obtain⟨oL,esL,epL,hoL,hdL,_⟩:=F0.ns
    rw[z,hoL] at ho1;cases ho1;rw[hdL] at hd1';cases hd1'
   refine wpAny_call (PySem.W.kla_callFunE hr.in1.depth (kk f _ hfL hf) rfl hco hgen rfl rec' ?_)
   rw[hbind]
   refine zG (wpAny_newFunctionEnv hcell (fun y hy=>?_) (fun h₁ hns hsb=>?_) hS)
   . obtain rfl:y=(pn,Value.int n tn):=zi.mp hy
     exact hpn
   . have hk₁:∀b o,h'.get? b=some o->h₁.get? b=some o:=fun b o e'=>hsb.extBut b o (zW (zS e')) (zJ _ e')
     refine⟨I2.mod.nolimit.keeps fun b o e'=>hk₁ b o (F'.keep b o e'),?_⟩
     show codeAny _ _ (.expr (.Subscript (.Name dn p1) (.Name pn p2) p3) (PySem.W.envX (X.env.qual ++ "<lambda>") lscope h'.objs.size f (.ref c1) (zDG X.env.cells lscope.names []))) _ _
     refine PySem.W.kla_codeExpr (zKX PySem.F.slot_dict_getitem.lookup (fun _ _=>rfl) ?_)
     refine wpAny_Name (wpAny_loadName_free hS (show (PySem.W.envX (X.env.qual ++ "<lambda>") lscope h'.objs.size f (.ref c1) (zDG X.env.cells lscope.names [])).kindOf dn=some .free from hdn) hcl ⟨oc,hk₁ _ _ (kk cc oc (I2.cne dn cc hcc) hoc),hdc⟩ ?_ hd2) hd1
     refine wpAny_Name (wpAny_loadName_local hS (show (PySem.W.envX (X.env.qual ++ "<lambda>") lscope h'.objs.size f (.ref c1) (zDG X.env.cells lscope.names [])).kindOf pn=some .local from hpn) hns (v:=.int n tn) (by simp) ?_) hd3
     have dd:h₁.DictOf (zBC X.prog X.w) d vs:=⟨od,es,ep,hk₁ _ _ (kk d od (notL _ _ hd2') hod),hdr⟩
     refine⟨dd.typeIs,?_⟩
     obtain⟨w',hw,rw'⟩:=zEx.some_of (v:=.int (val n)) (o:=valueAt vs (Sum.inl n)) (by rw[<-hval n hn];exact rel.val (Sum.inl n))
     obtain⟨t',rfl⟩:=rw'
     refine wpAny_getItem_of (zGv (k:=Sum.inl n) ⟨tn,rfl⟩) dd.mapOf hw ?_
     exact⟨h₁,_,t',rfl,rfl,⟨F'.ns.keeps hk₁,fun b o e'=>hk₁ b o (F'.keep b o e'),F'.above⟩,fun p hp=>⟨hk₁ _ _ (N' p hp).1,(N' p hp).2⟩⟩
 . have kk:=kp h' [] F' (by rw[zr];exact N')
   have I3:Inv X pins σ H2 { s2 with heap:=h',toks:=tk }:=by
    refine I2.step (g':=s2.gens) (d':=s2.drawn) (ch:=[]) (fun _ z=>nomatch z) (fun b o hb _ _ e' _=>kk b o hb e') (fun b o hb _ _ e' _=>⟨o.slots,kk b o hb e'⟩) (fun _ _ _ _ n=>n) (fun b o _ e'=>?_) (fun _ _ e'=>e') (fun _ _ _ e'=>e') (fun b ps e'=>⟨#[],by rw[e'];simp⟩) (fun mm hmm=>?_) ?_ I2.bare
    . by_cases hb:b=X.env.locals
      . obtain⟨oL,esL,epL,hoL,_⟩:=F'.ns
        exact⟨oL,by rw[hb];exact hoL⟩
      . exact⟨o,kk b o hb e'⟩
    . have:=zKA hmm F0.ns
      subst this
      exact F'.ns
    . intro b u e'
      refine (I2.hok b u e').stay (fun x v hx z=>kk x v ?_ z) (fun _ z=>z) fun _ _ z=>z
      rcases hx with z1 | z1
      . rw[z1];exact notL _ _ e'
      . exact notL _ _ z1
   exact⟨.int M,H2,I3,⟨tM,rfl⟩,q M H2 hM hbest sm T2⟩
end
theorem zHx {P:Program}{w:World}{K:PySem.W.Frag}{mg mb:Str->Option Value}{CX:CXT}{k:Nat}{fa a PT:Addr}{fd:FuncData}{x:Str}{sp:Sp}{s₁:Shared}{vs:List Value}{ns:List Int}
 (KX:K.In s₁.heap)(hns:s₁.heap.Ns mainGlobals mg)(hb:s₁.heap.Ns builtinsNs mb)(hbb:∀x:Str,x ≠ "__name__" -> mb x=bootBuiltins x) (hlim:s₁.heap.NoLimit)(hg:s₁.gens = #[])
 (ha:s₁.heap.get? a=some { cls:=.type "list",data:=.seq vs.toArray }) (hi:IntsAre vs ns)(hl:ns.length<=sizeLine)(hr:zCF k callerA)
 (hT:s₁.heap.get? PT=some (PySem.W.tabObj #[]))(hC:isCodeTable s₁.heap PT)(hK:PySem.W.noTabs K=true)(hbm:zIg mg s₁.heap)
 (F:∀base:Heap,K.In base->base.Ns mainGlobals mg->zIg mg base->zy P w K mg base CX k fa fd [x] sp)(hbind:∀(s:Shared)(u:Value),BindsTo s fd ⟨[u],[]⟩ [(x,u)])
 (hsp:∀H:Hp,H PT=some (.tbl #[])->SqL K H a (ns.map V.int)->sp [.ref a] H (fun v _=>v = .bl true) fun _ _ _=>False)
 (hCX:∀H e s',CX [] H s₁ (fun _ _ _=>False) e s'->False) :
 codeAny (model P w) callerA (.call (.ref fa) ⟨[.ref a],[]⟩) (fun r s'=>r = .ok (.ret (.bool true))/\OldK s₁.heap s'.heap/\s'.os=s₁.os/\AllBare s'.gens) s₁:=by
 have rv:=zEz hi
 have lenV:=hi.length
 have npa:PT≠a:=fun e=>by rw[e,ha] at hT;cases hT
 have kPT:K.lookup PT=none:=by
  cases q:K.lookup PT with
  | none=>rfl
  | some o=>
   have e:=KX PT o q
   rw[hT] at e
   cases e
   have h2:=zBl.mp hK (PT,_) (PySem.W.mem_of_lookupK q)
   exact absurd (show false=true from h2) zT
 have core:∀H:Hp,(∀b u,H b=some u->(b=PT/\u = .tbl #[])\/(b=a/\K.lookup a=none/\∃o xs,u = .frz o (.lst xs)))->H PT=some (.tbl #[])->SqL K H a (ns.map V.int)->HOk P w H s₁.heap ->
  codeAny (model P w) callerA (.call (.ref fa) ⟨[.ref a],[]⟩) (fun r s'=>r = .ok (.ret (.bool true))/\OldK s₁.heap s'.heap/\s'.os=s₁.os/\AllBare s'.gens) s₁:=by
  intro H hA hP hS hok
  have base_of:∀{b:Addr}{o:Obj},s₁.heap.get? b=some o->H b=none->(zIh s₁.heap H).get? b=some o:=fun e n=>zJT e n
  have noA:∀{b:Addr}{o:Obj},s₁.heap.get? b=some o->(∀ps,o.data ≠ .fields ps)->(∀ps n,o.data ≠ .seq ps n)->H b=none:=fun {b o} e d1 d2=>by
   cases q:H b with
   | none=>rfl
   | some u=>
    rcases hA b u q with ⟨rfl,_⟩ | ⟨rfl,_⟩
    . rw[hT] at e;cases e;exact absurd rfl (d1 #[])
    . rw[ha] at e;cases e;exact absurd rfl (d2 _ _)
  have nsK:∀{b:Addr}{m:Str->Option Value},s₁.heap.Ns b m->(zIh s₁.heap H).Ns b m:=fun {b m} ⟨o,es,ep,e,d,r⟩=>⟨o,es,ep,base_of e (noA e (fun ps z=>by rw[d] at z;cases z) (fun ps n z=>by rw[d] at z;cases z)),d,r⟩
  have hKb:K.In (zIh s₁.heap H):=fun b o e=>base_of (KX b o e) (by
   cases q:H b with
   | none=>rfl
   | some u=>
    rcases hA b u q with ⟨rfl,_⟩ | ⟨rfl,z,_⟩
    . rw[kPT] at e;cases e
    . rw[z] at e;cases e)
  have hBm:zIg mg (zIh s₁.heap H):=by
   obtain⟨bm,ob,b1,b2,b3,b4,b5,b6⟩:=hbm
   exact⟨bm,ob,b1,b2,base_of b3 (noA b3 (fun ps z=>by rw[b6] at z;cases z) (fun ps n z=>by rw[b6] at z;cases z)),b4,b5,b6⟩
  have hM:Mod K mg (zIh s₁.heap H):=⟨hKb,nsK hns,⟨mb,nsK hb,hbb⟩,let ⟨mc,h1,h2⟩:=hlim;⟨mc,nsK h1,h2⟩⟩
  have e0:zLv P w K mg (zIh s₁.heap H) callerA [] s₁ H:=⟨rfl,hM,fun b o e=>zLY e,Nat.le_of_eq (zIB _ _),trivial,fun b hb=>absurd (show b∈([]:List Addr) from hb) (by simp),hok,.of_eq hg⟩
  refine codeAny_mono ((F _ hKb (nsK hns) hBm).run callerA [] s₁ H ⟨[.ref a],[]⟩ [.ref a] [.ref a] _ _ hr e0 (hbind s₁ (.ref a)) (.cons rfl .nil) (hsp H hP hS)) fun r s' h=>?_
  cases r with
  | error e=>exact (hCX H e s' h).elim
  | ok fl=>
   cases fl with
   | next=>exact False.elim h
   | brk=>exact False.elim h
   | cont=>exact False.elim h
   | ret u=>
    obtain⟨v,H',os,bare,un,hok',r',q⟩:=h
    have q':v = .bl true:=q
    subst q'
    obtain rfl:u=Value.bool true:=r'
    obtain⟨more,hPn⟩:=un.tbls PT _ hP
    have objP:s'.heap.get? PT=some { cls:=.none,data:=.fields (#[]++more) }:=hok' PT _ hPn
    have keep:∀b o,b≠PT->s₁.heap.get? b=some o->s'.heap.get? b=some o:=fun b o hb e=>by
     cases q:H b with
     | none=>exact un.keep b o e q (by intro z;exact absurd (show b∈([]:List Addr) from z) (by simp)) (by simp)
     | some u=>
      rcases hA b u q with ⟨z,_⟩ | ⟨_,_,ob,xs,z⟩
      . exact absurd z hb
      . subst z
        have z2:=un.frzs b ob _ q
        obtain⟨e1,_⟩:=hok b _ q
        obtain⟨e2,_⟩:=hok' b _ z2
        rw[e] at e1;cases e1
        exact e2
    refine⟨rfl,⟨fun b o e=>?_,fun b o e=>?_⟩,os,bare⟩
    . by_cases hb:b=PT
      . subst hb
        rw[hT] at e;cases e
        exact .inr (.inl ⟨hC,rfl,#[],more,rfl,objP⟩)
      . exact .inl (keep b o hb e)
    . by_cases hb:b=PT
      . rw[hb];exact⟨_,objP⟩
      . exact⟨o,keep b o hb e⟩
 have okP:∀H:Hp,zBA P w H s₁.heap PT (.tbl #[]):=fun H=>hT
 cases hk:K.lookup a with
 | some o=>
  have e:=KX a o hk
  rw[ha] at e
  cases e
  refine core (fun b=>if b=PT then some (.tbl #[]) else none) (fun b u z=>?_) (if_pos rfl) (.inr ⟨_,vs.toArray,_,hk,rfl,rfl,rfl,by rw[zI,lenV];exact hl,by simpa using rv⟩) (fun b u z=>?_)
  all_goals
   have z':(if b=PT then some (HO.tbl #[]) else none)=some u:=z
   by_cases hb:b=PT
   . rw[if_pos hb] at z';cases z'
     first
      | exact .inl ⟨hb,rfl⟩
      | (subst hb;exact okP _)
   . rw[if_neg hb] at z';cases z'
 | none=>
  refine core (fun b=>if b=PT then some (.tbl #[]) else if b=a then some (.frz { cls:=.type "list",data:=.seq vs.toArray } (.lst (ns.map V.int))) else none) (fun b u z=>?_) (if_pos rfl)
   (.inl (.inr ⟨{ cls:=.type "list",data:=.seq vs.toArray },by show (if a=PT then _ else if a=a then _ else _)=_;rw[if_neg npa.symm,if_pos rfl]⟩)) (fun b u z=>?_)
  all_goals
   have z':(if b=PT then some (HO.tbl #[]) else if b=a then some (.frz { cls:=.type "list",data:=.seq vs.toArray } (.lst (ns.map V.int))) else none)=some u:=z
   by_cases hb:b=PT
   . rw[if_pos hb] at z';cases z'
     first
      | exact .inl ⟨hb,rfl⟩
      | (subst hb;exact okP _)
   . rw[if_neg hb] at z'
     by_cases hba:b=a
     . rw[if_pos hba] at z';cases z'
       first
        | exact .inr ⟨hba,hk,_,_,rfl⟩
        | (subst hba;exact⟨ha,by rw[zD];exact hl,vs,_,rv,ha⟩)
     . rw[if_neg hba] at z';cases z'
theorem walk_T {l:PySem.W.OpenLaw}{n k:Nat}{q:Program}{loose:List Str}{XP:(Str->Option Value)->Heap->Prop}{YP:World->Heap->Prop}{d:DefRec}{K:Params->PySem.W.Frag}{CX:CXT}{sp:PySem.W.Frag->Addr->Sp}{x tn:Str}
 (hn:l.most=some n)(hn2:n<=sizeLine)(hdf:d.params.defaults=[])(hr:zCF k callerA)(hrec:∃dn,(recsOf q).find? (fun e=>e.name==tn)=some dn)
 (hY:∀(w:World)(h:Heap),YP w h->(K w.params).In h)
 (F:∀(w:World)(mg:Str->Option Value)(fa:Addr)(h:Heap),(K w.params).In h->h.Ns mainGlobals mg->mg d.name=some (.ref fa) ->
  ∃(fd:FuncData)(c PT:Addr),PySem.W.tabIn (K w.params) tn=some (c,PT)/\PySem.W.noTabs (K w.params)=true/\(∀(s:Shared)(u:Value),BindsTo s fd ⟨[u],[]⟩ [(x,u)]) /\
   ∀base:Heap,(K w.params).In base->base.Ns mainGlobals mg->zIg mg base->zy l.prog w (K w.params) mg base CX k fa fd [x] (sp (K w.params) PT))
 (hsp:∀(K:PySem.W.Frag)(PT:Addr)(H:Hp)(a:Addr)(ns:List Int),ns.length<=n->H PT=some (.tbl #[])->SqL K H a (ns.map V.int)->sp K PT [.ref a] H (fun v _=>v = .bl true) fun _ _ _=>False)
 (hCX:∀(H:Hp)(s:Shared)(e:Value)(s':Shared),CX [] H s (fun _ _ _=>False) e s'->False) :
 PySem.W.WalkO q loose XP YP l.row.toRowW d [] (fun f vs=>PySem.call f vs):=by
 refine Att.attach_call hn hdf fun w s₀ s₁ mg mb fa o pm cd doc a vs ns G Y ho hd hcd hmg hobj hints hlen hg=>?_
 have KX:=hY w _ Y
 obtain⟨fd,c,PT,htab,hnt,hb,hF⟩:=F w mg fa _ KX G.T.g hmg
 obtain⟨dn,hdn⟩:=hrec
 obtain⟨C,hPT⟩:=PySem.W.tab_of G.T KX hdn htab
 exact zHx KX G.T.g G.T.b G.T.builtins G.T.nolimit hg hobj hints (zAp hlen hn2) hr hPT (C.tab hPT).isCodeTable hnt G.T.bmain hF hb (fun H hP hS=>hsp _ PT H a ns hlen hP hS) fun H e s'=>hCX H s₁ e s'
end L2
namespace L2
open PySem PySem.Spec PyProof.Rows
structure zJl (K:PySem.W.Frag)(x qual:Str)(st:Stmt)(f:Addr)(fd:FuncData)(c:Addr):Prop where
 ex:∃(oc:Value)(od:Option Addr)(kV doc pm:Value)(an:Option Addr)(ct:Value)(osl:Array (Option Value)),
  fd=PySem.W.fnOf x qual (defArgs st) (defBody st) (defScope st) .none kV doc pm an (.ref c) ct/\K.lookup f=some ⟨oc,od,.func fd,osl⟩/\PySem.W.codeIn K (.ref c) qual=true
 kp:PySem.W.keepIn K (.ref f)=true
theorem zJl.fn {K:PySem.W.Frag}{x qual:Str}{st:Stmt}{f c:Addr}{fd:FuncData}(F:zJl K x qual st f fd c):Fun K x qual st f fd:=by
 obtain⟨oc,od,kV,doc,pm,an,ct,osl,h⟩:=F.ex
 exact⟨⟨oc,od,kV,doc,pm,an,.ref c,ct,osl,h⟩,F.kp⟩
theorem zJl.ok {P:Program}{w:World}{K:PySem.W.Frag}{mg:Str->Option Value}{base:Heap}{x qual:Str}{st:Stmt}{f c:Addr}{fd:FuncData}{N ps:List Str}{k:Nat}{sp:Sp}(F:zJl K x qual st f fd c)(S:zAA N ps (defScope st))(len:∀vs H Q E,sp vs H Q E->vs.length=ps.length)
 (hbody:∀(A:Around)(outer:List Env)(s:Shared)(H:Hp)(vs:List V)(Q:VK)(E:XK),zCF k (A.deeper (envOfC qual (defScope st) s.heap.objs.size f (.ref c)))->sp vs H Q E ->
  ∃t,PSs (zGa CX0 P w K mg base N qual (defScope st) f (.ref c) A outer s H E).nox (defBody st) t/\t { nx:=fun _ H'=>Q .non H',rt:=Q } (start N vs) H):zy P w K mg base CX0 (k+1) f fd ps sp:=by
 obtain⟨oc,od,kV,doc,pm,an,ct,osl,rfl,lk,hcd⟩:=F.ex
 refine zLl lk hcd S len fun A outer s H vs Q E hr hsp=>?_
 obtain⟨t,h,q⟩:=hbody A outer s H vs Q E hr hsp
 exact⟨t,h.nox,q⟩
theorem zLh {K:PySem.W.Frag}{x qual:Str}{st:Stmt}{f c:Addr}{oc:Value}{od an:Option Addr}{osl:Array (Option Value)}{kV doc pm ct:Value}(l:K.lookup f=some ⟨oc,od,.func (PySem.W.fnOf x qual (defArgs st) (defBody st) (defScope st) .none kV doc pm an (.ref c) ct),osl⟩)
 (hc:PySem.W.codeIn K (.ref c) qual=true)(k:PySem.W.keepIn K (.ref f)=true):zJl K x qual st f (PySem.W.fnOf x qual (defArgs st) (defBody st) (defScope st) .none kV doc pm an (.ref c) ct) c:=⟨⟨oc,od,kV,doc,pm,an,ct,osl,rfl,l,hc⟩,k⟩
section
variable {κ:Type} [DecidableEq κ]
theorem zJQ {kvs:List (κ×V)}{k:κ}{v:V}{kv:κ×V}(h:kv∈zDK kvs k v):kv∈kvs\/kv=(k,v):=by
 unfold zDK at h
 split at h
 . obtain⟨q,hq,e⟩:=zAB.mp h
   by_cases hk:q.1=k
   . rw[if_pos hk] at e;rw[<-e,hk];exact .inr rfl
   . rw[if_neg hk] at e;rw[<-e];exact .inl hq
 . rcases zx.mp h with q | q
   . exact .inl q
   . exact .inr (zi.mp q)
theorem nd_put {kvs:List (κ×V)}{k:κ}{v:V}(h:(kvs.map (·.1)).Nodup):((zDK kvs k v).map (·.1)).Nodup:=by
 cases e:zCG kvs k with
 | none=>exact zLZ v h e
 | some x=>
  have ha:(kvs.any fun kv=>decide (kv.1=k))=true:=by rw[zB2,e];rfl
  unfold zDK
  rw[if_pos ha]
  have e3:(kvs.map fun kv=>if kv.1=k then (kv.1,v) else kv).map (·.1)=kvs.map (·.1):=by
   rw[List.map_map]
   refine zBQ fun kv _=>?_
   show (if kv.1=k then (kv.1,v) else kv).1=kv.1
   split <;> rfl
  rw[e3];exact h
theorem zE2 (k j:κ):∀kvs:List (κ×V),zCG (zB1 kvs k) j=if j=k then none else zCG kvs j
 | []=>by show (none:Option V)=_;split <;> rfl
 | p::r=>by
  have ih:=zE2 k j r
  by_cases e:p.1=k
  . rw[zFV e,ih]
    by_cases hj:j=k
    . rw[if_pos hj,if_pos hj]
    . rw[if_neg hj,if_neg hj,zBO fun z=>hj (z.symm.trans e)]
  . rw[zFW e]
    by_cases hj:p.1=j
    . rw[zBT hj,zBT hj,if_neg fun z=>e (hj.trans z)]
    . rw[zBO hj,zBO hj,ih]
end
noncomputable def unkW:Key->Int
 | .inl i=>i
 | .inr _=>0
structure WD (n:Int)(kvs:List (Key×V))(wt:Int->Option Int):Prop where
 sh:∀kv∈kvs,∃p d,kv=(Sum.inl p,V.int d)/\0<=p/\p<n
 nd:(kvs.map (·.1)).Nodup
 at_:∀p:Int,zCG kvs (Sum.inl p)=(wt p).map V.int
noncomputable def zD2 (kvs:List (Key×V)):List Int:=kvs.map fun kv=>unkW kv.1
theorem WD.keys {n:Int}{kvs:List (Key×V)}{wt:Int->Option Int}(h:WD n kvs wt):kvs.map (·.1)=(zD2 kvs).map Sum.inl:=by
 unfold zD2
 rw[List.map_map]
 refine zBQ fun kv hkv=>?_
 obtain⟨p,d,e,_⟩:=h.sh kv hkv
 rw[e];rfl
theorem WD.nds {n:Int}{kvs:List (Key×V)}{wt:Int->Option Int}(h:WD n kvs wt):(zD2 kvs).Nodup:=by
 have e:=h.nd
 rw[h.keys,List.Nodup,zAU] at e
 exact e.imp fun h e'=>h (by rw[e'])
theorem WD.len {n:Int}{kvs:List (Key×V)}{wt:Int->Option Int}(h:WD n kvs wt)(h0:0<=n):(kvs.length:Int)<=n:=by
 have:=WM.nd_len (n:=n.toNat) h.nds fun x hx=>by
  obtain⟨kv,hkv,e⟩:=zAB.mp hx
  obtain⟨p,d,e2,h1,h2⟩:=h.sh kv hkv
  have:x=p:=by rw[<-e,e2];rfl
  omega
 unfold zD2 at this
 rw[zD] at this
 omega
theorem WD.mem {n:Int}{kvs:List (Key×V)}{wt:Int->Option Int}(h:WD n kvs wt){p:Int}:p∈zD2 kvs↔∃e,wt p=some e:=by
 have e:p∈zD2 kvs↔(Sum.inl p:Key)∈kvs.map (·.1):=by
  rw[h.keys]
  constructor
  . intro m;exact zAB.mpr ⟨p,m,rfl⟩
  . intro m
    obtain⟨q,hq,e⟩:=zAB.mp m
    cases e;exact hq
 rw[e]
 have ha:=h.at_ p
 constructor
 . intro m
   cases hw:wt p with
   | some d=>exact⟨d,rfl⟩
   | none=>rw[hw] at ha;exact absurd m (zGC ha)
 . rintro ⟨d,hw⟩
   rw[hw] at ha
   exact zKP ha
theorem WD.one {n s:Int}(h0:0<=s)(h1:s<n):WD n [(Sum.inl s,V.int 0)] (fun q=>if q=s then some 0 else none):=by
 refine⟨fun kv hkv=>?_,by simp,fun p=>?_⟩
 . rw[zi.mp hkv];exact⟨s,0,rfl,h0,h1⟩
 . by_cases e:p=s
   . rw[if_pos e,e];exact zBT rfl
   . rw[if_neg e];exact (zBO fun z=>e (Sum.inl.inj z).symm).trans zIm
theorem WD.put {n:Int}{kvs:List (Key×V)}{wt:Int->Option Int}(h:WD n kvs wt){p d:Int}(h0:0<=p)(h1:p<n):WD n (zDK kvs (Sum.inl p) (.int d)) (fun q=>if q=p then some d else wt q):=by
 refine⟨fun kv hkv=>?_,nd_put h.nd,fun q=>?_⟩
 . rcases zJQ hkv with z | z
   . exact h.sh kv z
   . exact⟨p,d,z,h0,h1⟩
 . rw[zIl]
   by_cases e:q=p
   . rw[if_pos e,if_pos (by rw[e])];rfl
   . rw[if_neg e,if_neg fun z=>e (Sum.inl.inj z)];exact h.at_ q
theorem WD.drop {n:Int}{kvs:List (Key×V)}{wt:Int->Option Int}(h:WD n kvs wt){p:Int}:WD n (zB1 kvs (Sum.inl p)) (fun q=>if q=p then none else wt q):=by
 refine⟨fun kv hkv=>h.sh kv (zFX hkv),zEl h.nd,fun q=>?_⟩
 rw[zE2]
 by_cases e:q=p
 . rw[if_pos e,if_pos (by rw[e])];rfl
 . rw[if_neg e,if_neg fun z=>e (Sum.inl.inj z)];exact h.at_ q
noncomputable def oV:Option Int->V
 | none=>.non
 | some d=>.int d
theorem ixN_in {n:Nat}{i:Int}(h0:0<=i)(h1:i<n):ixN n i=some i.toNat:=by
 unfold ixN
 rw[if_pos h0,if_pos h1]
theorem zBf {α:Type}{xs:List α}{i:Int}{v:α}(h0:0<=i)(h:xs[i.toNat]? = some v):atI xs i=some v:=by
 have:=zDr h
 rwa [Int.toNat_of_nonneg h0] at this
theorem SmT.get {H H':Hp}(k:SmT H H'){b:Addr}{o:HO}(e:H b=some o)(h:∀ps,o ≠ .tbl ps):H' b=some o:=by
 rcases k b o e with ⟨ps,z⟩ | z
 . exact absurd z (h ps)
 . exact z
theorem SmT.chg {H H':Hp}{l:Addr}{o:HO}(k:SmT H H')(h:H l=none):SmT H (upd H' l o):=fun b u e=>by
 rcases k b u e with z | z
 . exact .inl z
 . right
   rw[zV (zc e h)];exact z
theorem zB5.chg {H:Hp}{P l:Addr}{pos:Pos}{q:Str}{o:HO}{xs:List V}(T:zB5 H P pos q)(h:H l=some (.lst xs)):zB5 (upd H l o) P pos q:=by
 obtain⟨ps,hps,_⟩:=id T
 refine T.keep (fun u hu=>?_) fun c φ hc=>?_
 . rw[zV (zAJ hps h (by intro z;cases z))];exact hu
 . rw[zV (zAJ hc h (by intro z;cases z))];exact hc
end L2
namespace L2
open PySem PySem.Spec PyProof.Rows
theorem zGX {xs ys:List Int}:((List.range (min xs.length ys.length)).all (fun j=>xs.getD j 0==ys.getD j 0) && xs.length==ys.length)=decide (xs=ys):=by
 by_cases h:xs=ys
 . subst h;simp
 . rw[zb h]
   by_cases hl:xs.length=ys.length
   . have:∃j,j<xs.length/\xs.getD j 0≠ys.getD j 0:=by
      apply zAQ
      intro hn
      refine h (List.ext_getElem hl fun j h1 h2=>?_)
      apply zAQ
      intro hne
      exact hn ⟨j,h1,by simpa [zE,h1,h2] using hne⟩
     obtain⟨j,hj,hne⟩:=this
     rw[Bool.and_eq_false_iff]
     left
     rw[List.all_eq_false]
     exact⟨j,by rw[zAu];omega,by simpa using hne⟩
   . simp[hl]
section
variable {X:Cx}
noncomputable def rEqT (K:PySem.W.Frag)(neg:Bool):R2:=fun x y H Q=>∃(a b:Addr)(xs ys:List Int),x = .ref a/\y = .ref b/\SqT K H a (xs.map V.int)/\SqT K H b (ys.map V.int)/\Q (.bl (if neg then !decide (xs=ys) else decide (xs=ys))) H
theorem eqAts {A:Around}{s:Shared}{us ws:List Value}{xs ys:List Int}(h1:IntsAre us xs)(h2:IntsAre ws ys)(j:Nat)(a:j<us.toArray.size)(b:j<ws.toArray.size):SeqAt.EqAt A s us.toArray[j] ws.toArray[j] (xs.getD j 0==ys.getD j 0):=by
 have l1:=h1.length
 have l2:=h2.length
 rw[zI] at a b
 obtain⟨n,hn⟩:∃n,xs[j]? = some n:=⟨_,zC (by omega)⟩
 obtain⟨m,hm⟩:∃m,ys[j]? = some m:=⟨_,zC (by omega)⟩
 obtain⟨t,ht⟩:=h1.get j n hn
 obtain⟨u,hu⟩:=h2.get j m hm
 have e1:us.toArray[j] = .int n t:=by
  rw[zC a] at ht
  simpa using zQ ht
 have e2:ws.toArray[j] = .int m u:=by
  rw[zC b] at hu
  simpa using zQ hu
 rw[e1,e2,zE,zE,hn,hm]
 exact SeqAt.EqAt.int_int n t m u
theorem op_neT (hu:X.A.units<cLine):OpR X (compareOp .NotEq) (rEqT X.K true):=by
 intro pins s σ H x y v u Q I rx ry h
 obtain⟨a,b,xs,ys,rfl,rfl,ha,hb,q⟩:=h
 cases rx
 cases ry
 obtain⟨its,r,pl,hz⟩:=I.tuple ha
 obtain⟨its2,r2,pl2,hz2⟩:=I.tuple hb
 have h1:=zBR r
 have h2:=zBR r2
 refine PySem.EqBoolInt.of_rcne (SeqAt.RcNeAt.tuples (e:=fun j=>xs.getD j 0==ys.getD j 0) pl pl2 hu (fun j a b=>eqAts h1 h2 j a b)) ⟨.bl _,H,I,rfl,?_⟩
 rw[zI,zI,h1.length,h2.length,zGX]
 exact q
noncomputable def rNeT (K:PySem.W.Frag):R2:=fun x y H Q=>∃(a b:Addr)(xs ys:List Int),x = .ref a/\y = .ref b/\SqT K H a (xs.map V.int)/\SqT K H b (ys.map V.int)/\Q (.bl (!decide (xs=ys))) H
theorem zK9 (hu:X.A.units<cLine):OpR X (compareOp .NotEq) (rNeT X.K):=fun pins s σ H x y v u Q I rx ry h=>op_neT hu pins s σ H x y v u Q I rx ry h
end
end L2
namespace L2
open PySem PySem.Spec PyProof.Rows
section
variable {X:Cx}
end
end L2
namespace L2
open PySem PySem.Spec PyProof.Rows
section
variable {X:Cx}{pins:List (Addr×Obj)}{σ:St}{H3:Hp}{s3:Shared}{scope:Scope}{fp:List Addr}{N' own cn:List Str}{ci:List Nat}{cv:List V}{yc:Str}
end
end L2
namespace L2
open PySem PySem.Spec PyProof.Rows
noncomputable def zKU (ta:TA):TE:=fun σ H Q=>ta σ H fun vs H1=>∃j:Int,vs=[.int j]/\0<=j/\j<=1000/\∀l,H1 l=none->Q (.ref l) (upd H1 l (.lst ((WM.lowTo j.toNat).map V.int)))
theorem zIk:∀(vs:List Value)(n:Nat),vs.length=n->(∀(j:Nat)(v:Value),vs[j]? = some v->∃t,v = .int (0+(j:Int)*1) t)->zA2 ((WM.lowTo n).map V.int) vs:=by
 have key:∀(vs:List Value)(a:Nat),(∀(j:Nat)(v:Value),vs[j]? = some v->∃t,v = .int ((a+j:Nat):Int) t)->zA2 ((List.range' a vs.length).map fun (i:Nat)=>V.int (i:Int)) vs:=by
  intro vs
  induction vs with
  | nil=>intro _ _;exact .nil
  | cons v r ih=>
   intro a h
   obtain⟨t,ht⟩:=h 0 v rfl
   rw[zh,List.range'_succ,zv]
   refine .cons ⟨t,by rw[ht];rfl⟩ (ih (a+1) fun j u hj=>?_)
   obtain⟨t',ht'⟩:=h (j+1) u hj
   exact⟨t',by rw[ht'];congr 1;omega⟩
 intro vs n e h
 subst e
 have:=key vs 0 fun j v hj=>by
  obtain⟨t,ht⟩:=h j v hj
  exact⟨t,by rw[ht];congr 1;omega⟩
 unfold WM.lowTo
 rw[List.map_map,List.range_eq_range']
 exact this
section
variable {X:Cx}
theorem zHa {a:Expr}{ta:TA}{p1 p2 pos1 pos2:Pos}(hc:X.calm=true)(hgL:Gl X "list") (hmL:X.mg "list" = none) (hgR:Gl X "range") (hmR:X.mg "range" = none) (ha:PA X [a] ta)(hs:starEach [a] X.env=[(false,eval a X.env)]:=by rfl)
 (he:starEach [.Call (.Name "range" p2) [a] [] pos2] X.env=[(false,eval (.Call (.Name "range" p2) [a] [] pos2) X.env)]:=by rfl):PE X (.Call (.Name "list" p1) [.Call (.Name "range" p2) [a] [] pos2] [] pos1) (zKU ta):=by
 intro pins s σ H Q I h
 refine zAv (zCU I hgL hmL (by decide +kernel:bootBuiltins "list" = some (.type "list")) ?_ (by decide) (by decide))
 refine PyProof.Rows.callWith_type1 ?_ he rfl
 rw[he]
 refine Calls.spliced_cons ?_
 refine Call_ (zCU I hgR hmR boot_range (PyProof.Rows.callWith_type1 (thn (ha pos2 pins s σ H _ I h) fun us s1 ⟨vs,H1,I1,r1,q1⟩=>?_) hs rfl))
 obtain⟨j,e,h0,h1,q⟩:=q1
 subst e
 cases r1 with
 | cons r rr=>
  cases rr
  obtain⟨t,rfl⟩:=r
  refine call_range_1 ?_
  refine Calls.spliced_nil ?_
  have hz:Builtin.Range.rangeSize 0 j 1=(j.toNat:Int):=by rw[rangeSize_one];split <;> omega
  refine call_list_range (I.ok.hd hc) (IsRange.new ..) (small_one (by omega) (by omega) (by omega) (by omega)) hz (by omega) fun h' tk acc c' kp hD hI=>?_
  have kp1:∀b o,s1.heap.get? b=some o->h'.get? b=some o:=fun b o e=>kp b o (zJ _ e)
  have rv:zA2 ((WM.lowTo j.toNat).map V.int) acc.toList:=zIk acc.toList _ (by rw[Array.length_toList];exact hI.1) fun i v hi=>hI.2 i v (by rw[<-hi,Array.getElem?_toList])
  have hsz:s1.heap.objs.size<=(s1.heap.push { cls:=.type "range",data:=.fields #[.int 0 s1.toks,.int j t,.int 1 (s1.toks+1)] }).objs.size:=by rw[zAj];exact Nat.le_succ _
  refine⟨.ref _,_,I1.laid (t':=tk) kp1 hsz (show zBA X.prog X.w _ h' _ (.lst ((WM.lowTo j.toNat).map V.int)) from ⟨?_,acc.toList,c',rv,by rw[Array.toArray_toList];exact hD⟩),rfl,q _ (I1.hok.fresh hsz)⟩
  rw[zD,WM.lowTo,zD,zA4]
  have:sizeLine=16777216:=rfl
  omega
end
section
variable {X:Cx}{pl:List (Addr×Obj)}{N':List Str}{sc:Scope}{fp:List Addr}{s3:Shared}{H3:Hp}
theorem zEu:zB6 (zA6 X pl N' sc fp s3 H3) (.builtin "len") (fun xs H Q=>∃p ys,xs=[.ref p]/\(SqL X.K H p ys\/SqT X.K H p ys)/\Q (.int ys.length) H):=zAS
end
section
variable {X:Cx}
noncomputable def rNeE (K:PySem.W.Frag):R2:=fun x y H Q=>∃(a b:Addr)(xs:List V),x = .ref a/\y = .ref b/\SqL K H a xs/\SqL K H b []/\Q (.bl (!xs.isEmpty)) H
noncomputable def rEqE (K:PySem.W.Frag):R2:=fun x y H Q=>∃(a b:Addr)(xs:List V),x = .ref a/\y = .ref b/\SqL K H a xs/\SqL K H b []/\Q (.bl xs.isEmpty) H
theorem op_neE (hu:X.A.units<cLine):OpR X (compareOp .NotEq) (rNeE X.K):=by
 intro pins s σ H x y v u Q I rx ry h
 obtain⟨a,b,xs,rfl,rfl,ha,hb,q⟩:=h
 cases rx
 cases ry
 obtain⟨its,r,pl,hz⟩:=I.list ha
 obtain⟨its2,r2,pl2,hz2⟩:=I.list hb
 have l1:=r.length
 have l2:=r2.length
 cases xs with
 | nil=>
  refine PySem.EqBoolInt.of_rcne (SeqAt.RcNeAt.lists (e:=fun _=>true) pl.isList pl2.isList (by rw[zI,zI,<-l1,<-l2]) hu (fun j a b=>absurd a (by rw[zI,<-l1];exact Nat.not_lt_zero _))) ⟨.bl _,H,I,rfl,?_⟩
  rw[zI,<-l1]
  exact q
 | cons x xs=>
  refine PySem.EqBoolInt.of_rcne (SeqAt.RcNeAt.lists_lengths pl.isList pl2.isList (by rw[zI,zI,<-l1,<-l2];rfl) hu) ⟨.bl _,H,I,rfl,?_⟩
  exact q
theorem zJ7 (hu:X.A.units<cLine):OpR X (compareOp .Eq) (rEqE X.K):=by
 intro pins s σ H x y v u Q I rx ry h
 obtain⟨a,b,xs,rfl,rfl,ha,hb,q⟩:=h
 cases rx
 cases ry
 obtain⟨its,r,pl,hz⟩:=I.list ha
 obtain⟨its2,r2,pl2,hz2⟩:=I.list hb
 have l1:=r.length
 have l2:=r2.length
 cases xs with
 | nil=>
  refine SeqAt.eq_listAt (e:=fun _=>true) pl.isList pl2.isList (by rw[zI,zI,<-l1,<-l2]) hu (fun j a b=>absurd a (by rw[zI,<-l1];exact Nat.not_lt_zero _)) ⟨.bl _,H,I,rfl,?_⟩
  rw[zI,<-l1]
  exact q
 | cons x xs=>
  refine SeqAt.eq_list_lengthsAt pl.isList pl2.isList (by rw[zI,zI,<-l1,<-l2];rfl) hu ⟨.bl _,H,I,rfl,?_⟩
  exact q
end
end L2
namespace L2
open PySem PyProof.Rows
noncomputable def Kp (s0:Shared)(h:Heap):Prop:=∀b o,s0.heap.get? b=some o->h.get? b=some o
structure MinIt (prog:Program)(w:World)(A:Around)(s0:Shared)(I:Addr)(its:List Value)(itAt:Nat->Heap->Prop):Prop where
 stay:∀j h h',itAt j h->h'.get? I=h.get? I->itAt j h'
 next:∀(j:Nat)(h:Heap)(tk:Nat)(v:Value)(Q:Option Value->Shared->Prop)(E:Value->Shared->Prop),Kp s0 h->itAt j h->its[j]? = some v ->
  (∀h',itAt (j+1) h'->(∀b,b≠I->h'.get? b=h.get? b)->Q (some v) { s0 with heap:=h',toks:=tk })->wpAny (model prog w) A (pyNext (.ref I)) Q E { s0 with heap:=h,toks:=tk }
 fin:∀(j:Nat)(h:Heap)(tk:Nat)(Q:Option Value->Shared->Prop)(E:Value->Shared->Prop),Kp s0 h->itAt j h->its[j]? = none ->
  (∀h',(∀b o,b≠I->h.get? b=some o->h'.get? b=some o)->Q none { s0 with heap:=h',toks:=tk })->wpAny (model prog w) A (pyNext (.ref I)) Q E { s0 with heap:=h,toks:=tk }
section
variable {prog:Program}{w:World}{A:Around}{s0:Shared}{I S:Addr}{its:List Value}{itAt:Nat->Heap->Prop}
theorem Kp.upd {h:Heap}{f:Obj->Obj}(K:Kp s0 h)(hS:s0.heap.objs.size<=S):Kp s0 (h.update S f):=fun b o e=>by
 rw[Heap.get?_update_ne _ _ _ _ (zW (zk (zS e) hS))];exact K b o e
theorem Kp.but {h h':Heap}(K:Kp s0 h)(hI:s0.heap.objs.size<=I)(k:∀b o,b≠I->h.get? b=some o->h'.get? b=some o):Kp s0 h':=fun b o e=>
 k b o (zW (zk (zS e) hI)) (K b o e)
theorem zHt {R:Result->Shared->Prop}{kw:List (Str×Value)}(M:MinIt prog w A.in1 s0 I its itAt)(bt:Nat->Nat->Bool)(hS:s0.heap.objs.size<=S)(hI:s0.heap.objs.size<=I)(hSI:S≠I)
 (cmp:∀(i j:Nat)(vi vj:Value)(h:Heap)(tk:Nat)(Q E:Value->Shared->Prop),Kp s0 h->its[i]? = some vi->its[j]? = some vj->Q (.bool (bt i j)) { s0 with heap:=h,toks:=tk }->wpAny (model prog w) A.in1 (richCompare .Lt vi vj) Q E { s0 with heap:=h,toks:=tk })
 (hR:∀(v:Value)(h:Heap)(tk:Nat),its[argBest bt (its.length-1)]? = some v->Kp s0 h->R (.ok (.ret v)) { s0 with heap:=h,toks:=tk })
 : ∀(r j:Nat)(h:Heap)(tk:Nat)(vb:Value)(c:Nat),its.length-(j+1)=r->j+1<=its.length->Kp s0 h->itAt (j+1) h->its[argBest bt j]? = some vb ->
  h.get? S=some { cls:=.type "list",data:=.seq #[vb,vb] c }->codeAny (model prog w) A (.builtin "min.loop" { pos:=[.ref I,.none,.ref S],kw:=kw }) R { s0 with heap:=h,toks:=tk }:=by
 intro r
 induction r with
 | zero=>
  intro j h tk vb c hr hj K hit hv hSo
  refine codeAny_builtin PySem.F.entry_min_loop ?_
  unfold Builtin.«min.loop»
  refine zA (zA5 hSo rfl ?_)
  dsimp only
  refine zA (wpAny_tryCatch (M.fin (j+1) h tk _ _ K hit (zAs (by omega)) fun h' k=>?_))
  have hS':=k S _ hSI hSo
  refine zA (wpAny_updateSeq hS' rfl (zA (wpAny_letGo (zG ?_))) (by show 2<=sizeLine;decide) (by show 0<=sizeLine+1;decide))
  refine hR vb _ tk ?_ ((K.but hI k).upd hS)
  rw[show its.length-1=j by omega];exact hv
 | succ r ih=>
  intro j h tk vb c hr hj K hit hv hSo
  obtain⟨x,hx⟩:∃x,its[j+1]? = some x:=⟨_,zC (by omega)⟩
  refine codeAny_builtin PySem.F.entry_min_loop ?_
  unfold Builtin.«min.loop»
  refine zA (zA5 hSo rfl ?_)
  dsimp only
  refine zA (wpAny_tryCatch (M.next (j+1) h tk x _ _ K hit hx fun h' hit' k=>?_))
  have K':Kp s0 h':=K.but hI fun b o hb e=>by rw[k b hb];exact e
  have hS':h'.get? S=some { cls:=.type "list",data:=.seq #[vb,vb] c }:=by rw[k S hSI];exact hSo
  refine zA (zG ?_)
  refine zA (wpAny_tryCatch (zAa (zA (cmp (j+1) (argBest bt j) x vb h' tk _ _ K' hx hv ?_))))
  refine zA (zAa (zBL (zA (wpAny_letGo (zG ?_)))))
  have eb:argBest bt (j+1)=if bt (j+1) (argBest bt j)=true then j+1 else argBest bt j:=argBest.eq_2 bt j
  cases e:bt (j+1) (argBest bt j) with
  | true=>
   rw[if_pos e] at eb
   refine zA (wpAny_updateSeq hS' rfl (zA (wpAny_letGo (zG ⟨rfl,?_⟩))) (by show 2<=sizeLine;decide) (by show 2<=sizeLine+1;decide))
   exact ih (j+1) _ tk x c (by omega) (by omega) (K'.upd hS) (M.stay _ _ _ hit' (Heap.get?_update_ne _ _ _ _ (Ne.symm hSI))) (by rw[eb];exact hx) (Heap.get?_update_self _ hS' rfl)
  | false=>
   rw[e,if_neg (by decide)] at eb
   refine zA (wpAny_letGo (zG ⟨rfl,?_⟩))
   exact ih (j+1) h' tk vb c (by omega) (by omega) K' hit' (by rw[eb];exact hv) hS'
theorem zEN {R:Result->Shared->Prop}{d:Value}(M:MinIt prog w A.in1 s0 I its itAt)(bt:Nat->Nat->Bool)(hS:s0.heap.objs.size<=S)(hI:s0.heap.objs.size<=I)(hSI:S≠I)
 (cmp:∀(i j:Nat)(vi vj:Value)(h:Heap)(tk:Nat)(Q E:Value->Shared->Prop),Kp s0 h->its[i]? = some vi->its[j]? = some vj->Q (.bool (bt i j)) { s0 with heap:=h,toks:=tk }->wpAny (model prog w) A.in1 (richCompare .Lt vi vj) Q E { s0 with heap:=h,toks:=tk })
 (hR:∀(v:Value)(h:Heap)(tk:Nat),its[argBest bt (its.length-1)]? = some v->Kp s0 h->R (.ok (.ret v)) { s0 with heap:=h,toks:=tk })
 (h0:its=[]->∀(h:Heap)(tk:Nat),Kp s0 h->R (.ok (.ret d)) { s0 with heap:=h,toks:=tk })
 (h:Heap)(tk:Nat)(c:Nat)(K:Kp s0 h)(hit:itAt 0 h)(hSo:h.get? S=some { cls:=.type "list",data:=.seq #[] c }) :
 codeAny (model prog w) A (.builtin "min.loop" { pos:=[.ref I,.none,.ref S],kw:=[(Str.ofString "default",d)] }) R { s0 with heap:=h,toks:=tk }:=by
 refine codeAny_builtin PySem.F.entry_min_loop ?_
 unfold Builtin.«min.loop»
 refine zA (zA5 hSo rfl ?_)
 dsimp only
 cases e:its with
 | nil=>
  subst e
  refine zA (wpAny_tryCatch (M.fin 0 h tk _ _ K hit rfl fun h' k=>?_))
  exact zA (wpAny_rule (zG (h0 rfl h' tk (K.but hI k))))
 | cons x xs=>
  have hx:its[0]? = some x:=by rw[e];rfl
  refine zA (wpAny_tryCatch (M.next 0 h tk x _ _ K hit hx fun h' hit' k=>?_))
  have K':Kp s0 h':=K.but hI fun b o hb e=>by rw[k b hb];exact e
  have hS':h'.get? S=some { cls:=.type "list",data:=.seq #[] c }:=by rw[k S hSI];exact hSo
  refine zA (zG ?_)
  refine zA (wpAny_updateSeq hS' rfl (zG ⟨rfl,?_⟩) (by show 0<=sizeLine;decide) (by show 2<=sizeLine+1;decide))
  refine zHt M bt hS hI hSI cmp hR (its.length-1) 0 _ tk x (c+1) rfl (by rw[e];simp) (K'.upd hS) (M.stay _ _ _ hit' (Heap.get?_update_ne _ _ _ _ (Ne.symm hSI))) hx (Heap.get?_update_self _ hS' rfl)
end
end L2
namespace L2
open PySem PyProof.Rows
theorem wpAny_of_eq {α:Type}{M:Model}{A:Around}{E:Value->Shared->Prop}{s:Shared}{m m':Sem α}{Q:α->Shared->Prop}(e:m=m')(h:wpAny M A m' Q E s):wpAny M A m Q E s:=by subst e;exact h
theorem zDs {O:KeyOrd}(ky:Nat->O.α):∀k,argBest (fun i j=>O.blt (ky i) (ky j)) k<=k/\∀j,j<=k->O.blt (ky j) (ky (argBest (fun i j=>O.blt (ky i) (ky j)) k))=false
 | 0=>⟨zM _,fun j hj=>by obtain rfl:j=0:=(by omega);exact O.irrefl _⟩
 | k+1=>by
  obtain⟨h1,h2⟩:=zDs ky k
  rw[argBest.eq_2]
  cases e:O.blt (ky (k+1)) (ky (argBest (fun i j=>O.blt (ky i) (ky j)) k)) with
  | true=>
   rw[if_pos rfl]
   refine⟨zM _,fun j hj=>?_⟩
   by_cases c:j=k+1
   . subst c;exact O.irrefl _
   . cases e2:O.blt (ky j) (ky (k+1)) with
     | false=>rfl
     | true=>rw[<-h2 j (by omega)];exact (O.trans _ _ _ e2 e).symm
  | false=>
   rw[if_neg (by decide)]
   refine⟨by omega,fun j hj=>?_⟩
   by_cases c:j=k+1
   . subst c;exact e
   . exact h2 j (by omega)
theorem zFc {prog:Program}{w:World}{A:Around}{s:Shared}{p:Addr}{its:List Value}{d:Value}{Q E:Value->Shared->Prop}(hA:A.handled=none)(bt:Nat->Nat->Bool)(hp:s.heap.IsList p its.toArray\/s.heap.IsTuple p its.toArray)
 (cmp:∀(i j:Nat)(vi vj:Value)(h:Heap)(tk:Nat)(Q E:Value->Shared->Prop),Kp s h->its[i]? = some vi->its[j]? = some vj->Q (.bool (bt i j)) { s with heap:=h,toks:=tk }->wpAny (model prog w) A.in1 (richCompare .Lt vi vj) Q E { s with heap:=h,toks:=tk })
 (hR:∀(v:Value)(h:Heap)(tk:Nat),its[argBest bt (its.length-1)]? = some v->Kp s h->Q v { s with heap:=h,toks:=tk })
 (h0:its=[]->∀(h:Heap)(tk:Nat),Kp s h->Q d { s with heap:=h,toks:=tk }) :
 wpAny (model prog w) A (call (.builtin "min") [.ref p] [(Str.ofString "default",d)]) Q E s:=by
 refine wpAny_call (codeAny_call_builtin PySem.F.plain_min PySem.F.entry_min (wpAny_of_eq (show checkBuiltinCall "min" { pos:=[.ref p],kw:=[(Str.ofString "default",d)] }=pure () from rfl) (zG ?_)))
 unfold Builtin.min
 refine zA (wpAny_of_eq (show Builtin.Builtins.bindParams "min" ["key", "default"] 0 { kw:=[(Str.ofString "default",d)] }=pure [none,some d] from rfl) (zG ?_))
 dsimp only
 refine zA (zG ?_)
 have kp0:∀(o1 o2:Obj),Kp s ((s.heap.push o1).push o2):=fun o1 o2 b o e=>zJ _ (zJ _ e)
 rcases hp with hp | hp
 . refine zA (wpAny_pyIter_list hp (zA (wpAny_newList (zG ⟨rfl,?_⟩) (by show 0<=sizeLine;decide))))
   have hSe:(s.heap.push { cls:=.type "list_iterator",data:=.fields #[.ref p,.int 0 0] }).objs.size=s.heap.objs.size+1:=zAj ..
   rw[hSe]
   refine zEN (s0:=s) (I:=s.heap.objs.size) (S:=s.heap.objs.size+1) (itAt:=fun j h=>h.IsListIter s.heap.objs.size p j) ⟨fun j h h' a e=>?_,fun j h tk v Q E K hit hv q=>?_,fun j h tk Q E K hit hv q=>?_⟩ bt (Nat.le_succ _) (zM _) (Nat.succ_ne_self _) cmp hR h0 _ s.toks 0 (kp0 _ _) ?_ ?_
   . obtain⟨o,ho,hc⟩:=a
     exact⟨o,by rw[e];exact ho,hc⟩
   . obtain⟨o,ho,hc⟩:=hp
     exact wpAny_pyNext_list_item hit ⟨o,K _ _ ho,hc⟩ (by rw[zA9];exact hv) fun h' a b=>q h' a fun c hc=>b.2 c hc
   . obtain⟨o,ho,hc⟩:=hp
     exact wpAny_pyNext_list_end hA hit ⟨o,K _ _ ho,hc⟩ (by rw[zA9];exact hv) fun h' b=>q h' b
   . exact⟨_,zJ _ (zP _ rfl),rfl,rfl⟩
   . rw[<-hSe];exact zP _ rfl
 . refine zA (wpAny_pyIter_tuple hp (zA (wpAny_newList (zG ⟨rfl,?_⟩) (by show 0<=sizeLine;decide))))
   have hSe:(s.heap.push { cls:=.type "tuple_iterator",data:=.fields #[.ref p,.int 0 0] }).objs.size=s.heap.objs.size+1:=zAj ..
   rw[hSe]
   refine zEN (s0:=s) (I:=s.heap.objs.size) (S:=s.heap.objs.size+1) (itAt:=fun j h=>h.IsTupleIter s.heap.objs.size p j) ⟨fun j h h' a e=>?_,fun j h tk v Q E K hit hv q=>?_,fun j h tk Q E K hit hv q=>?_⟩ bt (Nat.le_succ _) (zM _) (Nat.succ_ne_self _) cmp hR h0 _ s.toks 0 (kp0 _ _) ?_ ?_
   . obtain⟨o,ho,hc⟩:=a
     exact⟨o,by rw[e];exact ho,hc⟩
   . obtain⟨o,ho,hc⟩:=hp
     exact wpAny_pyNext_tuple_item hit ⟨o,K _ _ ho,hc⟩ (by rw[zA9];exact hv) fun h' a b=>q h' a fun c hc=>b.2 c hc
   . obtain⟨o,ho,hc⟩:=hp
     exact wpAny_pyNext_tuple_end hA hit ⟨o,K _ _ ho,hc⟩ (by rw[zA9];exact hv) fun h' b=>q h' b
   . exact⟨_,zJ _ (zP _ rfl),rfl,rfl⟩
   . rw[<-hSe];exact zP _ rfl
section
variable {X:Cx}
noncomputable def rMinD (K:PySem.W.Frag)(x dv:V)(H:Hp)(Q:VK):Prop:=∃(p:Addr)(ys:List V),x = .ref p/\(SqL K H p ys\/SqT K H p ys)/\(ys=[]->Q dv H) /\
 ((∃ks,zw H ys ks/\∀(i:Nat)(y:V)(k:List Int),ys[i]? = some y->ks[i]? = some k->(∀k'∈ks,HT.lexLt k' k=false)->Q y H)\/(∃ns:List Int,ys=ns.map V.int/\∀n∈ns,(∀m∈ns,n<=m)->Q (.int n) H))
noncomputable def tMinD (K:PySem.W.Frag)(t:TA)(td:TE):TE:=fun σ H Q=>t σ H fun vs H1=>∃x,vs=[x]/\td σ H1 fun dv H2=>rMinD K x dv H2 Q
theorem zHZ {e de:Expr}{t:TA}{td:TE}{pos np kpos:Pos}(hc:X.calm=true)(hu:X.A.units+1<cLine)(hg:Gl X "min") (hm:X.mg "min" = none) (he:PA X [e] t)(hd:PE X de td)
 (hs1:backTo pos (starEach [e] X.env)=(false,eval e X.env)::backTo pos (starEach [] X.env):=by rfl)(hs2:(backTo pos (starEach [e] X.env)).any (·.1)=false:=by rfl) :
 PE X (.Call (.Name "min" np) [e] [⟨some "default",de,kpos⟩] pos) (tMinD X.K t td):=by
 intro pins s σ H Q I h
 refine zAv (zCU I hg hm (by decide +kernel:bootBuiltins "min" = some (.builtin "min")) ?_)
 refine PyProof.Rows.callWith_kw (thn (he pos pins s σ H _ I h) fun us s1 ⟨vs,H1,I1,r,q1⟩=>?_) hs1 hs2
 obtain⟨x,rfl,q1⟩:=q1
 obtain⟨u,rfl,rx⟩:=zCa r
 show wpAny _ _ (evalAll ((do let v <-eval de X.env;standAt pos;pure v)::[])) _ _ s1
 refine wpAny_evalAll_cons (zA (thn (hd pins s1 σ H1 _ I1 q1) fun ud s2 ⟨dv,H2,I2,rd,q2⟩=>zA (wpAny_standAt (zG (wpAny_evalAll_nil ?_)))))
 show wpAny _ _ (call (.builtin "min") [u] [(Str.ofString "default",ud)]) _ _ s2
 obtain⟨p,ys,rfl,hp,q0,hk⟩:=q2
 cases rx
 obtain⟨its,rv,hpp⟩:∃its:List Value,zA2 ys its/\(s2.heap.IsList p its.toArray\/s2.heap.IsTuple p its.toArray):=by
  rcases hp with hp | hp
  . obtain⟨its,r',pl,_⟩:=I2.list hp
    exact⟨its,r',.inl pl.isList⟩
  . obtain⟨its,r',pl,_⟩:=I2.tuple hp
    exact⟨its,r',.inr pl⟩
 have hlen:=rv.length
 have e0:its=[]->ys=[]:=fun z=>List.length_eq_zero_iff.mp (by rw[hlen,z];rfl)
 rcases hk with ⟨ks,T,q⟩ | ⟨ns,rfl,q⟩
 . have hl:=T.length
   refine zFc (I2.ok.hd hc) (fun i j=>zKD.blt (ks.getD i []) (ks.getD j [])) hpp (fun i j vi vj h tk Q E K hi hj q=>?_) (fun v h tk hv K=>?_) (fun z h tk K=>⟨dv,H2,I2.kept K,rd,q0 (e0 z)⟩)
   . have look:∀(i:Nat)(v:Value),its[i]? = some v->∃(p:Addr)(k:List Int)(us:List Value),v = .ref p/\ks[i]? = some k/\IntsAre us k/\IsTup h p us.toArray:=fun i v hv=>by
      have hi:i<ys.length:=by have:=(zL.mp hv).1;omega
      obtain⟨p,k,e1,e2,e3,_⟩:=T.get (i:=i) (x:=ys[i]) (by simp[hi])
      obtain⟨u,hu,ru⟩:=rv.get (i:=i) (x:=ys[i]) (by simp[hi])
      rw[hv] at hu;cases hu
      rw[e1] at ru
      cases (show v=Value.ref p from ru)
      obtain⟨_,us,rv',o,ho,hc⟩:=I2.hok p _ e3
      exact⟨p,k,us,rfl,e2,zBR rv',o,K _ _ ho,hc⟩
     obtain⟨p1,k1,us1,rfl,g1,i1,t1⟩:=look i vi hi
     obtain⟨p2,k2,us2,rfl,g2,i2,t2⟩:=look j vj hj
     refine HT.lt_tupInts (ns:=k1) (ms:=k2) t1 t2 i1 i2 hu ?_
     have:zKD.blt (ks.getD i []) (ks.getD j [])=HT.lexLt k1 k2:=by rw[zE,zE,g1,g2];rfl
     rw[<-this];exact q
   . obtain⟨b1,b2⟩:=zDs (O:=zKD) (fun i=>ks.getD i []) (its.length-1)
     have hlt:=(zL.mp hv).1
     generalize eb:argBest (fun i j=>zKD.blt (ks.getD i []) (ks.getD j [])) (its.length-1)=bi at hv hlt b1 b2
     have hy:bi<ys.length:=by omega
     obtain⟨u,hu,ru⟩:=rv.get (i:=bi) (x:=ys[bi]) (by simp[hy])
     rw[hv] at hu;cases hu
     obtain⟨pa,k,e1,e2,e3,_⟩:=T.get (i:=bi) (x:=ys[bi]) (by simp[hy])
     refine⟨ys[bi],H2,I2.kept K,ru,q bi ys[bi] k (by simp[hy]) e2 fun k' hk'=>?_⟩
     obtain⟨j,hj,ej⟩:=zAT hk'
     have:=b2 j (by omega)
     have g1:ks.getD j []=k':=by rw[zE,zC hj,ej];rfl
     have g2:ks.getD bi []=k:=by rw[zE,e2];rfl
     rw[g1,g2] at this
     exact this
 . have hI:IntsAre its ns:=zBR rv
   have hl:=hI.length
   have look:∀(i:Nat)(v:Value),its[i]? = some v->∃t,v = .int (ns.getD i 0) t:=fun i v hv=>by
    have hi:i<ns.length:=by have:=(zL.mp hv).1;omega
    obtain⟨u,hu,ru⟩:=rv.get (i:=i) (x:=.int ns[i]) (by simp[hi])
    rw[hv] at hu;cases hu
    obtain⟨t,rfl⟩:=(show ∃t,v=Value.int ns[i] t from ru)
    exact⟨t,by rw[zE,zC hi];rfl⟩
   refine zFc (I2.ok.hd hc) (fun i j=>decide (ns.getD i 0<ns.getD j 0)) hpp (fun i j vi vj h tk Q E K hi hj q=>?_) (fun v h tk hv K=>?_) (fun z h tk K=>⟨dv,H2,I2.kept K,rd,q0 (e0 z)⟩)
   . obtain⟨t1,rfl⟩:=look i vi hi
     obtain⟨t2,rfl⟩:=look j vj hj
     exact PyProof.Rows.lt_int q
   . obtain⟨b1,b2⟩:=argBest_lt (fun i=>ns.getD i 0) (its.length-1)
     have hlt:=(zL.mp hv).1
     generalize eb:argBest (fun i j=>decide (ns.getD i 0<ns.getD j 0)) (its.length-1)=bi at hv hlt b1 b2
     obtain⟨t,rfl⟩:=look bi v hv
     have hy:bi<ns.length:=by omega
     refine⟨.int (ns.getD bi 0),H2,I2.kept K,⟨t,rfl⟩,q _ ?_ fun m hm=>?_⟩
     . rw[zE,zC hy];exact List.getElem_mem hy
     . obtain⟨j,hj,ej⟩:=zAT hm
       have:=b2 j (by omega)
       have g1:ns.getD j 0=m:=by rw[zE,zC hj,ej];rfl
       rw[g1] at this
       exact this
end
end L2
namespace L2
open PySem PyProof.Rows
section
variable {prog:Program}{w:World}{A:Around}{s0:Shared}{D I l:Addr}{its:List Value}{qs:List (Key×Value)}
end
section
variable {X:Cx}
end
end L2
namespace L2
open PySem PySem.Spec PyProof.Rows
section
variable {X:Cx}
theorem zBn {x:Str}{T:String}{pos:Pos}(hg:Gl X x)(hm:X.mg x=none)(hv:bootBuiltins x=some (.type T))(hn:x ≠ "__name__" := by decide) (hdb:(x==("__debug__" : Str))=false:=by decide):PE X (.Name x pos) (tC (.ty T)):=
 fun pins s σ H Q I h=>zCU I hg hm hv ⟨.ty T,H,I,rfl,h⟩ hn hdb
theorem zAn:zB6 X (.builtin "isinstance") (fun xs H Q=>∃x T t b,xs=[x,.ty T]/\zFn X.K H x t/\PySem.W.kitOne X.K t (.type T)=some b/\Q (.bl b) H):=by
 intro pins s σ H xs us Q I r h
 obtain⟨x,T,t,b,rfl,ty,e,q⟩:=h
 obtain⟨u,w',rfl,rx,rT⟩:=zE0 r
 cases (show w'=Value.type T from rT)
 exact zH5 I rx ty e fun tk=>⟨.bl b,H,I.tok tk,rfl,q⟩
theorem zFG {st:Stmt}:PS X st (fun _ _ _=>False):=fun _ _ _ _ _ _ h=>h.elim
end
section
variable {prog:Program}{w:World}{A:Around}{s0:Shared}{I l:Addr}{bs:List Bool}
theorem zJh {R:Result->Shared->Prop}(hA:A.handled=none)(hI:s0.heap.objs.size<=I)(hl:s0.heap.IsList l (bs.map Value.bool).toArray)
 (hR:∀(h:Heap)(tk:Nat),Kp s0 h->R (.ok (.ret (.bool (bs.all id)))) { s0 with heap:=h,toks:=tk }) :
 ∀(r j:Nat)(h:Heap)(tk:Nat),bs.length-j=r->j<=bs.length->Kp s0 h->h.IsListIter I l j->(bs.take j).all id=true ->
  codeAny (model prog w) A (.builtin "all.loop" { pos:=[.ref I] }) R { s0 with heap:=h,toks:=tk }:=by
 have hl':∀h,Kp s0 h->h.IsList l (bs.map Value.bool).toArray:=fun h K=>by
  obtain⟨o,ho,hc⟩:=hl
  exact⟨o,K _ _ ho,hc⟩
 intro r
 induction r with
 | zero=>
  intro j h tk hr hj K hit ha
  refine codeAny_builtin PySem.F.entry_all_loop ?_
  unfold Builtin.«all.loop»
  refine zA (wpAny_pyNext_list_end hA hit (hl' h K) (by rw[zA9];exact zAs (by rw[zD];omega)) fun h' b=>?_)
  refine zA (wpAny_rule (zG ?_))
  rw[zm (by omega)] at ha
  have:=hR h' tk (K.but hI b)
  rw[ha] at this
  exact this
 | succ r ih=>
  intro j h tk hr hj K hit ha
  obtain⟨x,hx⟩:∃x,bs[j]? = some x:=⟨_,zC (by omega)⟩
  refine codeAny_builtin PySem.F.entry_all_loop ?_
  unfold Builtin.«all.loop»
  refine zA (wpAny_pyNext_list_item hit (hl' h K) (x:=.bool x) (by rw[zA9,zU,hx];rfl) fun h' hit' b=>?_)
  have K':Kp s0 h':=K.but hI fun c o hc e=>by rw[b.2 c hc];exact e
  refine zA (zAa (zBL (zA (wpAny_letGo ?_))))
  cases x with
  | true=>
   refine zG ⟨rfl,?_⟩
   exact ih (j+1) h' tk (by omega) (by omega) K' hit' (by rw[zAL,hx,List.all_append,ha];rfl)
  | false=>
   refine zA (wpAny_rule (zG ?_))
   have e:bs.all id=false:=by
    cases z:bs.all id with
    | false=>rfl
    | true=>have:=zBl.mp z false (zl hx);simp at this
   have:=hR h' tk K'
   rw[e] at this
   exact this
end
section
variable {X:Cx}
theorem zGe:∀{bs:List Bool}{its:List Value},zA2 (bs.map V.bl) its->its=bs.map Value.bool
 | [],[],_=>rfl
 | b::bs,u::its,h=>by
  cases h with
  | cons h1 h2=>rw[zv,<-zGe h2,show u=Value.bool b from h1]
 | [],_::_,h=>by cases h
 | _::_,[],h=>by cases h
theorem zGd (hc:X.calm=true):zB6 X (.builtin "all") (fun xs H Q=>∃(p:Addr)(bs:List Bool),xs=[.ref p]/\SqL X.K H p (bs.map V.bl)/\Q (.bl (bs.all id)) H):=by
 intro pins s σ H xs us Q I r h
 obtain⟨p,bs,rfl,hq,q⟩:=h
 obtain⟨u,rfl,rx⟩:=zCa r
 cases rx
 obtain⟨its,r',pl,hz⟩:=I.list hq
 rw[zGe r'] at pl
 refine wpAny_call (codeAny_call_builtin PySem.F.plain_all PySem.F.entry_all (wpAny_of_eq (m':=pure ()) rfl (zG ?_)))
 unfold Builtin.all
 refine zA (wpAny_of_eq (m':=pure (Value.ref p)) rfl (zG (zA (wpAny_pyIter_list pl.isList (zG ⟨rfl,?_⟩)))))
 refine zJh (s0:=s) (l:=p) (bs:=bs) (I.ok.hd hc) (zM _) pl.isList ?_ bs.length 0 _ s.toks rfl (zj _) (fun b o e=>zJ _ e) ?_ rfl
 . exact fun h tk K=>⟨.bl _,H,I.kept K,rfl,q⟩
 . exact⟨_,zP _ rfl,rfl,rfl⟩
end
theorem zKp {prog:Program}{w:World}{h:Heap}(led:Bool):(h.push { cls:=.type "set",data:=.set #[] 0 (SetTable.fresh 0 0 led) }).SetOf (intKind prog w) h.objs.size (fun _=>false) 0:=by
 refine⟨_,#[],0,_,zP _ rfl,⟨rfl,rfl,rfl⟩,rfl,?_,fun k=>⟨fun z=>by simp at z,fun ⟨e,he,_⟩=>by simp at he⟩,by decide,?_,rfl⟩
 . first | exact ElemsOf.nil | trivial | (intro e he;simp at he)
 . cases led <;> first | rfl | decide +kernel
end L2
namespace L2
open PySem PySem.Spec PyProof.Rows
theorem zF7 {prog:Program}{w:World}{A:Around}{s:Shared}{l:Addr}{its:List Value}{ns:List Int}{Q E:Value->Shared->Prop}(hA:A.handled=none)(hl:s.heap.IsTuple l its.toArray)(hi:IntsAre its ns)(hz:its.length+1<scanBound)
 (q:∀(h:Heap)(tk:Nat),Kp s h->h.SetOf (intKind prog w) s.heap.objs.size (fun k'=>(firstMet (fun i=>ns.getD i 0) its.length).any fun x=>x==k') (firstMet (fun i=>ns.getD i 0) its.length).length->Q (.ref s.heap.objs.size) { s with heap:=h,toks:=tk }) :
 wpAny (model prog w) A (call (.type "set") [.ref l]) Q E s:=by
 refine wpAny_call (codeAny_of_tree (zG ⟨Code.quiet_builtin _ (by decide +kernel),codeAny_builtin PySem.F.entry_type_call ?_⟩))
 unfold Builtin.«type.__call__»
 dsimp only
 rw[if_neg (by rw[PySem.F.called_set.notType];decide)]
 rw[if_neg (by rw[PySem.F.called_set.canCreate];decide)]
 obtain⟨c,tl,hm⟩:=PySem.F.called_set.mro
 refine zA (wpAny_of_eq (PySem.F.typeCall_set_1 _) (zG (zA (wpAny_of_eq hm (zG ?_)))))
 refine zA (wpAny_of_eq PySem.F.called_set.made (zG (zA (zG ?_))))
 refine zA (zAa (wpAny_call (codeAny_mono (code_set_new_1 (E:=E) (.ref l) (Q₁:=fun obj s₁=>obj = .ref s.heap.objs.size/\∃led,s₁={ s with heap:=s.heap.push { cls:=.type "set",data:=.set #[] 0 (SetTable.fresh 0 0 led) } }) fun led=>⟨rfl,led,rfl⟩) fun r s₁ e=>?_)))
 match r,e with
 | .ok (.ret obj),e=>
  obtain⟨rfl,led,rfl⟩:=e
  have h0:Kp s (s.heap.push { cls:=.type "set",data:=.set #[] 0 (SetTable.fresh 0 0 led) }):=fun b o e=>zJ _ e
  have ht:∀h,Kp s h->h.IsTuple l its.toArray:=fun h K=>by
   obtain⟨o,ho,hr⟩:=hl
   exact⟨o,K _ _ ho,hr⟩
  have hlt:l<s.heap.objs.size:=by
   obtain⟨o,ho,_⟩:=hl
   exact zS ho
  have tyS:Shared.TypeIs { s with heap:=s.heap.push { cls:=.type "set",data:=.set #[] 0 (SetTable.fresh 0 0 led) } } (.ref s.heap.objs.size) "set" := ⟨_,zP _ rfl,rfl⟩
  show wpAny _ _ _ _ _ _
  refine zA (wpAny_isInstance tyS PySem.F.called_set.sub ?_)
  refine zA (zAa ?_)
  unfold callSpecial?
  refine zA (wpAny_specialOf tyS PySem.F.called_set.init.lookup (zAa (zA (wpAny_of_eq (PySem.F.called_set.init.bind _) (zG (zA (wpAny_call (codeAny_call_builtin PySem.F.called_set.init.plain PySem.F.entry_set_init (check_set_init_1 tyS ?_)))))))))
  unfold Builtin.«set.__init__»
  refine zA (wpAny_of_eq (m':=pure ()) rfl (zG ?_))
  dsimp only
  refine zA (zA (zA (wpAny_typeOf tyS (wpAny_of_eq (m':=pure (Value.type "set")) rfl (zG (wpAny_of_eq (m':=pure "set") rfl (zG ?_)))))))
  refine zA (wpAny_of_eq (m':=pure ()) rfl (zG (zA (zG ?_))))
  refine zA (zA (zA (wpAny_load (zP _ rfl) ?_)))
  refine wpAny_of_eq (m':=pure (#[],0,SetTable.fresh 0 0 led)) (by cases led <;> rfl) (zG (wpAny_of_eq (m':=pure false) (by cases led <;> rfl) (zG ?_)))
  have tyT:∀h tk,Kp s h->Shared.TypeIs { s with heap:=h,toks:=tk } (.ref l) "tuple" := fun h tk K=>by
   obtain⟨o,ho,hr⟩:=ht h K
   exact⟨o,ho,hr.1⟩
  show wpAny _ _ (Builtin.Frozenset.updateFrom "set.__init__" s.heap.objs.size (.ref l) >>= _) _ _ _
  unfold Builtin.Frozenset.updateFrom
  refine zA (zA (zA (wpAny_isInstance (tyT _ _ h0) PySem.F.sub_tuple_set (wpAny_isInstance (tyT _ _ h0) (b:=false) rfl ?_))))
  refine zA (wpAny_typeOf (tyT _ _ h0) ?_)
  refine zA (wpAny_pyIter_tuple (ht _ h0) (zA (wpAny_runValue ?_)))
  have hsz:(s.heap.push { cls:=.type "set",data:=.set #[] 0 (SetTable.fresh 0 0 led) }).objs.size=s.heap.objs.size+1:=zAj ..
  refine codeAny_set_update_loopS (Walks.toS (Walks.tuple (A:=(A.under (Code.builtin "type.__call__" { pos:=[.type "set",.ref l] })).in1.in1) hA (s.heap.push { cls:=.type "set",data:=.set #[] 0 (SetTable.fresh 0 0 led) }).objs.size l (zW (by rw[hsz];exact zBN hlt)) its.toArray)) s.heap.objs.size ?_ (fun i=>ns.getD i 0) ?_ (by simpa using hz) its.toArray.size 0 _ rfl (zj _) ?_ ?_ ?_
  . rw[hsz]
    intro z
    rcases za.mp z with z | z
    . exact absurd z (zW (zBG _))
    . exact absurd (zi.mp z) (zAH hlt)
  . intro i v hv
    rw[zA9] at hv
    exact hi.int_at i v hv
  . exact⟨⟨_,zP _ rfl,rfl,rfl⟩,ht _ fun b o e=>zJ _ (h0 b o e)⟩
  . have:=zKp (prog:=prog) (w:=w) (h:=s.heap) led
    obtain⟨o,es,ep,t,ho,hr⟩:=this
    exact⟨o,es,ep,t,zJ _ ho,hr⟩
  . intro s' mv so
    refine zG (zG (zG (zG ?_)))
    obtain⟨h',g',d',t',o'⟩:=s'
    obtain rfl:g'=s.gens:=mv.gens
    obtain rfl:d'=s.drawn:=mv.drawn
    obtain rfl:o'=s.os:=mv.os
    refine q h' t' (fun b o e=>mv.heap b o ?_ (zJ _ (h0 b o e))) (by simpa using so)
    have hb:b<s.heap.objs.size:=zS e
    intro z
    rw[hsz] at z
    rcases za.mp z with z | z
    . exact absurd z (zW hb)
    . exact absurd (zi.mp z) (zW (zBN hb))
 | .ok .next,e=>exact e.elim
 | .ok .brk,e=>exact e.elim
 | .ok .cont,e=>exact e.elim
 | .error v,e=>exact e
end L2
namespace L2
open PySem PySem.Spec PyProof.Rows
theorem zDl {ns:List Int}(h:ns.Nodup):∀k,k<=ns.length->firstMet (fun i=>ns.getD i 0) k=ns.take k
 | 0,_=>rfl
 | k+1,hk=>by
  rw[firstMet_succ,zDl h k (by omega)]
  have hx:ns[k]? = some (ns.getD k 0):=by rw[zE,zC (by omega)];rfl
  unfold step_dedup
  rw[if_neg,zAL,hx]
  . rfl
  . intro z
    obtain⟨y,hy,e⟩:=List.any_eq_true.mp z
    have e':y=ns.getD k 0:=by simpa using e
    obtain⟨j,hj,ej⟩:=zAT hy
    rw[zAF] at hj
    rw[List.getElem_take] at ej
    obtain⟨hk',ek⟩:=zL.mp hx
    have:=(List.nodup_iff_pairwise_ne.mp h)
    have:=zAh.mp this j k (by omega) (by omega) (by omega)
    exact this (by rw[ej,ek,e'])
section
variable {X:Cx}
theorem zIU (hc:X.calm=true):zB6 X (.type "set") (fun xs H Q=>∃(p:Addr)(ns:List Int),xs=[.ref p]/\SqT X.K H p (ns.map V.int)/\ns.length<=1000 /\
 ∀d S,H d=none->Q (.ref d) (upd H d (.set S (firstMet (fun i=>ns.getD i 0) ns.length).length))):=by
 intro pins s σ H xs us Q I r h
 obtain⟨p,ns,rfl,hq,hl,q⟩:=h
 obtain⟨u,rfl,rx⟩:=zCa r
 cases rx
 obtain⟨its,rv,pl,hz⟩:=I.tuple hq
 have hi:=zBR rv
 have hil:=hi.length
 refine zF7 (I.ok.hd hc) pl hi (by have:scanBound=4096:=rfl;omega) fun h tk K so=>?_
 rw[hil] at so
 exact⟨.ref s.heap.objs.size,_,I.laid (a:=s.heap.objs.size) (t':=tk) K (zM _) (show zBA X.prog X.w _ _ _ (.set _ _) from so),rfl,q _ _ I.fresh⟩
theorem zIV:zB6 X (.builtin "len") (fun xs H Q=>∃(a:Addr)(S:Int->Bool)(n:Nat),xs=[.ref a]/\H a=some (.set S n)/\Q (.int n) H):=by
 intro pins s σ H xs us Q I r h
 obtain⟨a,S,n,rfl,ha,q⟩:=h
 obtain⟨u,rfl,rx⟩:=zCa r
 cases rx
 obtain⟨o,es,ep,t,ho,ex,hd,_,_,hb,hf,hn⟩:=(show zBA X.prog X.w H s.heap a (.set S n) from I.hok a _ ha)
 refine call_len_set ho ex hd hf (by have:scanBound=4096:=rfl;omega) ⟨.int n,H,I.tok _,⟨_,by rw[hn]⟩,q⟩
noncomputable def tBMT (r:V->List V->Hp->VK->Prop)(to:TE)(t:TA):TE:=fun σ H Q=>to σ H fun x H1=>(∃p ys,x = .ref p/\H1 p=some (.tup ys))/\t σ H1 fun xs H2=>r x xs H2 Q
variable {o e:Expr}{es:List Expr}{to:TE}{t:TA}{name:Str}{apos cpos:Pos}{id:String}{r:V->List V->Hp->VK->Prop}
theorem pe_bmT (slot:Slot "tuple" name id) (hty:typeOf (.builtin id)=pure (.type "method_descriptor")) (hm:MtR X id r)(ho:PE X o to)(ha:PA X (e::es) t)
 (hbase:attributeBase o name X.env (eval o X.env)=eval o X.env:=by rfl)
 (hfew:((backTo cpos (starEach (e::es) X.env)).all (fun x=>!x.1) && (backToKw cpos (keywordEach [] X.env)).all (fun x=>x.1.isSome)
  && decide ((e::es).length+([]:List Keyword).length+(if ([]:List Keyword).isEmpty then 0 else 1)<30))=true:=by rfl)
 (hline:(apos.endLine==cpos.line)=true:=by rfl)(hs:starEach (e::es) X.env=(false,eval e X.env)::starEach es X.env:=by rfl)(hplain:(backTo cpos (starEach es X.env)).any (·.1)=false:=by rfl) :
 PE X (.Call (.Attribute o name apos) (e::es) [] cpos) (tBMT r to t):=by
 intro pins s σ H Q I h
 refine wpAny_Call_method_late hbase hfew hline rfl (thn (ho pins s σ H _ I h) fun v s1 ⟨x,H1,I1,r1,⟨p,ys,ex,hp⟩,q1⟩=>?_)
 subst ex
 cases (show v=Value.ref p from r1)
 obtain⟨⟨_,o2,ho2,hd2⟩,its,rv,ob,hob,hcl,_⟩:=(show zBA X.prog X.w H1 s1.heap p (.tup ys) from I1.hok p _ hp)
 refine⟨"tuple",id,PySem.F.plainAttrs_tuple,slot,hty,⟨ob,hob,hcl⟩,fun a ea=>?_,?_⟩
 . cases ea
   exact⟨o2,ho2,hd2⟩
 have hA:=ha cpos pins s1 σ H1 _ I1 q1
 rw[hs] at hA ⊢
 refine Calls.callWith_builtin (by show (false || (backTo cpos (starEach es X.env)).any (·.1))=false;rw[hplain] <;> rfl) (Calls.evalArgs_plain ?_)
 exact thn hA fun us s2 ⟨vs,H2,I2,r2,q2⟩=>hm pins s2 σ H2 (.ref p) vs (.ref p) us Q I2 rfl r2 q2
end
section
variable {prog:Program}{w:World}{A:Around}{E:Value->Shared->Prop}
theorem zIA {its:Array Value}{ns:List Int}{v:Int}{tv:Tok}{i:Nat}{R:Option PySem.Fin×Unit->Shared->Prop}(hi:IntsAre its.toList ns)(hv:ns[i]? = some v)(hno:∀j,j<i->ns[j]?≠some v)
 (f:Nat->Option PySem.Fin×Unit->Sem (ForInStep (Option PySem.Fin×Unit)))
 (hf:∀(j:Nat)(x:Option PySem.Fin×Unit),f j x=(match its[j]? with
  | some y=>do
   let b <-eqBool y (.int v tv)
   if b=true then do
    let r <-retInt j
    pure (.done (some r,()))
   else pure (.yield (none,()))
  | _=>pure (.yield (none,()))))
 (s:Shared)(hR:∀tk,R (some (.done (.ret (.int i s.toks))),()) { s with toks:=tk }) :
 ∀(r j:Nat)(b:Option PySem.Fin×Unit),i-j=r->j<=i->wpAny (model prog w) A (forIn (List.range' j (its.size-j) 1) b f) R E s:=by
 have hsz:its.size=ns.length:=by have:=hi.length;simpa using this
 have hil:i<ns.length:=(zL.mp hv).1
 have look:∀j,j<ns.length->∃t,its[j]? = some (.int (ns.getD j 0) t):=fun j hj=>by
  have hj':j<its.size:=by omega
  obtain⟨t,ht⟩:=hi.int_at j (its[j]'hj') (by rw[Array.getElem?_toList,Array.getElem?_eq_getElem hj'])
  exact⟨t,by rw[Array.getElem?_eq_getElem hj',ht]⟩
 intro r
 induction r with
 | zero=>
  intro j b hr hj
  obtain rfl:j=i:=by omega
  rw[show its.size-j=(its.size-j-1)+1 by omega,List.range'_succ,List.forIn_cons,hf]
  obtain⟨t,ht⟩:=look j hil
  rw[ht]
  refine zA (zA (wpAny_eqBool_int ?_))
  have e:ns.getD j 0=v:=by rw[zE,hv];rfl
  rw[e,show (v==v)=true by simp]
  refine zA (zA (wpAny_mkInt (zG (zG (zG ?_)))))
  exact hR _
 | succ r ih=>
  intro j b hr hj
  rw[show its.size-j=(its.size-(j+1))+1 by omega,List.range'_succ,List.forIn_cons,hf]
  obtain⟨t,ht⟩:=look j (by omega)
  rw[ht]
  refine zA (zA (wpAny_eqBool_int ?_))
  have hj':ns[j]? = some (ns.getD j 0):=by rw[zE,zC (by omega)];rfl
  have e:¬ ns.getD j 0=v:=fun z=>hno j (by omega) (by rw[hj',z])
  rw[show (ns.getD j 0==v)=false by simpa using e]
  refine zG ?_
  exact ih (j+1) _ (by omega) (by omega)
end
section
variable {X:Cx}
theorem zJP:MtR X "tuple.index" (fun x xs H Q=>∃(p:Addr)(ns:List Int)(i:Nat)(v:Int),x = .ref p/\xs=[.int v]/\SqT X.K H p (ns.map V.int)/\ns[i]? = some v/\(∀j,j<i->ns[j]?≠some v)/\Q (.int i) H):=by
 intro pins s σ H x xs v us Q I rx r h
 obtain⟨p,ns,i,k,rfl,rfl,hq,hi,hno,q⟩:=h
 cases (show v=Value.ref p from rx)
 obtain⟨u,rfl,t,rfl⟩:=zCa r
 obtain⟨its,rv,⟨ob,hob,hcl,n,hdat⟩,hz⟩:=I.tuple hq
 have hI:=zBR rv
 refine wpAny_call (codeAny_call_builtin PySem.F.slot_tuple_index.plain PySem.F.entry_tuple_index (PySem.F.slot_tuple_index.check _ _ _ _ _ _ _ _ ⟨ob,hob,hcl⟩ (PySem.F.args_tuple_index_2 _ _) ?_))
 unfold Builtin.«tuple.index»
 refine zA (wpAny_of_eq (m':=pure (Value.ref p,[Value.int k t])) rfl (zG ?_))
 refine zA (zA (zA5 hob hdat (zG ?_)))
 refine zA (zG (zA (zG (zA ?_))))
 rw[Std.Legacy.Range.forIn_eq_forIn_range']
 have hsz:(Std.Legacy.Range.mk 0 (min its.toArray.size its.toArray.size) 1 (by decide)).size=its.toArray.size-0:=by
  show (min its.toArray.size its.toArray.size-0+1-1)/1=_
  rw[Nat.min_self];omega
 rw[hsz]
 refine zIA (its:=its.toArray) (ns:=ns) (v:=k) (tv:=t) (i:=i) hI hi hno _ (fun j x=>by rfl) s (fun tk=>?_) i 0 _ (by omega) (zj _)
 exact zG ⟨.int i,H,I.tok _,⟨_,rfl⟩,q⟩
end
section
variable {X:Cx}{pl:List (Addr×Obj)}{N':List Str}{sc:Scope}{fp:List Addr}{s3:Shared}{H3:Hp}
theorem zHr:MtR (zA6 X pl N' sc fp s3 H3) "tuple.index" (fun x xs H Q=>∃(p:Addr)(ns:List Int)(i:Nat)(v:Int),x = .ref p/\xs=[.int v]/\SqT X.K H p (ns.map V.int)/\ns[i]? = some v/\(∀j,j<i->ns[j]?≠some v)/\Q (.int i) H):=zJP
end
end L2
namespace L2
open PySem PySem.Spec PyProof.Rows
section
variable {X:Cx}
end
end L2
namespace L2
open PySem PySem.Spec PyProof.Rows
section
variable {prog:Program}{w:World}{A:Around}{s:Shared}{l:Addr}{its:List Value}{ns:List Int}{v:Int}{tv:Tok}
end
section
variable {X:Cx}
end
end L2
namespace WM
open L2
structure En where
 h:Int
 l:Int
 u:Option Int
 d:Option Int
noncomputable def Hub (es:List En):Prop:=es.Pairwise fun a b=>a.h<b.h
end WM
namespace L2
open PySem PyProof.Rows
end L2
namespace WM
end WM
namespace L2
open PySem PySem.Spec PyProof.Rows
section
variable {X:Cx}
end
end L2
namespace SortT
open PySem PySem.W PySem.Calls PyProof.Rows
section
variable {prog:Program}{w:World}{A:Around}{E:Value->Shared->Prop}{s:Shared}
end
end SortT
namespace L2
open PySem PySem.Spec PyProof.Rows
section
variable {X:Cx}
end
section
variable {X:Cx}{pl:List (Addr×Obj)}{N':List Str}{sc:Scope}{fp:List Addr}{s3:Shared}{H3:Hp}
end
end L2
namespace L2
open PySem PySem.Spec PyProof.Rows
section
variable {X:Cx}
noncomputable def rCatA (K:PySem.W.Frag):R2:=fun x y H Q=>∃a b xs ys,x = .ref a/\y = .ref b/\SqT K H a xs/\SqT K H b ys/\xs.length+ys.length<=sizeLine /\
 (xs=[]->Q (.ref b) H)/\(xs≠[]->ys=[]->Q (.ref a) H)/\(xs≠[]->ys≠[]->∀p,H p=none->Q (.ref p) (upd H p (.tup (xs++ys))))
theorem zLq {prog:Program}{w:World}{A:Around}{E:Value->Shared->Prop}{s:Shared}{t b:Addr}{ws:List Value}{Q:Value->Shared->Prop}(ht:IsTup s.heap t #[])(hb:IsTup s.heap b ws.toArray)
 (h:Q (.ref b) s):wpAny (model prog w) A (binaryOp .Add (.ref t) (.ref b)) Q E s:=by
 obtain⟨⟨cls,dd,data,sl⟩,ho,hc,n,hd⟩:=id ht
 obtain⟨⟨cls2,dd2,data2,sl2⟩,ho2,hc2,n2,hd2⟩:=id hb
 simp only at hc hd hc2 hd2
 subst hc hd hc2 hd2
 exact concat_meets ⟨_,ho,rfl⟩ ⟨_,ho2,rfl⟩ noFill_tuple_add seq_tuple_add PySem.F.slot_tuple_add PySem.F.entry_tuple_add (PySem.F.args_tuple_add_2 _ _)
  (tuple_addW0 t b #[] ws.toArray n n2 dd dd2 sl sl2 rfl) ⟨ho,ho2,h⟩
theorem zLE:OpR X (binaryOp .Add) (rCatA X.K):=by
 intro pins s σ H x y v u Q I rx ry h
 obtain⟨a,b,xs,ys,rfl,rfl,ha,hb,hz,q0,q1,q2⟩:=h
 by_cases hx:xs=[]
 . subst hx
   cases rx
   cases ry
   obtain⟨its,r1,p1,_⟩:=I.tuple ha
   obtain⟨its2,r2,p2,_⟩:=I.tuple hb
   cases r1
   exact zLq p1 p2 ⟨.ref b,H,I,rfl,q0 rfl⟩
 . exact zLD pins s σ H _ _ v u Q I rx ry ⟨a,b,xs,ys,rfl,rfl,ha,hb,hx,hz,q1 hx,q2 hx⟩
end
end L2
namespace L2
open PySem PySem.Spec PyProof.Rows
section
variable {X:Cx}
theorem zIT:zB6 X (.type "str") (fun xs H Q=>∃i:Int,xs=[.int i]/\i.natAbs<1000000000/\Q (.str (Str.ofString (toString i))) H):=by
 intro pins s σ H xs us Q I r h
 obtain⟨i,rfl,hi,q⟩:=h
 obtain⟨u,rfl,rx⟩:=zCa r
 obtain⟨t,rfl⟩:=rx
 exact str_of_int_fit (N:=1000000000) (by split <;> omega) (by decide) fun _=>⟨.str _,H,I.tok _,⟨_,rfl⟩,q⟩
noncomputable def rNeTE (K:PySem.W.Frag):R2:=fun x y H Q=>∃(a b:Addr)(xs:List V),x = .ref a/\y = .ref b/\SqT K H a xs/\SqT K H b []/\Q (.bl (!xs.isEmpty)) H
theorem zK8 (hu:X.A.units<cLine):OpR X (compareOp .NotEq) (rNeTE X.K):=by
 intro pins s σ H x y v u Q I rx ry h
 obtain⟨a,b,xs,rfl,rfl,ha,hb,q⟩:=h
 cases rx
 cases ry
 obtain⟨its,r,pl,hz⟩:=I.tuple ha
 obtain⟨its2,r2,pl2,hz2⟩:=I.tuple hb
 have l1:=r.length
 have e2:its2=[]:=by cases r2;rfl
 subst e2
 refine PySem.EqBoolInt.of_rcne (SeqAt.RcNeAt.tuples (e:=fun _=>true) pl pl2 hu (fun j _ h2=>absurd h2 (by simp))) ⟨.bl _,H,I,rfl,?_⟩
 have e:(!((List.range (min its.toArray.size ([]:List Value).toArray.size)).all (fun _=>true) && its.toArray.size==([]:List Value).toArray.size)) = !xs.isEmpty:=by
  cases xs with
  | nil=>cases r;rfl
  | cons x xs=>cases r;simp
 rw[e]
 exact q
end
end L2
namespace HT
open PySem PySem.Spec PyProof.Rows
section
open PySem.SeqAt
open PySem.AutoSeq1 (wpAny_loadPart')
open PySem.MeetsSeq PySem.MeetsSeq2 PySem.MeetsSeq3
end
end HT
namespace L2
open PySem PySem.Spec PyProof.Rows
section
variable {X:Cx}
end
end L2
namespace HT
open PySem PySem.Spec PyProof.Rows
section
variable {prog:Program}{w:World}{A:Around}{E:Value->Shared->Prop}{s:Shared}
theorem getItem_tuple_all {t sl:Addr}{items:Array Value}{vl vu:Value}{lo hi:Option Int}{Q:Value->Shared->Prop}(ht:IsTup s.heap t items)(hs:s.heap.IsSliceOf sl vl vu .none)(pl:IsPart vl lo)(pu:IsPart vu hi)
 (hw:sIx items.size 0 lo=0/\sIx items.size items.size hi=items.size)(h:Q (.ref t) s):wpAny (model prog w) A (getItem (.ref t) (.ref sl)) Q E s:=by
 obtain⟨os,hos,hcs,hds⟩:=id hs
 have hTs:s.TypeIs (.ref sl) "slice" := ⟨os,hos,hcs⟩
 unfold getItem
 try with_reducible refine zAa ?_
 first | refine zA (zG ?_) | skip
 refine zA (wpAny_sequenceKey ht.typeIs (by decide) ?_)
 refine zA (zAb (name:=Str.ofString "__getitem__") ht.typeIs PyProof.Rows.slot_tuple_getitem
  (zAl PyProof.Rows.slot_tuple_getitem ht.typeIs entry_tuple_getitem ?_ (args_tuple_getitem _ _)))
 show wpAny _ _ (Builtin.Tuple.tupleItemsOf (.ref t) >>= _) _ _ s
 refine zA (tupleItemsOf_ ht ?_)
 refine zA (wpAny_typeOf hTs ?_)
 rw[if_pos (by decide)]
 refine zA (zCA hs pl pu ?_)
 have hyes:(((sIx items.size 0 lo:Nat):Int)==0 && (1:Int)==1 && (sIx items.size items.size hi-sIx items.size 0 lo)==items.size)=true:=by
  rw[hw.1,hw.2];simp
 show wpAny _ _ (if (((sIx items.size 0 lo:Nat):Int)==0 && (1:Int)==1 && (sIx items.size items.size hi-sIx items.size 0 lo)==items.size)=true then _ else _) _ _ s
 rw[if_pos hyes]
 unfold Builtin.Tuple.tupleIsExact
 refine zA (zA (wpAny_typeOf ht.typeIs (zG ?_)))
 rw[if_pos (by decide)]
 first
  | exact zA (wpAny_rule (zG ⟨_,rfl,zG h⟩))
  | exact zA (wpAny_rule (zG (zG ⟨_,rfl,zG h⟩)))
  | exact zA (wpAny_rule (zA (zG (zG ⟨_,rfl,zG h⟩))))
  | exact wpAny_rule (zG ⟨_,rfl,zG h⟩)
end
end HT
namespace L2
open PySem PySem.Spec PyProof.Rows
section
variable {X:Cx}{e:Expr}{te:TE}{pos p2 p3 p4:Pos}
noncomputable def rSlA (K:PySem.W.Frag):V->Option Int->Option Int->Hp->VK->Prop:=fun x lo hi H Q=>∃a xs,x = .ref a/\SqT K H a xs /\
 ((HT.sIx xs.length 0 lo=0/\HT.sIx xs.length xs.length hi=xs.length)->Q (.ref a) H)/\(¬ (HT.sIx xs.length 0 lo=0/\HT.sIx xs.length xs.length hi=xs.length)->∀p,H p=none->Q (.ref p) (upd H p (.tup (zC0 xs lo hi))))
theorem zKl:SlR X (rSlA X.K):=by
 intro pins s σ H x v vl vu lo hi sl Q I rx hs pl pu h
 obtain⟨a,xs,rfl,hx,q1,q2⟩:=h
 by_cases c:HT.sIx xs.length 0 lo=0/\HT.sIx xs.length xs.length hi=xs.length
 . cases rx
   obtain⟨its,r,ht,hz⟩:=I.tuple hx
   have hlen:its.toArray.size=xs.length:=by rw[zI];exact r.length.symm
   refine⟨"tuple",_,PyProof.Rows.slot_tuple_getitem.lookup,ht.typeIs,?_⟩
   exact HT.getItem_tuple_all ht hs pl pu (by rw[hlen];exact c) ⟨.ref a,H,I,rfl,q1 c⟩
 . exact sl_tup pins s σ H _ v vl vu lo hi sl Q I rx hs pl pu ⟨a,xs,rfl,hx,c,q2 c⟩
end
end L2
namespace L2
open PySem PySem.Spec PyProof.Rows
section
variable {X:Cx}{pins:List (Addr×Obj)}{σ:St}{H:Hp}{s:Shared}{h':Heap}
theorem Inv.turnedLaid {t':Nat}{fp:List Addr}{a:Addr}{o:HO}(I:Inv X pins σ H s)(hf:∀b∈fp,zG2 X pins H b)(k:∀b u,b∉fp->s.heap.get? b=some u->h'.get? b=some u)(hp:s.heap.objs.size<=a)
 (new:zBA X.prog X.w (upd H a o) h' a o):Inv X pins σ (upd H a o) { s with heap:=h',toks:=t' }:=by
 have fr:H a=none:=I.hok.fresh hp
 have nfp:∀b u,H b=some u->b∉fp:=fun b u e z=>by rw[(hf b z).1] at e;cases e
 have na:∀b u,H b=some u->b≠a:=fun b u e z=>by rw[z,fr] at e;cases e
 refine I.step (g':=s.gens) (d':=s.drawn) (ch:=fp) (fun b hb=>?_) (fun b u _ _ hc e _=>k b u hc e) (fun b u _ _ hc e _=>⟨u.slots,k b u hc e⟩) (fun b u hc e n=>?_) (fun b u hc e=>⟨u,k b u hc e⟩)
  (fun b xs e=>by rw[zV (na b _ e)];exact e) (fun b u w e=>by rw[zV (na b _ e)];exact e) (fun b ps e=>⟨#[],by rw[zV (na b _ e),e];simp⟩) (fun m hm=>?_) (fun b u e=>?_) I.bare
 . obtain⟨f0,f1,f2,f3,f4,f5⟩:=hf b hb
   exact⟨f3,f1,f4,f5⟩
 . rw[zV (zW (zk (zS e) hp))]
   exact n
 . obtain⟨u,es,ep,ho,r⟩:=hm
   exact⟨u,es,ep,k _ u (fun z=>(hf _ z).2.1 rfl) ho,r⟩
 . by_cases z:b=a
   . subst z
     rw[zH] at e
     cases e
     exact new
   . rw[zV z] at e
     refine (I.hok b u e).stay (fun c v hc q=>k c v ?_ q) (fun c q=>by rw[zV (na c _ q)];exact q) fun c xs q=>by rw[zV (na c _ q)];exact q
     rcases hc with z | z
     . rw[z];exact nfp b u e
     . exact nfp c _ z
end
section
variable {X:Cx}
end
end L2
namespace L2
open PySem PySem.Spec PyProof.Rows
section
variable {X:Cx}
theorem zKO:∀(Ts:List String)(its:List Value),zA2 (Ts.map V.ty) its->its=Ts.map Value.type:=by
 intro Ts
 induction Ts with
 | nil=>intro its h;cases h;rfl
 | cons a r ih=>
  intro its h
  cases h with
  | cons h1 h2=>rw[ih _ h2,show _=Value.type a from h1];rfl
theorem zCw:zB6 X (.builtin "isinstance") (fun xs H Q=>∃(x:V)(tp:Addr)(Ts:List String)(t:Value)(b:Bool),xs=[x,.ref tp]/\H tp=some (.tup (Ts.map V.ty))/\zFn X.K H x t/\PySem.W.kitAny X.K t (Ts.map Value.type)=some b/\Q (.bl b) H):=by
 intro pins s σ H xs us Q I r h
 obtain⟨x,tp,Ts,t,b,rfl,ht,ty,e,q⟩:=h
 obtain⟨u,w',rfl,rx,rT⟩:=zE0 r
 cases (show w'=Value.ref tp from rT)
 obtain⟨⟨z,o2,e2,d2⟩,its,rv,ob,e3,c3,n3,s3⟩:=(show zBA X.prog X.w H s.heap tp (.tup (Ts.map V.ty)) from I.hok tp _ ht)
 have hits:=zKO Ts its rv
 obtain⟨c',d',da',sl'⟩:=ob
 simp only at c3 s3
 subst c3 s3 hits
 have h:∀tk,EP X pins σ Q (.bool b) { s with toks:=tk }:=fun tk=>⟨.bl b,H,I.tok tk,rfl,q⟩
 cases ty with
 | non=>cases (show u=Value.none from rx);exact PySem.W.kia_tup PySem.W.kitx_none I.kIn True.intro e3 e (fun z=>nomatch z) h
 | bl y=>cases (show u=Value.bool y from rx);exact PySem.W.kia_tup PySem.W.kitx_bool I.kIn True.intro e3 e (fun z=>nomatch z) h
 | int i=>obtain⟨t,q⟩:=(show ∃t,u=Value.int i t from rx);cases q;exact PySem.W.kia_tup PySem.W.kitx_int I.kIn True.intro e3 e (fun z=>nomatch z) h
 | str y=>obtain⟨t,q⟩:=(show ∃t,u=Value.str y t from rx);cases q;exact PySem.W.kia_tup PySem.W.kitx_str I.kIn True.intro e3 e (fun z=>nomatch z) h
 | flt y=>obtain⟨t,q⟩:=(show ∃t,u=Value.float y t from rx);cases q;exact PySem.W.kia_tup PySem.W.kitx_float I.kIn True.intro e3 e (fun z=>nomatch z) h
 | @lst a xs ea=>
  cases (show u=Value.ref a from rx)
  obtain⟨_,_,n,_,h1⟩:=(show zBA X.prog X.w H s.heap a (.lst xs) from I.hok a _ ea)
  exact PySem.W.kia_tup PySem.W.kitx_list I.kIn ⟨_,h1,rfl⟩ e3 e (fun z=>nomatch z) h
 | @frz a ob xs ea=>
  cases (show u=Value.ref a from rx)
  obtain⟨_,_,_,n,_,h1⟩:=(show zBA X.prog X.w H s.heap a (.frz ob (.lst xs)) from I.hok a _ ea)
  exact PySem.W.kia_tup PySem.W.kitx_list I.kIn ⟨_,h1,rfl⟩ e3 e (fun z=>nomatch z) h
 | @tup a xs ea=>
  cases (show u=Value.ref a from rx)
  obtain⟨_,_,_,p⟩:=(show zBA X.prog X.w H s.heap a (.tup xs) from I.hok a _ ea)
  obtain⟨o,h1,h2,_⟩:=p
  exact PySem.W.kia_tup PySem.W.kitx_tuple I.kIn ⟨o,h1,h2⟩ e3 e (fun z=>nomatch z) h
 | @dK a kvs ea=>
  cases (show u=Value.ref a from rx)
  obtain⟨_,_,vs,_,p⟩:=(show zBA X.prog X.w H s.heap a (.dK kvs) from I.hok a _ ea)
  obtain⟨o,es,ep,h1,h2,_⟩:=p
  exact PySem.W.kia_tup PySem.W.kitx_dict I.kIn ⟨o,h1,h2.1⟩ e3 e (fun z=>nomatch z) h
 | @dT a kvs ea=>
  cases (show u=Value.ref a from rx)
  obtain⟨_,_,xs,_,o,es,ep,h1,h2,_⟩:=(show zBA X.prog X.w H s.heap a (.dT kvs) from I.hok a _ ea)
  exact PySem.W.kia_tup PySem.W.kitx_dict I.kIn ⟨o,h1,h2.1⟩ e3 e (fun z=>nomatch z) h
 | @ins a C dx fs ea cl ha hn htk hm=>
  cases (show u=Value.ref a from rx)
  obtain⟨mA,O,_⟩:=zDi I.hok ea
  obtain⟨od,J,_⟩:=O.look
  exact PySem.W.kia_tup (PySem.W.kitx_own (cl.get _) cl.hd ha hn htk hm) I.kIn J e3 e (fun z=>nomatch z) h
end
end L2
namespace L2
open PySem PySem.Spec PyProof.Rows
open PySem.AutoSeq1 (wpAny_loadPart')
section
variable {prog:Program}{w:World}{A:Around}{E:Value->Shared->Prop}{s:Shared}
theorem zGm {it t:Addr}{i:Nat}{items:Array Value}{x:Value}{Q:Value->Shared->Prop}(hi:s.heap.IsTupleIter it t i)(ht:s.heap.IsTuple t items)(hx:items[i]? = some x)
 (hQ:∀h',h'.IsTupleIter it t (i+1)->Heap.SameBut it s.heap h'->Q x { s with heap:=h' }):wpAny (model prog w) A (Builtin.SmallTypes.nextOf (.ref it)) Q E s:=by
 obtain⟨oi,hoi,ci,di⟩:=id hi
 obtain⟨ot,hot,_,nt,dt⟩:=ht
 unfold Builtin.SmallTypes.nextOf
 refine zA (zAb (name:=Str.ofString "__next__") hi.typeIs PySem.F.slot_tuple_iterator_next (zAl PySem.F.slot_tuple_iterator_next hi.typeIs PySem.F.entry_tuple_iterator_next ?_ (PySem.F.args_tuple_iterator_next_1 _)))
 show wpAny (model prog w) _ (field (.ref it) 0 >>= _) _ _ s;refine zA (zA1 hoi di (x:=.ref t) rfl ?_)
 show wpAny (model prog w) _ (if (Value.ref t==Value.none)=true then _ else _) _ _ s;rw[if_neg (show ¬ ((Value.ref t==Value.none)=true) from zT)]
 show wpAny (model prog w) _ (field (.ref it) 1 >>= _) _ _ s;refine zA (zA1 hoi di (x:=.int i 0) rfl ?_)
 show wpAny (model prog w) _ (seqItems? (.ref t) >>= _) _ _ s;refine zA (zA5 hot dt ?_)
 simp only[hx,zBc]
 refine zA (wpAny_setField hoi di (by simp) (zG ⟨x,rfl,zG (hQ _ ?_ (Heap.SameBut.update ..))⟩))
 refine⟨_,Heap.get?_update_self _ hoi (Obj.isFreed_of_fields (Obj.data_mapFields di _)),(Obj.cls_mapFields ..).trans ci,?_⟩
 rw[Obj.data_mapFields di];simp[rawInt]
theorem zFU {it t:Addr}{i:Nat}{items:Array Value}{Q:Value->Shared->Prop}(hA:A.handled=none)(hi:s.heap.IsTupleIter it t i)(ht:s.heap.IsTuple t items)(hx:items[i]? = none)
 (hE:∀h' e,Heap.ExtBut it s.heap h'->(∃o,h'.get? e=some o/\o.cls = .type "StopIteration")->E (.ref e) { s with heap:=h' }):wpAny (model prog w) A (Builtin.SmallTypes.nextOf (.ref it)) Q E s:=by
 obtain⟨oi,hoi,ci,di⟩:=id hi
 obtain⟨ot,hot,_,nt,dt⟩:=ht
 unfold Builtin.SmallTypes.nextOf
 refine zA (zAb (name:=Str.ofString "__next__") hi.typeIs PySem.F.slot_tuple_iterator_next (zAl PySem.F.slot_tuple_iterator_next hi.typeIs PySem.F.entry_tuple_iterator_next ?_ (PySem.F.args_tuple_iterator_next_1 _)))
 show wpAny (model prog w) _ (field (.ref it) 0 >>= _) _ _ s;refine zA (zA1 hoi di (x:=.ref t) rfl ?_)
 show wpAny (model prog w) _ (if (Value.ref t==Value.none)=true then _ else _) _ _ s;rw[if_neg (show ¬ ((Value.ref t==Value.none)=true) from zT)]
 show wpAny (model prog w) _ (field (.ref it) 1 >>= _) _ _ s;refine zA (zA1 hoi di (x:=.int i 0) rfl ?_)
 show wpAny (model prog w) _ (seqItems? (.ref t) >>= _) _ _ s;refine zA (zA5 hot dt ?_)
 simp only[hx,zBc]
 refine zA (wpAny_rule (zA (wpAny_setField hoi di (by simp) ?_)))
 show wpAny (model prog w) _ (newExc (.type "StopIteration") [] >>= _) _ _ _;refine zA ?_
 simp only[newTuple,newExc]
 refine zA (zAo ?_ (by size_fits));refine zA (m:=firstArgMember _ _) (PySem.wpAny_of_eq (a:=Value.none) (by first | rfl | (simp only[firstArgMember];rfl)) ?_)
 refine zAo ?_ (by size_fits);simp only[raiseNew];refine zA (wpAny_handled ?_)
 first
  | rw[show A.in1.handled=none from hA]
  | rw[hA]
 exact zA (zG (wpAny_throw (hE _ _ (((Heap.SameBut.update ..).extBut.push _).push _) ⟨_,zP _ rfl,rfl⟩)))
end
theorem zFY {prog:Program}{w:World}{A:Around}(hA:A.handled=none)(it t:Addr)(hne:t≠it)(items:Array Value) :
 Draws prog w A it [it,t] items.size (fun i v=>items[i]? = some v) (fun i h=>h.IsTupleIter it t i/\h.IsTuple t items) where
 live:=fun _ _ st=>by
  obtain⟨⟨o,ho,_⟩,_⟩:=st
  exact⟨o,ho⟩
 frame:=fun _ h h' st hk=>by
  obtain⟨⟨o,ho,r⟩,o2,ho2,r2⟩:=st
  exact⟨⟨o,hk it (by simp) o ho,r⟩,o2,hk t (by simp) o2 ho2,r2⟩
 item:=fun i s Q E hi st hQ=>zGm st.1 st.2 (x:=items[i]) (by simp[hi]) fun h' a b=>hQ _ h' s.toks (by simp[hi]) ⟨a,st.2.extBut b.extBut hne⟩ b
 done:=fun s Q E st hE=>zFU hA st.1 st.2 (by simp) hE
section
variable {X:Cx}
end
end L2
namespace L2
open PySem PySem.Spec PyProof.Rows
end L2
namespace L2
open PySem PySem.Spec PyProof.Rows
open PySem.AutoSeq1 (wpAny_loadPart')
theorem Inv.turnedFp {X:Cx}{pins:List (Addr×Obj)}{σ:L2.St}{H:Hp}{s:Shared}{h':Heap}{t':Nat}{fp:List Addr}(I:Inv X pins σ H s)(hf:∀b∈fp,zG2 X pins H b)(k:∀b u,b∉fp->s.heap.get? b=some u->h'.get? b=some u):Inv X pins σ H { s with heap:=h',toks:=t' }:=by
 have nfp:∀b u,H b=some u->b∉fp:=fun b u e z=>by rw[(hf b z).1] at e;cases e
 refine I.step (g':=s.gens) (d':=s.drawn) (ch:=fp) (fun b hb=>?_) (fun b u _ _ hc e _=>k b u hc e) (fun b u _ _ hc e _=>⟨u.slots,k b u hc e⟩) (fun _ _ _ _ n=>n) (fun b u hc e=>⟨u,k b u hc e⟩)
  (fun _ _ e=>e) (fun _ _ _ e=>e) (fun b ps e=>⟨#[],by rw[e];simp⟩) (fun m hm=>?_) (fun b u e=>?_) I.bare
 . obtain⟨f0,f1,f2,f3,f4,f5⟩:=hf b hb
   exact⟨f3,f1,f4,f5⟩
 . obtain⟨u,es,ep,ho,r⟩:=hm
   exact⟨u,es,ep,k _ u (fun z=>(hf _ z).2.1 rfl) ho,r⟩
 . refine (I.hok b u e).stay (fun c v hc q=>k c v ?_ q) (fun _ q=>q) fun _ _ q=>q
   rcases hc with z | z
   . rw[z];exact nfp b u e
   . exact nfp c _ z
structure ZAp (zp tI tO i1 i2:Addr)(fp1 fp2:List Addr):Prop where
 zTI:tI≠zp
 zTO:tO≠zp
 z1:i1≠zp
 z2:i2≠zp
 IO:tI≠tO
 I1:tI≠i1
 I2:tI≠i2
 O1:tO≠i1
 O2:tO≠i2
 i12:i1≠i2
 a1:zp∉fp1/\tO∉fp1/\i2∉fp1
 a2:zp∉fp2/\tO∉fp2/\i1∉fp2
section
variable {prog:Program}{w:World}{A:Around}{E:Value->Shared->Prop}{s:Shared}
theorem zG3 {zp tI tO i1 i2:Addr}{fp1 fp2:List Addr}{n1 n2 k:Nat}{P1 P2:Nat->Value->Prop}{St1 St2:Nat->Heap->Prop}{a b:Value}{Q:Value->Shared->Prop}(D1:Draws prog w A i1 fp1 n1 P1 St1)(D2:Draws prog w A i2 fp2 n2 P2 St2)(Z:ZAp zp tI tO i1 i2 fp1 fp2)
 (gz:IsZip s.heap zp tI tO .none)(gI:IsPair s.heap tI (.ref i1) (.ref i2))(gO:IsPair s.heap tO a b)(s1:St1 k s.heap)(s2:St2 k s.heap)(l1:k<n1)(l2:k<n2)
 (qd:∀x y h' tk,P1 k x->P2 k y->IsZip h' zp tI tO (rawInt s.heap.objs.size)->IsPair h' tO x y->St1 (k+1) h'->St2 (k+1) h'->IsPair h' s.heap.objs.size x y->h'.objs.size=s.heap.objs.size+1 ->
  (∀c o,c≠zp->c≠tO->c≠i1->c≠i2->s.heap.get? c=some o->h'.get? c=some o)->Q (.ref s.heap.objs.size) { s with heap:=h',toks:=tk }) :
 wpAny (model prog w) A (Builtin.«zip.__next__» ⟨[.ref zp],[]⟩) (fun fin s'=>∃v,fin = .done (.ret v)/\Q v s') E s:=by
 obtain⟨hp,g,d,tk₀,os⟩:=s
 show wpAny _ _ (field (.ref zp) 2 >>= _) _ _ _
 refine zA (zA1 gz rfl (x:=.bool false) rfl ?_)
 show wpAny _ _ (field (.ref zp) 3 >>= _) _ _ _
 refine zA (zA1 gz rfl (x:=.ref tI) rfl (zA (zA5 gI rfl ?_)))
 show wpAny _ _ (Builtin.SmallTypes.ownedTupleIsFree (.ref zp) >>= _) _ _ _
 unfold Builtin.SmallTypes.ownedTupleIsFree
 refine zA (zA (zA1 gz rfl (x:=.none) rfl (zG ?_)))
 simp only[if_true]
 refine zA (wpAny_rule (zA (zA1 gz rfl (x:=.ref tO) rfl (zA (wpAny_setField_rec gz (by simp) fun h₁ z₁ e₁=>?_)))))
 replace z₁:IsZip h₁ zp tI tO .ellipsis:=z₁
 replace e₁:Heap.SameBut zp hp h₁:=e₁
 refine zA ?_
 simp only[List.zipIdx_cons,List.zipIdx_nil,List.forIn_cons,List.forIn_nil]
 have t1:St1 k h₁:=D1.frame k hp h₁ s1 fun b hb o e=>e₁.extBut _ _ (fun x=>Z.a1.1 (x ▸ hb)) e
 have t2:St2 k h₁:=D2.frame k hp h₁ s2 fun b hb o e=>e₁.extBut _ _ (fun x=>Z.a2.1 (x ▸ hb)) e
 refine zA (zA (wpAny_onRaise ?_))
 show wpAny _ _ (Builtin.SmallTypes.nextOf (.ref i1) >>= _) _ _ _
 refine zA (D1.item k _ _ _ l1 t1 fun x h₂ tk₂ p1 u1 e₂=>zG ?_)
 replace e₂:Heap.SameBut i1 h₁ h₂:=e₂
 have hO₂:IsPair h₂ tO a b:=e₂.extBut _ _ Z.O1 (e₁.extBut _ _ Z.zTO gO)
 refine zA (zA5 hO₂ rfl (zA (wpAny_updateSeq_pair hO₂ fun h₃ hO₃ e₃=>?_)))
 replace hO₃:IsPair h₃ tO x b:=hO₃
 replace e₃:Heap.SameBut tO h₂ h₃:=e₃
 refine zA (wpAny_letGo (zG ?_))
 have u1₃:St1 (k+1) h₃:=D1.frame _ h₂ h₃ u1 fun b hb o e=>e₃.extBut _ _ (fun x=>Z.a1.2.1 (x ▸ hb)) e
 have t2₃:St2 k h₃:=D2.frame k h₁ h₃ t2 fun b hb o e=>e₃.extBut _ _ (fun x=>Z.a2.2.1 (x ▸ hb)) (e₂.extBut _ _ (fun x=>Z.a2.2.2 (x ▸ hb)) e)
 refine zA (zA (wpAny_onRaise ?_))
 show wpAny _ _ (Builtin.SmallTypes.nextOf (.ref i2) >>= _) _ _ _
 refine zA (D2.item k _ _ _ l2 t2₃ fun y h₄ tk₄ p2 u2 e₄=>zG ?_)
 replace e₄:Heap.SameBut i2 h₃ h₄:=e₄
 have hO₄:IsPair h₄ tO x b:=e₄.extBut _ _ Z.O2 hO₃
 refine zA (zA5 hO₄ rfl (zA (wpAny_updateSeq_pair hO₄ fun h₅ hO₅ e₅=>?_)))
 replace hO₅:IsPair h₅ tO x y:=hO₅
 replace e₅:Heap.SameBut tO h₄ h₅:=e₅
 refine zA (wpAny_letGo (zG (zG (zA (zA5 hO₅ rfl (zA (wpAny_newTuple ?_)))))))
 have u1₅:St1 (k+1) h₅:=D1.frame _ h₃ h₅ u1₃ fun b hb o e=>e₅.extBut _ _ (fun x=>Z.a1.2.1 (x ▸ hb)) (e₄.extBut _ _ (fun x=>Z.a1.2.2 (x ▸ hb)) e)
 have u2₅:St2 (k+1) h₅:=D2.frame _ h₄ h₅ u2 fun b hb o e=>e₅.extBut _ _ (fun x=>Z.a2.2.1 (x ▸ hb)) e
 have sz:h₅.objs.size=hp.objs.size:=by rw[e₅.1,e₄.1,e₃.1,e₂.1,e₁.1]
 have z₅:IsZip h₅ zp tI tO .ellipsis:=e₅.extBut _ _ Z.zTO.symm (e₄.extBut _ _ Z.z2.symm (e₃.extBut _ _ Z.zTO.symm (e₂.extBut _ _ Z.z1.symm z₁)))
 have k₅:∀c o,c≠zp->c≠tO->c≠i1->c≠i2->hp.get? c=some o->h₅.get? c=some o:=fun c o c1 c2 c3 c4 e=>e₅.extBut _ _ c2 (e₄.extBut _ _ c4 (e₃.extBut _ _ c2 (e₂.extBut _ _ c3 (e₁.extBut _ _ c1 e))))
 have zlt:zp<h₅.objs.size:=zS z₅
 show wpAny _ _ (Builtin.SmallTypes.ownedTupleHandOut (.ref zp) (.ref h₅.objs.size) >>= _) _ _ _
 unfold Builtin.SmallTypes.ownedTupleHandOut
 have z₆:IsZip (h₅.push { cls:=.type "tuple",data:=.seq #[x,y] }) zp tI tO .ellipsis:=zJ _ z₅
 refine zA (zA (wpAny_setField_rec z₆ (by simp) fun h₇ z₇ e₇=>?_))
 replace z₇:IsZip h₇ zp tI tO (rawInt h₅.objs.size):=z₇
 refine wpAny_setField_rec z₇ (by simp) fun h₈ z₈ e₈=>?_
 replace z₈:IsZip h₈ zp tI tO (rawInt h₅.objs.size):=z₈
 have up:∀c o,c≠zp->h₅.get? c=some o->h₈.get? c=some o:=fun c o c1 e=>e₈.extBut _ _ c1 (e₇.extBut _ _ c1 (zJ _ e))
 have hT₈:IsPair h₈ h₅.objs.size x y:=e₈.extBut _ _ (zAH zlt) (e₇.extBut _ _ (zAH zlt) (zP _ rfl))
 have sz8:h₈.objs.size=h₅.objs.size+1:=by rw[e₈.1,e₇.1,zAj]
 rw[sz] at z₈ hT₈ sz8
 refine zG ⟨_,rfl,?_⟩
 show Q (.ref h₅.objs.size) _
 rw[sz]
 exact qd x y h₈ tk₄ p1 p2 z₈ (up _ _ Z.zTO hO₅) (D1.frame _ h₅ h₈ u1₅ fun b hb o e=>up b o (fun x=>Z.a1.1 (x ▸ hb)) e) (D2.frame _ h₅ h₈ u2₅ fun b hb o e=>up b o (fun x=>Z.a2.1 (x ▸ hb)) e) hT₈ sz8 fun c o c1 c2 c3 c4 e=>up c o c1 (k₅ c o c1 c2 c3 c4 e)
theorem zIj {zp tI tO i1 i2:Addr}{fp1 fp2:List Addr}{St:Heap->Prop}{a b:Value}{Q:Fin->Shared->Prop}(fr:∀h h',St h->(∀b∈fp1,∀o,h.get? b=some o->h'.get? b=some o)->St h')
 (dn:∀(s:Shared)(Q:Value->Shared->Prop)(E:Value->Shared->Prop),St s.heap->(∀h' e,Heap.ExtBut i1 s.heap h'->(∃o,h'.get? e=some o/\o.cls = .type "StopIteration")->E (.ref e) { s with heap:=h' })->wpAny (model prog w) A (Builtin.SmallTypes.nextOf (.ref i1)) Q E s) (Z:ZAp zp tI tO i1 i2 fp1 fp2)
 (gz:IsZip s.heap zp tI tO .none)(gI:IsPair s.heap tI (.ref i1) (.ref i2))(gO:IsPair s.heap tO a b)(s1:St s.heap)
 (qe:∀h' e,(∀c o,c≠zp->c≠i1->s.heap.get? c=some o->h'.get? c=some o)->(∃o,h'.get? e=some o/\o.cls = .type "StopIteration")->E (.ref e) { s with heap:=h' }) :
 wpAny (model prog w) A (Builtin.«zip.__next__» ⟨[.ref zp],[]⟩) Q E s:=by
 obtain⟨hp,g,d,tk₀,os⟩:=s
 show wpAny _ _ (field (.ref zp) 2 >>= _) _ _ _
 refine zA (zA1 gz rfl (x:=.bool false) rfl ?_)
 show wpAny _ _ (field (.ref zp) 3 >>= _) _ _ _
 refine zA (zA1 gz rfl (x:=.ref tI) rfl (zA (zA5 gI rfl ?_)))
 show wpAny _ _ (Builtin.SmallTypes.ownedTupleIsFree (.ref zp) >>= _) _ _ _
 unfold Builtin.SmallTypes.ownedTupleIsFree
 refine zA (zA (zA1 gz rfl (x:=.none) rfl (zG ?_)))
 simp only[if_true]
 refine zA (wpAny_rule (zA (zA1 gz rfl (x:=.ref tO) rfl (zA (wpAny_setField_rec gz (by simp) fun h₁ z₁ e₁=>?_)))))
 replace z₁:IsZip h₁ zp tI tO .ellipsis:=z₁
 replace e₁:Heap.SameBut zp hp h₁:=e₁
 refine zA ?_
 simp only[List.zipIdx_cons,List.zipIdx_nil,List.forIn_cons,List.forIn_nil]
 refine zA (zA (wpAny_onRaise ?_))
 show wpAny _ _ (Builtin.SmallTypes.nextOf (.ref i1) >>= _) _ _ _
 refine zA (dn _ _ _ (fr hp h₁ s1 fun b hb o e=>e₁.extBut _ _ (fun x=>Z.a1.1 (x ▸ hb)) e) fun h₂ e e₂ he=>?_)
 replace e₂:Heap.ExtBut i1 h₁ h₂:=e₂
 obtain⟨oe,hoe,hce⟩:=he
 have z₂:IsZip h₂ zp tI tO .ellipsis:=e₂ _ _ Z.z1.symm z₁
 have ne:e≠zp:=fun x=>by subst x;rw[z₂] at hoe;cases hoe;simp at hce
 exact wpAny_setField_rec z₂ (by simp) fun h₃ _ e₃=>qe h₃ e (fun c o c1 c3 x=>e₃.extBut _ _ c1 (e₂ _ _ c3 (e₁.extBut _ _ c1 x))) ⟨oe,e₃.extBut _ _ ne hoe,hce⟩
end
noncomputable abbrev zt1 (h:Heap)(l1:Addr):Heap:=h.push { cls:=.type "tuple_iterator",data:=.fields #[.ref l1,.int 0 0] }
noncomputable abbrev zt2 (h:Heap)(l1 l2:Addr):Heap:=(zt1 h l1).push { cls:=.type "tuple_iterator",data:=.fields #[.ref l2,.int 0 0] }
noncomputable abbrev zt3 (h:Heap)(l1 l2:Addr):Heap:=(zt2 h l1 l2).push { cls:=.type "tuple",data:=.seq #[.ref h.objs.size,.ref (zt1 h l1).objs.size] }
noncomputable abbrev zt4 (h:Heap)(l1 l2:Addr):Heap:=(zt3 h l1 l2).push { cls:=.type "tuple",data:=.seq #[.none,.none] }
noncomputable abbrev zt5 (h:Heap)(l1 l2:Addr):Heap:=(zt4 h l1 l2).push { cls:=.type "zip",data:=.fields #[.none,.bool false,.bool false,.ref (zt2 h l1 l2).objs.size,.ref (zt3 h l1 l2).objs.size] }
theorem zGn (l1 l2:Addr)(xs ys:Array Value):Meets (Builtin.«zip.__new__» ⟨[.type "zip",.ref l1,.ref l2],[]⟩) (fun _ R s=>s.heap.IsTuple l1 xs/\s.heap.IsTuple l2 ys/\R (.ok (.ret (.ref (zt4 s.heap l1 l2).objs.size))) { s with heap:=zt5 s.heap l1 l2 }):=by
 refine .of_wp fun prog w A R s hs=>?_
 obtain⟨hp,g,d,tk,os⟩:=s
 obtain⟨h1,h2,hR⟩:=hs
 have su:=sub_zip
 have t1:Heap.IsTuple (Shared.heap ⟨hp,g,d,tk,os⟩) l1 xs:=h1
 have t2:Heap.IsTuple (Shared.heap ⟨hp.push { cls:=.type "tuple_iterator",data:=.fields #[.ref l1,.int 0 0] },g,d,tk,os⟩) l2 ys:=by
  obtain⟨o,ho,r⟩:=h2
  exact⟨o,zJ _ ho,r⟩
 wp_walk using wpAny_pyIter_tuple t1,wpAny_pyIter_tuple t2
 exact⟨_,rfl,hR⟩
section
variable {prog:Program}{w:World}{A:Around}{E:Value->Shared->Prop}{s:Shared}
theorem zIS {l1 l2:Addr}{xs ys:Array Value}{Q:Value->Shared->Prop}(h1:s.heap.IsTuple l1 xs)(h2:s.heap.IsTuple l2 ys)
 (h:∀h',IsZip h' (s.heap.objs.size+4) (s.heap.objs.size+2) (s.heap.objs.size+3) .none->IsPair h' (s.heap.objs.size+2) (.ref s.heap.objs.size) (.ref (s.heap.objs.size+1))->IsPair h' (s.heap.objs.size+3) .none .none ->
  h'.IsTupleIter s.heap.objs.size l1 0->h'.IsTupleIter (s.heap.objs.size+1) l2 0->(∀c o,s.heap.get? c=some o->h'.get? c=some o)->Q (.ref (s.heap.objs.size+4)) { s with heap:=h' }) :
 wpAny (model prog w) A (call (.type "zip") [.ref l1,.ref l2]) Q E s:=by
 refine callType_new PySem.F.called_zip (by decide) (PySem.F.typeCall_zip_2 _ _) (PySem.F.newCall_zip_2 _ _) (fun obj=>PySem.F.args_object_init_3 obj _ _) PySem.F.entry_zip_new (zGn l1 l2 xs ys) ⟨h1,h2,?_⟩
 have z1:(zt1 s.heap l1).objs.size=s.heap.objs.size+1:=zAj ..
 have z2:(zt2 s.heap l1 l2).objs.size=s.heap.objs.size+2:=by rw[zAj,z1]
 have z3:(zt3 s.heap l1 l2).objs.size=s.heap.objs.size+3:=by rw[zAj,z2]
 have z4:(zt4 s.heap l1 l2).objs.size=s.heap.objs.size+4:=by rw[zAj,z3]
 have up:∀{h:Heap}{c:Addr}{o o':Obj},h.get? c=some o->(h.push o').get? c=some o:=fun e=>zJ _ e
 have g5:(zt5 s.heap l1 l2).get? (zt4 s.heap l1 l2).objs.size=some _:=zP _ rfl
 have g4:(zt5 s.heap l1 l2).get? (zt3 s.heap l1 l2).objs.size=some _:=up (zP _ rfl)
 have g3:(zt5 s.heap l1 l2).get? (zt2 s.heap l1 l2).objs.size=some _:=up (up (zP _ rfl))
 have g2:(zt5 s.heap l1 l2).get? (zt1 s.heap l1).objs.size=some _:=up (up (up (zP _ rfl)))
 have g1:(zt5 s.heap l1 l2).get? s.heap.objs.size=some _:=up (up (up (up (zP _ rfl))))
 show _/\_
 rw[z2,z3,z4] at g5
 rw[z1,z2] at g3
 rw[z3] at g4
 rw[z1] at g2
 rw[z4]
 exact⟨⟨_,g5,rfl⟩,h _ g5 g3 g4 ⟨_,g1,rfl,rfl⟩ ⟨_,g2,rfl,rfl⟩ fun c o x=>up (up (up (up (up x))))⟩
end
noncomputable def ItzT (K:PySem.W.Frag)(a b:Addr):It:=
 ⟨fun i H=>∃xs ys x y,SqT K H a xs/\SqT K H b ys/\xs[i]? = some x/\ys[i]? = some y,fun i H x H'=>∃T u v,x = .ref T/\H T=none/\H'=upd H T (.tup [u,v])/\(∀xs,SqT K H a xs->xs[i]? = some u)/\∀ys,SqT K H b ys->ys[i]? = some v,fun i H=>∃xs,SqT K H a xs/\xs.length<=i⟩
theorem zEV {zp tI tO i1 i2 a b:Addr}(h1:i1<i2)(h2:i2<tI)(h3:tI<tO)(h4:tO<zp)(ha:a<i1)(hb:b<i1):ZAp zp tI tO i1 i2 [i1,a] [i2,b]:=by
 have t1:=zAX h1 h2
 have t2:=zAX h2 h3
 have t3:=zAX h3 h4
 have t4:=zAX t1 h3
 have t5:=zAX t2 h4
 have t6:=zAX t4 h4
 have nm:∀{x y zp:Addr},x≠y->x≠zp->x∉[y,zp]:=fun p q h=>by
  rcases za.mp h with e | e
  . exact p e
  . exact q (zi.mp e)
 exact⟨zW t3,zW h4,zW t6,zW t5,zW h3,zAH t1,zAH h2,zAH t4,zAH t2,zW h1,
  ⟨nm (zAH t6) (zAH (zAX ha t6)),nm (zAH t4) (zAH (zAX ha t4)),nm (zAH h1) (zAH (zAX ha h1))⟩,
  ⟨nm (zAH t5) (zAH (zAX hb t6)),nm (zAH t2) (zAH (zAX hb t4)),nm (zW h1) (zAH hb)⟩⟩
theorem zG6 {P:Program}{w:World}{K:PySem.W.Frag}{elts:List Expr} {x1} {tp:Pos}(a b zp tI tO i1 i2:Addr)(o1:i1<i2)(o2:i2<tI)(o3:tI<tO)(o4:tO<zp)(oa:a<i1)(ob:b<i1) :
 Turn P w K (.Tuple elts x1 tp) (ItzT K a b) [zp,tI,tO,i1,i2] zp (fun i h=>IsZip h zp tI tO .none/\IsPair h tI (.ref i1) (.ref i2)/\(∃u v,IsPair h tO u v)/\h.IsTupleIter i1 a i/\h.IsTupleIter i2 b i) where
 mem:=by simp
 obj:=fun i h st c hc=>by
  obtain⟨gz,hI,⟨u,v,hO⟩,⟨p1,e1,c1,d1⟩,⟨p2,e2,c2,d2⟩⟩:=st
  simp only[za,List.not_mem_nil,or_false] at hc
  rcases hc with rfl | rfl | rfl | rfl | rfl
  . exact⟨_,gz,fun v zp=>by cases zp⟩
  . exact⟨_,hI,fun v zp=>by cases zp⟩
  . exact⟨_,hO,fun v zp=>by cases zp⟩
  . exact⟨p1,e1,fun v zp=>by rw[d1] at zp;cases zp⟩
  . exact⟨p2,e2,fun v zp=>by rw[d2] at zp;cases zp⟩
 keep:=fun i h h' st k=>by
  obtain⟨gz,hI,⟨u,v,hO⟩,⟨p1,e1,r1⟩,⟨p2,e2,r2⟩⟩:=st
  exact⟨k zp (by simp) _ gz,k tI (by simp) _ hI,⟨u,v,k tO (by simp) _ hO⟩,⟨p1,k i1 (by simp) _ e1,r1⟩,⟨p2,k i2 (by simp) _ e2,r2⟩⟩
 item:=by
  intro X hP hw hK hc i pins s σ H E I hf st hg
  subst hP hw hK
  obtain⟨gz,hI,⟨u0,v0,hO⟩,h1,h2⟩:=st
  obtain⟨xs,ys,x,y,hq1,hq2,hx,hy⟩:=hg
  obtain⟨its1,rv1,p1,hz1⟩:=I.tuple hq1
  obtain⟨its2,rv2,p2,hz2⟩:=I.tuple hq2
  obtain⟨u1,hu1,ru1⟩:=rv1.get hx
  obtain⟨u2,hu2,ru2⟩:=rv2.get hy
  have zlt:zp<s.heap.objs.size:=zS gz
  have Z:=zEV o1 o2 o3 o4 oa ob
  have lt1:i<its1.toArray.size:=by simpa using (zL.mp hu1).1
  have lt2:i<its2.toArray.size:=by simpa using (zL.mp hu2).1
  have hT:s.TypeIs (.ref zp) "zip" := ⟨_,gz,rfl⟩
  unfold pyNext
  refine zA (wpAny_attempt (zAb (name:=Str.ofString "__next__") hT PySem.F.slot_zip_next (zAl PySem.F.slot_zip_next hT PySem.F.entry_zip_next
   (zG3 (zFY (A:=X.A.in1) (I.ok.hd hc) i1 a (zW oa) its1.toArray) (zFY (A:=X.A.in1) (I.ok.hd hc) i2 b (zW (zAX ob o1)) its2.toArray) Z gz hI hO ⟨h1,p1⟩ ⟨h2,p2⟩ lt1 lt2 fun y1 y2 h' tk hy1 hy2 z' hO' s1' s2' hT' hsz hk=>zG ?_) (PySem.F.args_zip_next_1 _))))
  obtain rfl:y1=u1:=by
   have h1:its1[i]? = some y1:=by simpa using hy1
   rw[hu1] at h1;exact (zQ h1).symm
  obtain rfl:y2=u2:=by
   have h1:its2[i]? = some y2:=by simpa using hy2
   rw[hu2] at h1;exact (zQ h1).symm
  refine⟨_,rfl,wpAny_letOwnedTupleGo_zip z' fun h2' z2 e2=>?_⟩
  have hT2:IsPair h2' s.heap.objs.size y1 y2:=e2.extBut _ _ (zAH zlt) hT'
  have fpl:∀c∈[zp,tI,tO,i1,i2],c<s.heap.objs.size:=fun c hc=>by
   simp only[za,List.not_mem_nil,or_false] at hc
   have t1:=zAX o4 zlt
   have t2:=zAX o3 t1
   have t3:=zAX o2 t2
   rcases hc with rfl | rfl | rfl | rfl | rfl
   . exact zlt
   . exact t2
   . exact t1
   . exact zAX o1 t3
   . exact t3
  refine⟨.ref s.heap.objs.size,upd H s.heap.objs.size (.tup [x,y]),I.turnedLaid (t':=tk) (fp:=[zp,tI,tO,i1,i2]) hf (fun c o hb q=>?_) (zM _) ?_,rfl,⟨_,x,y,rfl,I.hok.fresh (zM _),rfl,fun zs hzs=>by rw[I.tuple_inj hzs hq1];exact hx,fun zs hzs=>by rw[I.tuple_inj hzs hq2];exact hy⟩,⟨z2,?_,⟨_,_,e2.extBut _ _ Z.zTO hO'⟩,?_,?_⟩,fun c hc=>?_⟩
  . exact e2.extBut _ _ (fun w=>hb (by simp[w])) (hk c o (fun w=>hb (by simp[w])) (fun w=>hb (by simp[w])) (fun w=>hb (by simp[w])) (fun w=>hb (by simp[w])) q)
  . exact⟨⟨by show 2<=sizeLine;decide,_,hT2,rfl⟩,[y1,y2],.cons ru1 (.cons ru2 .nil),⟨_,hT2,rfl,_,rfl⟩⟩
  . exact e2.extBut _ _ Z.zTI (hk _ _ Z.zTI Z.IO Z.I1 Z.I2 hI)
  . obtain⟨⟨o,ho,r⟩,_⟩:=s1'
    exact⟨o,e2.extBut _ _ Z.z1 ho,r⟩
  . obtain⟨⟨o,ho,r⟩,_⟩:=s2'
    exact⟨o,e2.extBut _ _ Z.z2 ho,r⟩
  . rw[zV (zW (fpl c hc))];exact (hf _ hc).1
 done:=by
  intro X hP hw hK hc i pins s σ H E I hf st hg
  subst hP hw hK
  obtain⟨gz,hI,⟨u0,v0,hO⟩,h1,h2⟩:=st
  obtain⟨xs,hq,hx⟩:=hg
  obtain⟨its,rv,p,_⟩:=I.tuple hq
  have hl:=rv.length
  have Z:=zEV o1 o2 o3 o4 oa ob
  have hT:s.TypeIs (.ref zp) "zip" := ⟨_,gz,rfl⟩
  have f1:=hf zp (by simp)
  have f2:=hf i1 (by simp)
  unfold pyNext
  refine zA (wpAny_attempt (zAb (name:=Str.ofString "__next__") hT PySem.F.slot_zip_next (zAl PySem.F.slot_zip_next hT PySem.F.entry_zip_next
   (zIj (A:=X.A.in1) (St:=fun h=>h.IsTupleIter i1 a i/\h.IsTuple a its.toArray) (fun h h' st k=>by
    obtain⟨⟨o,ho,r⟩,o2,ho2,r2⟩:=st
    exact⟨⟨o,k i1 (by simp) o ho,r⟩,o2,k a (by simp) o2 ho2,r2⟩) (fun s Q E st qe=>zFU (I.ok.hd hc) st.1 st.2 (by simp;omega) qe) Z gz hI hO ⟨h1,p⟩ fun h' e hk he=>?_) (PySem.F.args_zip_next_1 _))))
  obtain⟨o,ho,hcl⟩:=he
  refine zA (wpAny_isInstance (T := "StopIteration") (b:=true) ⟨o,ho,hcl⟩ isSubtype_stop (zG ?_))
  exact⟨rfl,I.turnedFp (t':=s.toks) (fp:=[zp,tI,tO,i1,i2]) hf fun c u hb q=>hk c u (fun w=>hb (by simp[w])) (fun w=>hb (by simp[w])) q⟩
 self:=fun _ _ _ _ _ st h=>wpAny_pyIter_zip st.1 h
section
variable {X:Cx}
noncomputable def iZipT (K:PySem.W.Frag)(ta:TA):TI:=fun σ H R=>ta σ H fun vs H1=>∃a b,vs=[.ref a,.ref b]/\(∃xs,SqT K H1 a xs)/\(∃ys,SqT K H1 b ys)/\R (ItzT K a b) H1
theorem zK2 {elts:List Expr} {x1} {tp:Pos}{a b:Expr}{ta:TA}{p pos:Pos}(hg:Gl X "zip") (hm:X.mg "zip" = none) (ha:PA X [a,b] ta)(hs:starEach [a,b] X.env=(false,eval a X.env)::starEach [b] X.env:=by rfl)(hs2:(backTo pos (starEach [b] X.env)).any (·.1)=false:=by rfl):PI X (.Tuple elts x1 tp) (.Call (.Name "zip" p) [a,b] [] pos) (iZipT X.K ta):=by
 intro pins s σ H R I h
 refine Call_ (zCU I hg hm (by decide +kernel) (PyProof.Rows.callWith_type1 (T := "zip") (thn (ha pos pins s σ H _ I h) fun us s1 ⟨vs,H1,I1,r1,q1⟩=>?_) hs hs2))
 obtain⟨l1,l2,e,⟨xs,hq1⟩,⟨ys,hq2⟩,q⟩:=q1
 subst e
 obtain⟨u1,u2,rfl,rx1,rx2⟩:=zE0 r1
 cases rx1
 cases rx2
 obtain⟨its1,_,p1,_⟩:=I1.tuple hq1
 obtain⟨its2,_,p2,_⟩:=I1.tuple hq2
 have ll1:l1<s1.heap.objs.size:=by obtain⟨o,ho,_⟩:=id p1;exact zS ho
 have ll2:l2<s1.heap.objs.size:=by obtain⟨o,ho,_⟩:=id p2;exact zS ho
 refine zIS p1 p2 fun h' hz hI hO h1 h2 hk=>?_
 refine wpAny_pyIter_zip hz ?_
 refine⟨s1.heap.objs.size+4,[s1.heap.objs.size+4,s1.heap.objs.size+2,s1.heap.objs.size+3,s1.heap.objs.size,s1.heap.objs.size+1],_,_,H1,rfl,I1.kept (t':=s1.toks) hk,
  zG6 l1 l2 _ _ _ _ _ (zBG _) (zBG _) (zBG _) (zBG _) ll1 ll2,⟨hz,hI,⟨_,_,hO⟩,h1,h2⟩,fun b hb=>?_,q⟩
 have hle:s1.heap.objs.size<=b:=by
  simp only[za,List.not_mem_nil,or_false] at hb
  rcases hb with rfl | rfl | rfl | rfl | rfl
  . exact Nat.le_add_right _ _
  . exact Nat.le_add_right _ _
  . exact Nat.le_add_right _ _
  . exact zM _
  . exact Nat.le_add_right _ _
 exact I1.fpOk hle (I1.hok.fresh hle)
end
end L2
namespace L2
open PySem PySem.Spec PyProof.Rows
noncomputable def CXO (P:Program)(w:World):CXT:=fun outer H s E e s'=>
 ∃(ea t:Addr)(C:Value)(H':Hp)(B:Heap),e = .ref ea/\s'.os=s.os/\AllBare s'.gens/\Un (frs outer) [] H H' s.heap s'.heap/\HOk P w H' s'.heap /\
  Heap.FlyingW B outer ea C (.ref t) s'.heap/\(∀b u,H' b=some u->∃o,B.get? b=some o)/\(∀b o,s.heap.get? b=some o->H b=none->b∉frs outer->B.get? b=some o)/\(∀b o,s.heap.get? b=some o->b∉frs outer->∃o',B.get? b=some o')/\E C none H'
theorem zBA.there {P:Program}{w:World}{H:Hp}{h:Heap}{a:Addr}{o:HO}(x:zBA P w H h a o):∃ob,h.get? a=some ob:=by
 cases o with
 | lst xs=>obtain⟨_,_,_,_,e⟩:=x;exact⟨_,e⟩
 | tup xs=>obtain⟨⟨_,o2,e2,_⟩,_⟩:=x;exact⟨_,e2⟩
 | dK kvs=>obtain⟨_,_,_,_,o,_,_,e,_⟩:=x;exact⟨_,e⟩
 | dT kvs=>obtain⟨_,_,_,_,o,_,_,e,_⟩:=x;exact⟨_,e⟩
 | set S n=>obtain⟨o,_,_,_,e,_⟩:=x;exact⟨_,e⟩
 | ins C dx fs=>obtain⟨_,_,_,e,_⟩:=x;exact⟨_,e⟩
 | own y=>obtain⟨_,e⟩:=x;exact⟨_,e⟩
 | xd fs=>obtain⟨_,⟨_,_,_,e,_⟩,_⟩:=x;exact⟨_,e⟩
 | rng lo hi=>obtain⟨_,_,_,e⟩:=x;exact⟨_,e⟩
 | frz ob u=>obtain⟨e,_⟩:=x;exact⟨_,e⟩
 | tbl ps=>exact⟨_,show h.get? a=some _ from x⟩
 | met f y=>exact⟨_,show h.get? a=some _ from x⟩
 | ext φ=>obtain⟨_,⟨_,e⟩,_⟩:=x;exact⟨_,e⟩
theorem HOk.stays {P:Program}{w:World}{H:Hp}{h h' B:Heap}(x:HOk P w H h)(k:B.StaysIn h)(k':B.StaysIn h')(tr:∀b u,H b=some u->∃o,B.get? b=some o):HOk P w H h':=fun a o e=>
 (x a o e).stay (fun b u hb q=>by
  have:∃v,H b=some v:=by
   rcases hb with rfl | hb
   . exact⟨_,e⟩
   . exact⟨_,hb⟩
  obtain⟨v,hv⟩:=this
  obtain⟨o',ho'⟩:=tr b v hv
  have e2:o'=u:=zQ ((k b o' ho').symm.trans q)
  exact e2 ▸ k' b o' ho') (fun _ q=>q) fun _ _ q=>q
section
variable {P:Program}{w:World}{K:PySem.W.Frag}{mg:Str->Option Value}{base:Heap}{N:List Str}{qual:Str}{scope:Scope}{f:Addr}{cd:Value}{A:Around}{outer:List Env}{s0 s:Shared}{H0 H:Hp}{E:XK}{pins:List (Addr×Obj)}{σ:St}
theorem zCH {h':Heap}{ea:Addr}{C:Value}{vs:List Value}(I:Inv (zGa (CXO P w) P w K mg base N qual scope f cd A outer s0 H0 E) pins σ H s)(hx:Heap.MadeExcOf s.heap h' ea C vs)(hE:E C none H) :
 (zGa (CXO P w) P w K mg base N qual scope f cd A outer s0 H0 E).xe (.ref ea) { s with heap:=h' }:=by
 have hfr:frs (zGa (CXO P w) P w K mg base N qual scope f cd A outer s0 H0 E).stack=(envOfC qual scope s0.heap.objs.size f cd::outer).filterMap (·.frame):=rfl
 have hin:∀env∈(envOfC qual scope s0.heap.objs.size f cd::outer),∀a,env.frame=some a->a∈(envOfC qual scope s0.heap.objs.size f cd::outer).filterMap (·.frame):=fun env he b hb=>List.mem_filterMap.mpr ⟨env,he,hb⟩
 refine wpAny_leaves_madeW (base:=PySem.W.hideAll s.heap ((envOfC qual scope s0.heap.objs.size f cd::outer).filterMap (·.frame))) I.ok.frames rfl (fun b o q=>PySem.W.of_hideAll _ q) (PySem.W.funFrames_hide I.stack hin) hx fun h'' t fl _ _ up=>?_
 have st:(PySem.W.hideAll s.heap ((envOfC qual scope s0.heap.objs.size f cd::outer).filterMap (·.frame))).StaysIn h'':=fl.1
 have old:∀b o,s0.heap.get? b=some o->H0 b=none->b∉frs outer->(PySem.W.hideAll s.heap ((envOfC qual scope s0.heap.objs.size f cd::outer).filterMap (·.frame))).get? b=some o:=fun b o e n hb=>by
  refine PySem.W.hideAll_get _ (I.base.keep b o e n hb (by intro z;cases z)) fun z=>?_
  rcases za.mp (I.stkSub b z) with q | q
  . exact absurd (zS e) (by rw[q];exact Nat.not_lt_of_le (zM _))
  . exact hb q
 have al:∀b o,s0.heap.get? b=some o->b∉frs outer->∃o',(PySem.W.hideAll s.heap ((envOfC qual scope s0.heap.objs.size f cd::outer).filterMap (·.frame))).get? b=some o':=fun b o e hb=>by
  obtain⟨o1,e1⟩:=I.base.there b o e (by intro z;cases z)
  refine⟨o1,PySem.W.hideAll_get _ e1 fun z=>?_⟩
  rcases za.mp (I.stkSub b z) with q | q
  . exact absurd (zS e) (by rw[q];exact Nat.not_lt_of_le (zM _))
  . exact hb q
 have tr:∀b u,H b=some u->∃o,(PySem.W.hideAll s.heap ((envOfC qual scope s0.heap.objs.size f cd::outer).filterMap (·.frame))).get? b=some o:=fun b u e=>by
  obtain⟨o,ho⟩:=(I.hok b u e).there
  refine⟨o,PySem.W.hideAll_get _ ho fun z=>?_⟩
  have:=I.stkFree b z
  rw[e] at this
  cases this
 refine⟨ea,t,C,H,_,rfl,I.os,I.bare,⟨fun b o e n hb hx'=>st b o (old b o e n hb),fun b o e n hb hx'=>?_,I.base.free,fun b o e hx'=>?_,I.base.tups,I.base.frzs,I.base.tbls⟩,I.hok.stays (fun b o q=>PySem.W.of_hideAll _ q) st tr,fl,tr,old,al,hE⟩
 . obtain⟨sl,e1⟩:=I.base.slot b o e n hb (by intro z;cases z)
   obtain⟨_,o2,e2,nd⟩:=I.stack.mem (show b∈(envOfC qual scope s0.heap.objs.size f cd::outer).filterMap (·.frame) from zf _ hb)
   have e3:o2={ o with slots:=sl }:=zQ (e2.symm.trans e1)
   obtain⟨sl2,e4⟩:=up b _ (hx.keeps b _ e1) (fun vs=>by rw[<-e3];exact nd vs)
   exact⟨sl2,e4⟩
 . obtain⟨o1,e1⟩:=I.base.there b o e (by intro z;cases z)
   by_cases hb:b∈(envOfC qual scope s0.heap.objs.size f cd::outer).filterMap (·.frame)
   . obtain⟨_,o2,e2,nd⟩:=I.stack.mem hb
     obtain⟨sl2,e4⟩:=up b _ (hx.keeps b _ e2) nd
     exact⟨_,e4⟩
   . exact⟨_,st b _ (PySem.W.hideAll_get _ e1 hb)⟩
theorem zHb {E1:XK}{e:Value}{s':Shared}(I:Inv (zGa (CXO P w) P w K mg base N qual scope f cd A outer s0 H0 E) pins σ H s)(h:CXO P w (envOfC qual scope s0.heap.objs.size f cd::outer) H s E1 e s')
 (imp:∀C d H',E1 C d H'->E C d H'):(zGa (CXO P w) P w K mg base N qual scope f cd A outer s0 H0 E).xe e s':=by
 obtain⟨ea,t,C,H',B,rfl,os,bare,un,hok,fl,tr,old,al,hE⟩:=h
 refine wpAny_leaves_onW I.ok.frames rfl fl fun h'' fl2 up=>?_
 have st:B.StaysIn h'':=fl2.1
 have nl:∀b o,s0.heap.get? b=some o->H0 b=none->b∉frs outer->B.get? b=some o:=fun b o e n hb=>by
  refine old b o (I.base.keep b o e n hb (by intro z;cases z)) (I.base.free b o e n (by intro z;cases z)) fun z=>?_
  rcases za.mp (I.stkSub b z) with q | q
  . exact absurd (zS e) (by rw[q];exact Nat.not_lt_of_le (zM _))
  . exact hb q
 have na:∀b o,s0.heap.get? b=some o->b∉frs outer->∃o',B.get? b=some o':=fun b o e hb=>by
  obtain⟨o1,e1⟩:=I.base.there b o e (by intro z;cases z)
  refine al b o1 e1 fun z=>?_
  rcases za.mp (I.stkSub b z) with q | q
  . exact absurd (zS e) (by rw[q];exact Nat.not_lt_of_le (zM _))
  . exact hb q
 refine⟨ea,t,C,H',B,rfl,os.trans I.os,bare,⟨fun b o e n hb _=>st b o (nl b o e n hb),fun b o e n hb _=>?_,fun b o e n _=>?_,fun b o e _=>?_,fun b xs e=>un.tups _ _ (I.base.tups _ _ e),fun b o u e=>un.frzs _ _ _ (I.base.frzs _ _ _ e),fun b ps e=>?_⟩,hok.stays fl.1 st tr,fl2,tr,nl,na,imp _ _ _ hE⟩
 . obtain⟨sl,e1⟩:=I.base.slot b o e n hb (by intro z;cases z)
   have n1:=I.base.free b o e n (by intro z;cases z)
   obtain⟨sl2,e2⟩:=un.slot b _ e1 n1 (zf _ hb) (by intro z;cases z)
   obtain⟨_,o3,e3,nd⟩:=fl.2.2.1.mem (show b∈(envOfC qual scope s0.heap.objs.size f cd::outer).filterMap (·.frame) from zf _ hb)
   obtain⟨sl4,e4⟩:=up b _ e3 nd
   have e5:=zQ (e3.symm.trans e2)
   rw[e5] at e4
   exact⟨sl4,e4⟩
 . exact un.free b _ (I.base.there b o e (by intro z;cases z)).choose_spec (I.base.free b o e n (by intro z;cases z)) (by intro z;cases z)
 . obtain⟨o1,e1⟩:=I.base.there b o e (by intro z;cases z)
   by_cases hb:b∈(envOfC qual scope s0.heap.objs.size f cd::outer).filterMap (·.frame)
   . obtain⟨_,o3,e3,nd⟩:=fl.2.2.1.mem hb
     obtain⟨sl4,e4⟩:=up b _ e3 nd
     exact⟨_,e4⟩
   . obtain⟨o3,e3⟩:=al b o1 e1 hb
     exact⟨_,st b o3 e3⟩
 . obtain⟨m1,e1⟩:=I.base.tbls _ _ e
   obtain⟨m2,e2⟩:=un.tbls _ _ e1
   exact⟨m1++m2,by rw[e2,Array.append_assoc]⟩
end
noncomputable abbrev bmV:List Value:=[.type "ValueError",.type "Exception",.type "BaseException",.type "object"]
theorem zF5 {K:PySem.W.Frag}{h:Heap}{C:Addr}{bmB:List Value}{newId:String}(X:K.In h)(q:PySem.W.excIn K C bmB newId=true) :
 ∃bm N nm qn bs hdct sn sub ab col dd k0 k1 k2 k3 k5 mN,h.get? C=some (excClassObj nm qn C N bs bm hdct sn sub ab col dd k0 k1 k2 k3 k5 newId)/\h.Ns N mN/\mN "__init__" = none/\OwnTail h bmB bm:=by
 unfold PySem.W.excIn at q
 split at q
 . next dd cd sl look=>
   split at q
   . next D bm k0 k1 k2 k3 n k5 em es=>
     simp only[zBH,beq_iff_eq,Bool.not_eq_true'] at q
     obtain⟨⟨⟨⟨⟨q1,q2⟩,q3⟩,q4⟩,q5⟩,q6⟩:=q
     subst q1 q2
     cases cd
     simp only at em q3 q5 q6
     subst em q3
     cases sl
     simp only at es
     subst es
     exact⟨_,_,_,_,_,_,_,_,_,_,_,_,_,_,_,_,_,X _ _ look,.of_isNs (PySem.W.isNs_of_in X q5),PySem.W.nsMap_none_of_in X q5 q6,PySem.W.tail_of_in X q4⟩
   . cases q
 . cases q
noncomputable def tRaise (C:Addr)(t:TA)(E:XK):TS:=fun _ σ H=>t σ H fun _ H1=>E (.ref C) none H1
theorem zCe {X:Cx}{x:Str}{C:Addr}{e:Expr}{t:TA}{E:XK}{np cpos pos:Pos}(hg:Gl X x)(hm:X.mg x=some (.ref C))(q:PySem.W.excIn X.K C bmV "ValueError.__new__" = true) (hc:X.calm=true)(ha:PA X [e] t)
 (hxe:∀(pins:List (Addr×Obj))(σ:St)(H:Hp)(s:Shared)(h':Heap)(ea:Addr)(vs:List Value),Inv X pins σ H s->Heap.MadeExcOf s.heap h' ea (.ref C) vs->E (.ref C) none H->X.xe (.ref ea) { s with heap:=h' })
 (hs:starEach [e] X.env=[(false,eval e X.env)]:=by rfl)(hd:(x==("__debug__" : Str))=false:=by decide) (hl:∀ σ H Q,t σ H Q->t σ H fun vs H1=>vs.length<=1/\Q vs H1) :
 PS X (.Raise (some (.Call (.Name x np) [e] [] cpos)) none pos) (tRaise C t E):=by
 intro pins s σ H D I h
 obtain⟨bm,Nn,nm,qn,bs,hdct,sn,sub,ab,col,dd,k0,k1,k2,k3,k5,mN,hC,hN,hni,T⟩:=zF5 I.mod.kin q
 refine wpAny_Raise_call_subT (C:=C) (nm:=nm) (q:=qn) (N:=Nn) (bs:=bs) (bm:=bm) (hdct:=hdct) (sn:=sn) (sub:=sub) (ab:=ab) (col:=col) (dd:=dd) (k0:=k0) (k1:=k1) (k2:=k2) (k3:=k3) (k5:=k5)
  PySem.F.excBase_ValueError (mN:=mN) (T.hasType (by rfl)) (I.ok.hd hc) (by rw[hs];rfl) hni (zCY I hg hm ⟨rfl,?_⟩ hd)
 have ha':=ha cpos pins s σ H _ I (hl σ H _ h)
 rw[hs] at ha' ⊢
 refine Calls.evalArgs_plain (thn ha' fun us s2 ⟨vs,H2,I2,r2,z2,q2⟩=>?_)
 exact⟨rfl,by rw[<-r2.length];have:sizeLine=16777216:=rfl;show vs.length<=_;omega,I2.bk _ _ hC,hN.keeps I2.bk,T.keeps I2.bk,fun h' ea mx=>hxe pins σ H2 s2 h' ea us I2 mx q2⟩
theorem Fun.okX {P:Program}{w:World}{K:PySem.W.Frag}{mg:Str->Option Value}{base:Heap}{x qual:Str}{st:Stmt}{f:Addr}{fd:FuncData}{N ps:List Str}{k:Nat}{sp:Sp}(F:Fun K x qual st f fd)(S:zAA N ps (defScope st))(len:∀vs H Q E,sp vs H Q E->vs.length=ps.length)
 (hbody:∀(cdv:Value)(A:Around)(outer:List Env)(s:Shared)(H:Hp)(vs:List V)(Q:VK)(E:XK),zCF k (A.deeper (envOfC qual (defScope st) s.heap.objs.size f cdv))->sp vs H Q E ->
  ∃t,PSs (zGa (CXO P w) P w K mg base N qual (defScope st) f cdv A outer s H E) (defBody st) t/\t { nx:=fun _ H'=>Q .non H',rt:=Q } (start N vs) H):zy P w K mg base (CXO P w) (k+1) f fd ps sp:=by
 obtain⟨oc,od,kV,doc,pm,an,cdv,ct,osl,rfl,lk,hcd⟩:=F.ex
 exact zLl lk hcd S len fun A outer s H vs Q E hr hsp=>hbody cdv A outer s H vs Q E hr hsp
end L2
namespace L2
open PySem PySem.Spec PyProof.Rows
section
variable {X:Cx}{pins:List (Addr×Obj)}{σ:St}{H:Hp}{s:Shared}
theorem zG4 {M:Model}{A:Around}{E:Value->Shared->Prop}{i:Nat}{x:Str}{v:V}{Q:Unit->Shared->Prop}(I:Inv X pins σ H s)(hN:X.N.Nodup)(hi:X.N[i]? = some x)(hk:X.env.kindOf x=some .local)(hv:σ[i]? = some (some v))
 (h:∀s',Inv X pins (σ.set i none) H s'->Q () s'):wpAny M A (unbindName X.env x) Q E s:=by
 obtain⟨m,hn,hl⟩:=id I.loc
 have hcls:(X.env.scope.kind == .class || (X.env.scope.kind == .module && X.env.locals != X.env.globals))=false:=by rw[I.ok.kind];rfl
 have hk':X.env.scope.names.lookup x=some .local:=hk
 obtain⟨u,_,lk⟩:=hl i x v hi hv (.inl hk')
 have hm:m x=some u:=by
  rcases lk with ⟨_,e⟩ | ⟨q,_⟩
  . exact e
  . rcases q with q | q <;> (rw[hk] at q;cases q)
 obtain⟨oL,_,_,hoL,_⟩:=id hn
 have neL:∀b o,X.s₀.heap.get? b=some o->b≠X.env.locals:=fun b o e=>zW (zk (zS e) I.ok.above)
 refine wpAny_unbindName_local hk hn hm hcls fun h' uu hn' hs=>h _ ⟨I.ok,I.os,I.bare,⟨fun b o e n hb hx=>(hs.2 b (neL b o e)).trans (I.base.keep b o e n hb hx),fun b o e n hb hx=>?_,I.base.free,fun b o e hx=>?_,I.base.tups,I.base.frzs,I.base.tbls⟩,⟨_,hn',fun j y v' e1 e2 e3=>?_⟩,fun y c e=>?_,I.free,I.freeC,fun p hp=>?_,fun b ob e=>?_,by simpa using I.len⟩
 . obtain⟨sl,e1⟩:=I.base.slot b o e n hb hx
   exact⟨sl,(hs.2 b (neL b o e)).trans e1⟩
 . obtain⟨o',e1⟩:=I.base.there b o e hx
   exact⟨o',(hs.2 b (neL b o e)).trans e1⟩
 . have hj:j≠i:=fun z=>by
    subst z
    have:j<σ.length:=(zL.mp hv).1
    rw[List.getElem?_set_self this] at e2
    cases e2
   rw[List.getElem?_set_ne (Ne.symm hj)] at e2
   obtain⟨u',r',q⟩:=hl j y v' e1 e2 e3
   refine⟨u',r',?_⟩
   rcases q with ⟨k,e⟩ | ⟨k,c,e,z⟩
   . have ny:y≠x:=fun e=>hj (zEk hN e1 (e ▸ hi))
     exact .inl ⟨k,by simp[ny,e]⟩
   . exact .inr ⟨k,c,e,z.sameBut hs (I.cne y c e)⟩
 . obtain⟨w',z⟩:=I.cell y c e
   exact⟨w',z.sameBut hs (I.cne y c e)⟩
 . obtain⟨e,n,ne,nf,d⟩:=I.pin p hp
   exact⟨(hs.2 p.1 ne).trans e,n,ne,nf,d⟩
 . refine (I.hok b ob e).stay (fun c w' hc q=>(hs.2 c ?_).trans q) (fun _ q=>q) fun _ _ q=>q
   rintro rfl
   rcases hc with rfl | hc
   . rw[I.free] at e;cases e
   . rw[I.free] at hc;cases hc
end
theorem zGo {M:Model}{A:Around}{E:Value->Shared->Prop}{s:Shared}{nm qn nm' qn':Str}{C W Nn Nn':Addr}{bs bm bs' bm':List Value}{hdct hdct':Bool}{sn sn':List Str}{sub sub':List Value}{ab ab':Bool}{col col':Option Bool}{dd dd':Option Addr}
 {k0 k1 k2 k3 k5 k0' k1' k2' k3' k5':Option Value}{newId newId':String}{e:Addr}{oe:Obj}{Q:Bool->Shared->Prop}
 (hC:s.heap.get? C=some (excClassObj nm qn C Nn bs bm hdct sn sub ab col dd k0 k1 k2 k3 k5 newId))(hW:s.heap.get? W=some (excClassObj nm' qn' W Nn' bs' bm' hdct' sn' sub' ab' col' dd' k0' k1' k2' k3' k5' newId'))
 (he:s.heap.get? e=some oe)(hcls:oe.cls = .ref C)(hb:bm'.contains (.type "BaseException")=true) (hs:(Value.ref C::bm).contains (.ref W)=true)(hq:Q true s):wpAny M A (excMatches (.ref e) (.ref W)) Q E s:=by
 obtain⟨h,g,d,t,os⟩:=s
 have hWB:(Value.ref W::bm').contains (.type "BaseException")=true:=by rw[List.contains_cons,hb,Bool.or_true]
 have f:=tc_notTuple
 unfold excMatches
 repeat (first | (with_reducible refine wpAny_loadPart_at he ?_;rw[hcls]) | with_reducible refine wpAny_loadPart_at hW ?_ | (with_reducible refine wpAny_isSubtype_exc hW ?_;rw[hWB]) | (with_reducible refine wpAny_isSubtype_exc hC ?_;rw[hs]) | wp_step)
 exact hq
end L2
namespace L2
open PySem PySem.Spec PyProof.Rows
noncomputable def subIn (K:PySem.W.Frag)(C W:Addr):Bool:=match K.lookup C with
 | some ⟨_,_,.cls cd,_⟩=>cd.mro.contains (.ref W)
 | _=>false
theorem sub_of {K:PySem.W.Frag}{h:Heap}{C W:Addr}{nm qn:Str}{Nn:Addr}{bs bm:List Value}{hdct:Bool}{sn:List Str}{sub:List Value}{ab:Bool}{col:Option Bool}{dd:Option Addr}{k0 k1 k2 k3 k5:Option Value}{newId:String}
 (X:K.In h)(q:subIn K C W=true)(hC:h.get? C=some (excClassObj nm qn C Nn bs bm hdct sn sub ab col dd k0 k1 k2 k3 k5 newId)):(Value.ref C::bm).contains (.ref W)=true:=by
 unfold subIn at q
 split at q
 . next look=>
   have e:=(X _ _ look).symm.trans hC
   unfold excClassObj at e
   cases e
   exact q
 . cases q
noncomputable def Cx.held (X:Cx)(ea:Addr)(oe:Obj):Cx:={ X with A:=X.A.mark (some (.ref ea)),calm:=false,pn:=(ea,oe)::X.pn,xe:=fun _ _=>False }
section
variable {X:Cx}{pins:List (Addr×Obj)}{σ:St}{H:Hp}{s:Shared}{ea:Addr}{oe:Obj}
theorem Inv.hold (I:Inv X pins σ H s)(h1:s.heap.get? ea=some oe)(h2:H ea=none)(h3:ea≠X.env.locals)(h4:ea∉X.fs)(h5:∀v,oe.data ≠ .cell v):Inv (X.held ea oe) pins σ H s:=
 ⟨⟨I.ok.mod,I.ok.kind,I.ok.glob,I.ok.blt,I.ok.above,I.ok.inj,I.ok.has,I.ok.cab,(fun z=>by cases z),I.ok.frames,I.ok.stk,I.ok.exf,I.ok.bs,I.ok.bsz,I.ok.noex,I.ok.exfs,I.ok.funs,I.ok.frf⟩,I.os,I.bare,I.base,I.loc,I.cell,I.free,I.freeC,
  fun p hp=>by
   rcases za.mp (show p∈(ea,oe)::(X.pn++pins) from hp) with rfl | hp
   . exact⟨h1,h2,h3,h4,h5⟩
   . exact I.pin p hp,I.hok,I.len⟩
theorem Inv.letgo (ok:X.Ok)(I:Inv (X.held ea oe) pins σ H s):Inv X pins σ H s:=
 ⟨ok,I.os,I.bare,I.base,I.loc,I.cell,I.free,I.freeC,fun p hp=>I.pin p (zf _ hp),I.hok,I.len⟩
end
theorem zHy {st:List Env}{H1 H':Hp}{s1 s':Shared}{ea:Addr}{C a0:Value}{B h5:Heap}(un:Un (frs st) [] H1 H' s1.heap s'.heap)(fl:Heap.FlyingW B st ea C a0 s'.heap)
 (old:∀b o,s1.heap.get? b=some o->H1 b=none->b∉frs st->B.get? b=some o)(al:∀b o,s1.heap.get? b=some o->b∉frs st->∃o',B.get? b=some o')(st5:B.StaysIn h5)(up:s'.heap.UpToSlots h5):Un (frs st) [] H1 H' s1.heap h5:=by
 refine⟨fun b o e n hb _=>st5 b o (old b o e n hb),fun b o e n hb _=>?_,un.free,fun b o e _=>?_,un.tups,un.frzs,un.tbls⟩
 . obtain⟨sl2,e2⟩:=un.slot b o e n hb (by intro z;cases z)
   obtain⟨_,o3,e3,nd⟩:=fl.2.2.1.mem hb
   obtain⟨sl4,e4⟩:=up b _ e3 nd
   have e5:=zQ (e3.symm.trans e2)
   rw[e5] at e4
   exact⟨sl4,e4⟩
 . by_cases hb:b∈frs st
   . obtain⟨_,o3,e3,nd⟩:=fl.2.2.1.mem hb
     obtain⟨sl4,e4⟩:=up b _ e3 nd
     exact⟨_,e4⟩
   . obtain⟨o3,e3⟩:=al b o e hb
     exact⟨_,st5 b o3 e3⟩
noncomputable def endsH (i:Nat)(D:zEy):zEy:={ D with nx:=fun σ H=>D.nx (σ.set i none) H,bk:=fun σ H=>D.bk (σ.set i none) H,ct:=fun σ H=>D.ct (σ.set i none) H }
noncomputable def EH (K:PySem.W.Frag)(W:Addr)(ts:Addr->Obj->Addr->TS)(i:Nat)(D:zEy)(σ:St):XK:=fun C _ H'=>∃Ca,C = .ref Ca/\PySem.W.excIn K Ca bmV "ValueError.__new__" = true/\subIn K Ca W=true/\∀ea oe,oe.cls = .ref Ca->H' ea=none->ts ea oe Ca (endsH i D) (σ.set i (some (.ref ea))) H'
noncomputable def tTry (K:PySem.W.Frag)(W:Addr)(tb:XK->TS)(ts:Addr->Obj->Addr->TS)(i:Nat):TS:=fun D σ H=>tb (EH K W ts i D σ) D σ H
noncomputable def PX (X:Cx)(body:List Stmt)(tb:XK->TS):Prop:=∀(pins:List (Addr×Obj))(s:Shared)(σ:St)(H:Hp)(D:zEy)(E1:XK),Inv X pins σ H s->tb E1 D σ H ->
 wpAny (model X.prog X.w) X.A (execs body X.env) (SP X pins D) (fun e s'=>∃H1 s1,Inv X pins σ H1 s1/\CXO X.prog X.w X.stack H1 s1 E1 e s') s
theorem zJ3 {X:Cx}{body:List Stmt}{n x:Str}{i:Nat}{b0:Stmt}{suite:List Stmt}{pos hpos np:Pos}{W:Addr}{tb:XK->TS}{ts:Addr->Obj->Addr->TS}(hN:X.N.Nodup)(hi:X.N[i]? = some n)(hk:X.env.kindOf n=some .local)
 (hst:X.stack=X.env::X.outer)(hfl:X.env.frame=some X.env.locals)(hex:X.ex=[])(hg:Gl X x)(hm:X.mg x=some (.ref W))(qW:PySem.W.excIn X.K W bmV "ValueError.__new__" = true)
 (hb:PX X body tb)(hs:∀(ea:Addr)(oe:Obj)(C:Addr),oe.cls = .ref C->PSs (X.held ea oe) (b0::suite) (ts ea oe C))(hd:(x==("__debug__" : Str))=false:=by decide) :
 PS X (.Try body [.ExceptHandler (some (.Name x np)) (some n) (b0::suite) hpos] [] [] pos) (tTry X.K W tb ts i):=by
 intro pins s σ H D I h
 refine wpAny_Try_except (zAg (hb pins s σ H D _ I h) (fun fl s' hq=>?_) fun e s' hq=>?_)
 . cases fl with
   | next=>exact wpAny_execs_nil hq
   | brk=>exact hq
   | cont=>exact hq
   | ret u=>exact hq
 . obtain⟨H1,s1,I1,ea,t,C,H',B,rfl,os,bare,un,hok,fl,tr,old,al,Ca,rfl,qC,sub,hts⟩:=hq
   have hfr:X.A.frames=some (X.env::X.outer):=by rw[<-hst];exact I.ok.frames
   have fl':=fl
   rw[hst] at fl'
   have hHe:H' ea=none:=by
    cases z:H' ea with
    | none=>rfl
    | some u=>
     obtain⟨o,ho⟩:=tr ea u z
     rw[fl.2.1] at ho;cases ho
   refine wpAny_looks_onW hfr hfl fl' fun h4 held up4=>?_
   refine wpAny_landsW held fun h5 fl5 up5=>?_
   have key:∀(h6:Heap),Heap.FlyingW B (X.env::X.outer) ea (.ref Ca) (.ref t) h6->s'.heap.UpToSlots h6->∃oe,h6.get? ea=some oe/\oe.cls = .ref Ca/\Inv (X.held ea oe) pins σ H' { s' with heap:=h6 }:=fun h6 fl6 up6=>by
    obtain⟨oe,ws,hoe,hc,hdt,_⟩:=fl6.first
    have un6:Un (frs X.stack) [] H1 H' s1.heap h6:=zHy un fl old al fl6.1 up6
    have I6:Inv X pins σ H' { s' with heap:=h6 }:=I1.call' (s':={ s' with heap:=h6 }) os un6 (hok.stays fl.1 fl6.1 tr) bare (fun b z=>absurd z (by simp))
    have nfr:ea∉frs X.stack:=fun z=>by
     rw[hst] at z
     obtain⟨_,o,ho,nd⟩:=fl6.2.2.1.mem z
     rw[hoe] at ho
     cases ho
     exact nd ws hdt
    have hfs:frs X.stack=X.env.locals::X.fs:=by
     rw[hst]
     unfold frs
     rw[List.filterMap_cons,hfl]
     rfl
    rw[hfs] at nfr
    exact⟨oe,hoe,hc,I6.hold hoe hHe (fun z=>nfr (z ▸ ze)) (fun z=>nfr (zf _ z)) (fun v z=>by rw[hdt] at z;cases z)⟩
   obtain⟨oe5,hoe5,hc5,I5⟩:=key h5 fl5 (up4.trans up5)
   refine wpAny_handleBy_cons (codeAny_handlers_test (zCY (X:=X.held ea oe5) I5 hg hm ?_ hd)) (by intro q;cases q)
   obtain⟨bm,Nn,nm,qn,bs,hdct,sn,sb,ab,col,dd,k0,k1,k2,k3,k5,mN,hC,_,_,_⟩:=zF5 I5.kIn qC
   obtain⟨bm',Nn',nm',qn',bs',hdct',sn',sb',ab',col',dd',k0',k1',k2',k3',k5',mN',hW,_,_,TW⟩:=zF5 I5.kIn qW
   refine zGo hC hW hoe5 hc5 (TW.hasType (by rfl)) (sub_of I5.kIn sub hC) ?_
   refine codeAny_handlers_suite_as (lands_againW fl5 fun h6 fl6 up6=>?_)
   obtain⟨oe6,hoe6,hc6,I6⟩:=key h6 fl6 ((up4.trans up5).trans up6)
   refine zCb (X:=X.held ea oe6) I6 hN hi (.inl hk) (v:=.ref ea) rfl (fun s7 I7=>?_) (.inr hk)
   refine zAg (hs ea oe6 Ca hc6 pins s7 _ H' (endsH i D) I7 (hts ea oe6 hc6 hHe)) (fun f s8 hq=>?_) fun _ _ z=>z.elim
   have fin:∀{σ':St}{H2:Hp}{Q:Unit->Shared->Prop},Inv (X.held ea oe6) pins σ' H2 s8->(∀s9,Inv X pins (σ'.set i none) H2 s9->Q () s9)->wpAny (model X.prog X.w) X.A (do bindName X.env n .none;unbindBehindTheSuite X.env n hpos) Q X.xe s8:=fun {σ' H2 Q} J hQ=>by
    have J1:=Inv.letgo I.ok J
    have hiσ:i<σ'.length:=by rw[J1.len];exact (zL.mp hi).1
    refine zA (wpAny_bindName (zCb J1 hN hi (.inl hk) (v:=.non) rfl (fun s9 J2=>?_) (.inr hk)))
    unfold unbindBehindTheSuite
    refine wpAny_onRaise (zG4 J2 hN hi hk (v:=.non) (List.getElem?_set_self hiσ) fun s10 J3=>?_)
    rw[List.set_set] at J3
    exact hQ s10 J3
   cases f with
   | next=>
    obtain⟨σ',H2,J,q⟩:=hq
    exact fin J fun s9 J9=>⟨_,H2,J9,q⟩
   | brk=>
    obtain⟨σ',H2,J,q⟩:=hq
    exact fin J fun s9 J9=>⟨_,H2,J9,q⟩
   | cont=>
    obtain⟨σ',H2,J,q⟩:=hq
    exact fin J fun s9 J9=>⟨_,H2,J9,q⟩
   | ret u=>
    obtain⟨v,σ',H2,J,r,q⟩:=hq
    exact fin J fun s9 J9=>⟨v,_,H2,J9,r,q⟩
end L2
namespace L2
open PySem PySem.Spec PySem.W PyProof.Rows Builtin Builtin.ObjectAttr Builtin.Getset_descriptor
section
variable {prog:Program}{w:World}{A:Around}{E:Value->Shared->Prop}{s:Shared}{K:Frag}{x C:Addr}{ox:Obj}
structure zD8 (K:Frag)(C:Addr):Prop where
 ga:findIn K (.ref C) "__getattribute__" = some (some (.builtin "BaseException.__getattribute__"))
 gn:findIn K (.ref C) "__getattr__" = some none
 cl:findIn K (.ref C) "__class__" = some (some (.builtin "object.__class__"))
 mo:mroIn K C (.type "object")=some true
 mb:mroIn K C (.type "BaseException")=some true
 ci:(clsIn K C).isSome=true
noncomputable def zD7 (h:Heap)(x C:Addr):Prop:=∃o,h.get? x=some o/\o.cls = .ref C
theorem zD7.type {M:Model}{h:Heap}{x C:Addr}(I:zD7 h x C):Looks M h (typeOf (.ref x)) (.ref C):=by
 obtain⟨o,e,c⟩:=I
 rw[<-c]
 exact (Looks.ld e).andThen .now
theorem zJW {tp:Value}{R:Result->Shared->Prop}(X:K.In s.heap)(I:zD7 s.heap x C)(hm:mroIn K C (.type "object")=some true) (h:R (.ok (.ret (.ref C))) s) :
 codeAny (model prog w) A (.call (.builtin "getset_descriptor.__get__") ⟨[.builtin "object.__class__",.ref x,tp],[]⟩) R s:=by
 obtain⟨h0,g0,d0,t0,o0⟩:=s
 have T0:=I.type (M:=model prog w)
 have T1:=looks_mroIn (M:=model prog w) X hm
 refine codeAny_call_builtin KF.slot_gs.plain KF.entry_gs (KF.slot_gs.check _ _ _ _ _ _ _ _ KF.type_class (KF.args_gs _ _ _) ?_)
 unfold Builtin.«getset_descriptor.__get__» descrGet;rw[dga_obj]
 apply zA;apply zG
 unfold descrGetter descrCheckInstance descrNameAndClass isInstance;simp only[KF.owner_class]
 repeat lk
 refine⟨Code.quiet_builtin _ (by decide +kernel),codeAny_builtin KF.entry_class (?_:wpAny _ _ _ _ _ _)⟩
 unfold Builtin.«object.__class__»;unfold shownTypeOf
 repeat lk
 exact h
theorem zIF {tk:Tok}{Q:PySem.Fin->Shared->Prop}(X:K.In s.heap)(I:zD7 s.heap x C)(F':zD8 K C)(hq:Q (.done (.ret (.ref C))) s) :
 wpAny (model prog w) A (Builtin.«object.__getattribute__» ⟨[.ref x,.str "__class__" tk],[]⟩) Q E s:=by
 obtain⟨h,g,d,t,os⟩:=s
 have L0:=I.type (M:=model prog w)
 have L1:=looks_findIn (M:=model prog w) X F'.cl
 have hT5:(⟨h,g,d,t,os⟩:Shared).TypeIs (.builtin "object.__class__") "getset_descriptor" := F.typeOf_object_class
 have f5:=F.typeOf_object_class
 have f6:=F.slot_gs_get.lookup
 have f7:=F.slot_gs_set.lookup
 repeat (any_goals (first | assumption | with_reducible refine L0.at ?_ | with_reducible refine L1.at ?_ | wp_step))
 refine zJW (s:=⟨h,g,d,t,os⟩) X I F'.mo ?_
 repeat (any_goals (first | assumption | wp_step))
theorem zIG {M:Model}{nameV:Value}{Q:Unit->Shared->Prop}(X:K.In s.heap)(I:zD7 s.heap x C)(F':zD8 K C)(hq:Q () s):wpAny M A (checkBuiltinCall "BaseException.__getattribute__" ⟨[.ref x,nameV],[]⟩) Q E s:=by
 obtain⟨h,g,d,t,os⟩:=s
 have L0:=I.type (M:=M)
 have L1:=looks_mroIn (M:=M) X F'.mb
 have e1:builtinKind "BaseException.__getattribute__" = some .slot:=by decide +kernel
 have e2:splitId "BaseException.__getattribute__" = some ("BaseException", "__getattribute__"):=by decide +kernel
 have ha:=F.args_bexc_ga (.ref x) nameV
 simp only[checkBuiltinCall,e1,e2]
 refine zA ?_
 unfold isInstance
 repeat (any_goals (first | assumption | with_reducible refine L0.at ?_ | with_reducible refine L1.at ?_ | wp_step))
theorem zJX {tk:Tok}{R:Result->Shared->Prop}(X:K.In s.heap)(I:zD7 s.heap x C)(F':zD8 K C)(hq:R (.ok (.ret (.ref C))) s) :
 codeAny (model prog w) A (.call (.builtin "BaseException.__getattribute__") ⟨[.ref x,.str "__class__" tk],[]⟩) R s:=
 codeAny_call_builtin F.attrBase_ValueError.ga.plain F.entry_bexc_ga (zIG X I F' (zIF X I F' hq))
theorem exc_by {tk:Tok}{fill:Bool}{Q:Value->Shared->Prop}(X:K.In s.heap)(I:zD7 s.heap x C)(F':zD8 K C)(hq:Q (.ref C) s):wpAny (model prog w) A (getAttrBy (.ref x) (.str "__class__" tk) fill) Q E s:=by
 obtain⟨h,g,d,t,os⟩:=s
 have L0:=I.type (M:=model prog w)
 have L1:=looks_findIn (M:=model prog w) X F'.ga
 have L2:=looks_findIn (M:=model prog w) X F'.gn
 have f3:=F.attrBase_ValueError.ga.bind (.ref x)
 have hx2:(Value.builtin "BaseException.__getattribute__" == Value.builtin "object.__getattribute__")=false:=by decide +kernel
 have hx1:(onTheHeap (Value.ref C) && Value.builtin "BaseException.__getattribute__" == Value.builtin "object.__getattribute__")=false:=by rw[hx2];rfl
 repeat (any_goals (first | assumption | with_reducible refine L0.at ?_ | with_reducible refine L1.at ?_ | with_reducible refine L2.at ?_ | wp_step))
 refine zJX (s:=⟨h,g,d,t,os⟩) X I F' ?_
 repeat (any_goals (first | assumption | wp_step))
theorem zJY {Q:Option Value->Shared->Prop}(X:K.In s.heap)(I:zD7 s.heap x C)(F':zD8 K C)(hq:Q (some (.ref C)) { s with toks:=s.toks+1 }):wpAny (model prog w) A (getAttr? (.ref x) "__class__") Q E s:=by
 obtain⟨h,g,d,t,os⟩:=s
 unfold getAttr? getAttrBy?
 repeat (any_goals (first | assumption | with_reducible apply exc_by (s:=⟨h,g,d,t+1,os⟩) X I F' | wp_step))
theorem zEp (F':zD8 K C):KitX K (.ref x) (.ref C) (fun h=>zD7 h x C) where
 ty:=fun _ _ _ I=>I.type
 it:=fun _ _ X _=>by
  obtain⟨cdD,hcD⟩:=zBD.mp F'.ci
  unfold clsIn at hcD
  split at hcD
  . next ho=>
    intro A' Q' E' s' k q
    unfold isType loadHead
    exact zA (wpAny_loadPart (k _ _ (X _ _ ho)) (zG q))
  . cases hcD
 ne:=fun h tp dd its n sl X htp=>by
  obtain⟨cdD,hcD⟩:=zBD.mp F'.ci
  refine Bool.eq_false_iff.mpr fun q=>?_
  have e:C=tp:=Value.ref.inj (beq_iff_eq.mp q)
  subst e
  unfold clsIn at hcD
  split at hcD
  . next ho=>
    have z:=(X _ _ ho).symm.trans htp
    cases z
  . cases hcD
 ca:=fun X I k=>zJY X I F' k
end
structure zFj (X:Cx)(ea C:Addr):Prop where
 pin:∃oe,(ea,oe)∈X.pn/\oe.cls = .ref C
section
variable {X:Cx}
theorem zDj {pins:List (Addr×Obj)}{σ:St}{H:Hp}{s:Shared}{ea C:Addr}(h:zFj X ea C)(I:Inv X pins σ H s):zD7 s.heap ea C:=by
 obtain⟨oe,hp,hc⟩:=h.pin
 obtain⟨e,_⟩:=I.pin (ea,oe) (zBa _ hp)
 exact⟨oe,e,hc⟩
theorem zDH {ea C:Addr}(hh:zFj X ea C):zB6 X (.builtin "isinstance") (fun xs H Q=>∃W b,zD8 X.K C/\xs=[.ref ea,.ref W]/\PySem.W.kitOne X.K (.ref C) (.ref W)=some b/\Q (.bl b) H):=by
 intro pins s σ H xs us Q I r h
 obtain⟨W,b,F',rfl,e,q⟩:=h
 obtain⟨u,w',rfl,rx,rT⟩:=zE0 r
 cases (show u=Value.ref ea from rx)
 cases (show w'=Value.ref W from rT)
 have J:=zDj hh I
 exact PySem.W.kia_one (zEp F') I.kIn J e (fun z=>nomatch z) fun tk=>⟨.bl b,H,I.tok tk,rfl,q⟩
theorem zCv {ea C:Addr}(hh:zFj X ea C):zB6 X (.builtin "isinstance") (fun xs H Q=>∃T b,zD8 X.K C/\xs=[.ref ea,.ty T]/\PySem.W.kitOne X.K (.ref C) (.type T)=some b/\Q (.bl b) H):=by
 intro pins s σ H xs us Q I r h
 obtain⟨T,b,F',rfl,e,q⟩:=h
 obtain⟨u,w',rfl,rx,rT⟩:=zE0 r
 cases (show u=Value.ref ea from rx)
 cases (show w'=Value.type T from rT)
 have J:=zDj hh I
 exact PySem.W.kia_one (zEp F') I.kIn J e (fun z=>nomatch z) fun tk=>⟨.bl b,H,I.tok tk,rfl,q⟩
theorem zCu {ea C:Addr}(hh:zFj X ea C):zB6 X (.builtin "isinstance") (fun xs H Q=>∃(tp:Addr)(Ws:List Addr)(b:Bool),zD8 X.K C/\xs=[.ref ea,.ref tp]/\H tp=some (.tup (Ws.map V.ref))/\PySem.W.kitAny X.K (.ref C) (Ws.map Value.ref)=some b/\Q (.bl b) H):=by
 intro pins s σ H xs us Q I r h
 obtain⟨tp,Ws,b,F',rfl,ht,e,q⟩:=h
 obtain⟨u,w',rfl,rx,rT⟩:=zE0 r
 cases (show u=Value.ref ea from rx)
 cases (show w'=Value.ref tp from rT)
 have J:=zDj hh I
 obtain⟨⟨z,o2,e2,d2⟩,its,rv,ob,e3,c3,n3,s3⟩:=(show zBA X.prog X.w H s.heap tp (.tup (Ws.map V.ref)) from I.hok tp _ ht)
 have hits:its=Ws.map Value.ref:=by
  have:∀(Ws:List Addr)(its:List Value),zA2 (Ws.map V.ref) its->its=Ws.map Value.ref:=by
   intro Ws
   induction Ws with
   | nil=>intro its h;cases h;rfl
   | cons a r ih=>
    intro its h
    cases h with
    | cons h1 h2=>rw[ih _ h2,show _=Value.ref a from h1];rfl
  exact this Ws its rv
 obtain⟨c',d',da',sl'⟩:=ob
 simp only at c3 s3
 subst c3 s3 hits
 exact PySem.W.kia_tup (zEp F') I.kIn J e3 e (fun z=>nomatch z) fun tk=>⟨.bl b,H,I.tok tk,rfl,q⟩
theorem zC5 {X:Cx}{ea C:Addr}{oe:Obj}(h:oe.cls = .ref C):zFj (X.held ea oe) ea C:=⟨⟨oe,ze,h⟩⟩
variable {k:Nat}{f:Addr}{fd:FuncData}{ps:List Str}{sp:Sp}{x:Str}{p pos epos:Pos}{e:Expr}{es:List Expr}{t:TA}
theorem call_x {pins:List (Addr×Obj)}{s:Shared}{σ:St}{H:Hp}{Q:VK}{E1:XK}(F:zy X.prog X.w X.K X.mg X.base (CXO X.prog X.w) k f fd ps sp)(hr:zCF k X.A)(hg:Gl X x)(hm:X.mg x=some (.ref f))(hk:PySem.W.keepIn X.K (.ref f)=true)(hb:zt X.K fd ps [])
 (ha:PA X.nox (e::es) t)(I:Inv X pins σ H s)(h:t σ H fun vs H1=>sp vs H1 Q E1)(hdb:(x==("__debug__" : Str))=false:=by decide) (he:starEach (e::es) X.env=(false,eval e X.env)::starEach es X.env:=by rfl)(hpl:(backTo pos (starEach es X.env)).any (·.1)=false:=by rfl) :
 wpAny (model X.prog X.w) X.A (eval (.Call (.Name x p) (e::es) [] pos) X.env) (EP X pins σ Q) (fun e s'=>∃H1 s1,Inv X pins σ H1 s1/\CXO X.prog X.w X.stack H1 s1 E1 e s') s:=by
 refine zAv (zCY I hg hm ?_ hdb)
 refine PySem.W.callWith_K (h₀:=X.base) I.ok.mod.kin hk (zAg (ha pos pins s σ H _ (I.wish _) h) (fun us s1 ⟨vs,H1,I1,r,q⟩=>⟨I1.unwish.kIn,?_⟩) fun _ _ z=>False.elim z) he hpl
 have I2:=I1.unwish
 have hl:us.length=ps.length:=by rw[<-r.length];exact F.len _ _ _ _ q
 refine wpAny_call (codeAny_mono (F.run X.A X.stack s1 H1 ⟨us,[]⟩ us vs Q E1 hr I2.env0 (by have:=hb s1 us I2.kIn (by rw[zr];exact hl);rw[zr] at this;exact this) r q) fun r s' hq=>?_)
 cases r with
 | error e=>exact⟨H1,s1,I2,hq⟩
 | ok fl=>
  cases fl with
  | ret u=>exact I2.after hq
  | next=>exact False.elim hq
  | brk=>exact False.elim hq
  | cont=>exact False.elim hq
theorem zKz (F:zy X.prog X.w X.K X.mg X.base (CXO X.prog X.w) k f fd ps sp)(hr:zCF k X.A)(hg:Gl X x)(hm:X.mg x=some (.ref f))(hk:PySem.W.keepIn X.K (.ref f)=true)(hb:zt X.K fd ps [])
 (ha:PA X.nox (e::es) t)(hs:swapsWith (.Call (.Name x p) (e::es) [] pos) none epos.line X.env=pure false:=by rfl)(hdb:(x==("__debug__" : Str))=false:=by decide) (he:starEach (e::es) X.env=(false,eval e X.env)::starEach es X.env:=by rfl)(hpl:(backTo pos (starEach es X.env)).any (·.1)=false:=by rfl) :
 PX X [.Expr (.Call (.Name x p) (e::es) [] pos) epos] (fun E1 D σ H=>t σ H fun vs H1=>sp vs H1 (fun _ H2=>D.nx σ H2) E1):=by
 intro pins s σ H D E1 I h
 refine wpAny_execs_cons (wpAny_Expr_any (zAg (call_x F hr hg hm hk hb ha I h hdb he hpl) (fun v s1 ⟨y,H1,I1,r1,q1⟩=>?_) fun _ _ z=>z) I.quiet hs)
 exact wpAny_execs_nil ⟨σ,H1,I1,q1⟩
end
end L2
namespace L2
open PySem PySem.Spec PyProof.Rows
section
variable {X:Cx}{e:Expr}{te:TE}{pos p2:Pos}
end
end L2
namespace L2
open PySem PySem.Spec PyProof.Rows
theorem zIH (a b:Option Int):eqV (oV a) (oV b)=decide (a=b):=by
 cases a with
 | none=>cases b with
  | none=>rfl
  | some b=>rfl
 | some a=>cases b with
  | none=>rfl
  | some b=>
   show (a==b)=_
   by_cases h:a=b
   . subst h;simp
   . rw[zb (by simpa using h)];simpa using h
theorem zKG (a:Option Int):zD3 (oV a)=true:=by cases a <;> rfl
theorem zJH {xs ys:List (Option Int)}:((List.range (min xs.length ys.length)).all (fun j=>decide (xs.getD j none=ys.getD j none)) && xs.length==ys.length)=decide (xs=ys):=by
 by_cases h:xs=ys
 . subst h;simp
 . rw[zb h]
   by_cases hl:xs.length=ys.length
   . have:∃j,j<xs.length/\xs.getD j none≠ys.getD j none:=by
      apply zAQ
      intro hn
      refine h (List.ext_getElem hl fun j h1 h2=>?_)
      apply zAQ
      intro hne
      exact hn ⟨j,h1,by simpa [zE,h1,h2] using hne⟩
     obtain⟨j,hj,hne⟩:=this
     rw[Bool.and_eq_false_iff]
     left
     rw[List.all_eq_false]
     exact⟨j,by rw[zAu];omega,by simpa using hne⟩
   . simp[hl]
theorem eqAtsO {A:Around}{s:Shared}{us ws:List Value}{xs ys:List (Option Int)}(h1:zA2 (xs.map oV) us)(h2:zA2 (ys.map oV) ws)(j:Nat)(a:j<us.toArray.size)(b:j<ws.toArray.size):SeqAt.EqAt A s us.toArray[j] ws.toArray[j] (decide (xs.getD j none=ys.getD j none)):=by
 have l1:=h1.length
 have l2:=h2.length
 rw[zD] at l1 l2
 rw[zI] at a b
 have jx:j<xs.length:=by omega
 have jy:j<ys.length:=by omega
 obtain⟨u,hu,ru⟩:=h1.get (i:=j) (x:=oV xs[j]) (by simp[jx])
 obtain⟨w,hw,rw'⟩:=h2.get (i:=j) (x:=oV ys[j]) (by simp[jy])
 have e1:us.toArray[j]'(by rw[zI];exact a)=u:=by
  rw[zC a] at hu
  simpa using zQ hu
 have e2:ws.toArray[j]'(by rw[zI];exact b)=w:=by
  rw[zC b] at hw
  simpa using zQ hw
 have e3:xs.getD j none=xs[j]:=by rw[zE,zC jx];rfl
 have e4:ys.getD j none=ys[j]:=by rw[zE,zC jy];rfl
 rw[e1,e2,e3,e4,<-zIH]
 exact zKI ru rw' (zKG _) (zKG _)
theorem zIq {M N:List (List (Option Int))}(h:M.length=N.length):(List.range M.length).all (fun j=>decide (M.getD j []=N.getD j []))=decide (M=N):=by
 by_cases c:M=N
 . subst c
   rw[zZ rfl]
   exact zBl.mpr fun j _=>zZ rfl
 . rw[zb c]
   have:∃j,j<M.length/\M.getD j []≠N.getD j []:=by
    apply zAQ
    intro hn
    refine c (List.ext_getElem h fun j h1 h2=>?_)
    apply zAQ
    intro hne
    exact hn ⟨j,h1,by simpa [zE,h1,h2] using hne⟩
   obtain⟨j,hj,hne⟩:=this
   rw[List.all_eq_false]
   exact⟨j,zAu.mpr hj,by simpa using hne⟩
section
variable {X:Cx}
end
end L2
namespace L2
open PySem PySem.Spec PyProof.Rows
noncomputable def TabT (K:PySem.W.Frag)(H:Hp)(a:Addr)(M:List (List (Option Int))):Prop:=∃rs:List Addr,SqT K H a (rs.map V.ref)/\rs.length=M.length/\∀(i:Nat)(r:Addr)(row:List (Option Int)),rs[i]? = some r->M[i]? = some row->H r=some (.tup (row.map oV))
theorem zI5 {M N:List (List (Option Int))}:((List.range (min M.length N.length)).all (fun j=>decide (M.getD j []=N.getD j [])) && M.length==N.length)=decide (M=N):=by
 by_cases h:M.length=N.length
 . rw[h,Nat.min_self,<-h,zIq h,h];simp
 . rw[zb fun z=>h (congrArg List.length z),show (M.length==N.length)=false from beq_eq_false_iff_ne.mpr h,Bool.and_false]
theorem zJ9:∀(xs ys:List (Option Int)),xs.map oV=ys.map oV->xs=ys
 | [],[],_=>rfl
 | [],_::_,h=>by cases h
 | _::_,[],h=>by cases h
 | x::xs,y::ys,h=>by
  rw[zv,zv] at h
  injection h with h1 h2
  have z:=zIH x y
  rw[<-h1,zIH x x,zZ rfl] at z
  rw[of_decide_eq_true z.symm,zJ9 xs ys h2]
section
variable {X:Cx}
theorem zK7 (hu:X.A.units+1<cLine):OpR X (compareOp .NotEq) (fun x y H Q=>∃(a b:Addr)(M N:List (List (Option Int))),x = .ref a/\y = .ref b/\TabT X.K H a M/\TabT X.K H b N/\Q (.bl (!decide (M=N))) H):=by
 intro pins s σ H x y v u Q I rx ry h
 obtain⟨a,b,M,N,rfl,rfl,⟨rs,ha,hl1,h1⟩,⟨ts,hb,hl2,h2⟩,q⟩:=h
 cases rx
 cases ry
 obtain⟨its,r,pl,hz⟩:=I.tuple ha
 obtain⟨its2,r2,pl2,hz2⟩:=I.tuple hb
 have l1:=r.length
 have l2:=r2.length
 rw[zD] at l1 l2
 refine PySem.EqBoolInt.of_rcne (SeqAt.RcNeAt.tuples (e:=fun j=>decide (M.getD j []=N.getD j [])) pl pl2 (by omega) (fun j ja jb=>?_)) ⟨.bl _,H,I,rfl,?_⟩
 . rw[zI] at ja jb
   have jx:j<rs.length:=by omega
   have jy:j<ts.length:=by omega
   have jM:j<M.length:=by omega
   have jN:j<N.length:=by omega
   obtain⟨w1,hw1,rw1⟩:=r.get (i:=j) (x:=.ref rs[j]) (by simp[jx])
   obtain⟨w2,hw2,rw2⟩:=r2.get (i:=j) (x:=.ref ts[j]) (by simp[jy])
   cases (show w1=Value.ref rs[j] from rw1)
   cases (show w2=Value.ref ts[j] from rw2)
   have g1:its.toArray[j]'(by rw[zI];exact ja) = .ref rs[j]:=by
    rw[zC ja] at hw1
    simpa using zQ hw1
   have g2:its2.toArray[j]'(by rw[zI];exact jb) = .ref ts[j]:=by
    rw[zC jb] at hw2
    simpa using zQ hw2
   have k1:=h1 j rs[j] M[j] (zC jx) (zC jM)
   have k2:=h2 j ts[j] N[j] (zC jy) (zC jN)
   have d1:M.getD j []=M[j]:=by rw[zE,zC jM];rfl
   have d2:N.getD j []=N[j]:=by rw[zE,zC jN];rfl
   rw[g1,g2,d1,d2]
   by_cases c:rs[j]=ts[j]
   . rw[c] at k1 ⊢
     rw[k1] at k2
     injection k2 with z
     injection z with z
     rw[zJ9 _ _ z,zZ rfl]
     exact SeqAt.EqAt.same _
   . obtain⟨us,rv1,t1,_⟩:=I.tuple (SqT.of (K:=X.K) k1)
     obtain⟨ws,rv2,t2,_⟩:=I.tuple (SqT.of (K:=X.K) k2)
     have n1:=rv1.length
     have n2:=rv2.length
     rw[zD] at n1 n2
     have h:=SeqAt.RcAt.tuples (A:=X.A.in1) (e:=fun i=>decide (M[j].getD i none=N[j].getD i none)) t1 t2 (show X.A.units+1<cLine from hu) (fun i a b=>eqAtsO rv1 rv2 i a b)
     rw[zI,zI,<-n1,<-n2,zJH] at h
     exact SeqAt.EqAt.of_refs c h
 . rw[zI,zI,show its.length=M.length by omega,show its2.length=N.length by omega,zI5]
   exact q
theorem zJI {pl:List (Addr×Obj)}{N':List Str}{sc:Scope}{fp:List Addr}{s3:Shared}{H3:Hp}(hu:X.A.units+1<cLine):OpR (zA6 X pl N' sc fp s3 H3) (compareOp .NotEq) (fun x y H Q=>∃(a b:Addr)(M N:List (List (Option Int))),x = .ref a/\y = .ref b/\TabT X.K H a M/\TabT X.K H b N/\Q (.bl (!decide (M=N))) H):=zK7 (X:=zA6 X pl N' sc fp s3 H3) hu
theorem zGQ {pl:List (Addr×Obj)}{N':List Str}{sc:Scope}{fp:List Addr}{s3:Shared}{H3:Hp}(hu:X.A.units<cLine):OpR (zA6 X pl N' sc fp s3 H3) (compareOp .NotEq) (rNeT X.K):=zK9 (X:=zA6 X pl N' sc fp s3 H3) hu
theorem zK5 {pl:List (Addr×Obj)}{N':List Str}{sc:Scope}{fp:List Addr}{s3:Shared}{H3:Hp}{e:Expr}{f:Str}{pos:Pos}{ta:TE}(he:PE (zA6 X pl N' sc fp s3 H3) e ta)(hb:attributeBase e f (zA6 X pl N' sc fp s3 H3).env (eval e (zA6 X pl N' sc fp s3 H3).env)=eval e (zA6 X pl N' sc fp s3 H3).env):PE (zA6 X pl N' sc fp s3 H3) (.Attribute e f pos) (tFld X.K ta f):=zCg he hb
end
end L2
namespace L2
open PySem PySem.Spec PyProof.Rows
section
variable {X:Cx}
noncomputable def zKv (K:PySem.W.Frag):R2:=fun x y H Q=>∃(a p:Addr)(xs:List Int)(ys:List V)(ks:List (List Int)),x = .ref a/\y = .ref p/\H a=some (.tup (xs.map V.int))/\SqL K H p ys/\zw H ys ks/\Q (.bl (!decide (xs∈ks))) H
theorem zIn:∀(xs ys:List Int),xs.map V.int=ys.map V.int->xs=ys
 | [],[],_=>rfl
 | [],_::_,h=>by cases h
 | _::_,[],h=>by cases h
 | x::xs,y::ys,h=>by
  rw[zv,zv] at h
  injection h with h1 h2
  injection h1 with h1
  rw[h1,zIn xs ys h2]
theorem zHh (hu:X.A.units+1<cLine):OpR X (compareOp .NotIn) (zKv X.K):=by
 intro pins s σ H x y v u Q I rx ry h
 obtain⟨a,p,xs,ys,ks,rfl,rfl,ha,hp,T,q⟩:=h
 cases rx
 cases ry
 obtain⟨its,r,pl,hz⟩:=I.list hp
 have dec:∀w:Value,Decidable (∃b,w=Value.ref b/\H b=some (.tup (xs.map V.int))):=fun _=>Classical.propDecidable _
 have e:∀w,w∈its->∃(b:Addr)(k:List Int),w = .ref b/\H b=some (.tup (k.map V.int))/\k∈ks:=fun w hw=>by
  obtain⟨i,hi,ew⟩:=zAT hw
  have hiy:i<ys.length:=by rw[r.length];exact hi
  obtain⟨b,k,e1,e2,e3,_⟩:=T.get (zC hiy)
  obtain⟨w1,hw1,rw1⟩:=r.get (i:=i) (x:=ys[i]) (zC hiy)
  rw[zC hi,ew] at hw1
  rw[e1] at rw1
  cases hw1
  exact⟨b,k,rw1,e3,zl e2⟩
 refine SeqAt.notIn_listAt (fun w=>@decide _ (dec w)) pl.isList (fun w hw=>?_) ⟨.bl _,H,I,rfl,?_⟩
 . obtain⟨b,k,rfl,hb,hk⟩:=e w (by simpa using hw)
   have ek:@decide _ (dec (.ref b))=decide (k=xs):=by
    by_cases c:k=xs
    . subst c
      rw[zZ rfl];exact @zZ _ (dec _) ⟨b,rfl,hb⟩
    . rw[zb c]
      refine @zb _ (dec _) ?_
      rintro ⟨b',e1,e2⟩
      cases e1
      rw[hb] at e2
      injection e2 with z
      injection z with z
      exact c (zIn _ _ z)
   rw[ek]
   by_cases c:b=a
   . subst c
     rw[hb] at ha
     injection ha with z
     injection z with z
     rw[zIn _ _ z,zZ rfl]
     exact SeqAt.EqAt.same _
   . obtain⟨us,rv1,t1,_⟩:=I.tuple (SqT.of (K:=X.K) hb)
     obtain⟨ws,rv2,t2,_⟩:=I.tuple (SqT.of (K:=X.K) ha)
     have h1:=zBR rv1
     have h2:=zBR rv2
     have h:=SeqAt.RcAt.tuples (A:=X.A.in1) (e:=fun j=>k.getD j 0==xs.getD j 0) t1 t2 (show X.A.units+1<cLine from hu) (fun j a b=>eqAts h1 h2 j a b)
     rw[zI,zI,h1.length,h2.length,zGX] at h
     exact SeqAt.EqAt.of_refs c h
 . have ea:its.toArray.any (fun w=>@decide _ (dec w))=decide (xs∈ks):=by
    rw[show its.toArray.any (fun w=>@decide _ (dec w))=its.any (fun w=>@decide _ (dec w)) by simp]
    by_cases c:xs∈ks
    . rw[zZ c,List.any_eq_true]
      obtain⟨i,hi,ei⟩:=zAT c
      have hiy:i<ys.length:=by rw[T.length];exact hi
      obtain⟨b,k,e1,e2,e3,_⟩:=T.get (zC hiy)
      rw[zC hi,ei] at e2
      cases e2
      obtain⟨w1,hw1,rw1⟩:=r.get (i:=i) (x:=ys[i]) (zC hiy)
      rw[e1] at rw1
      exact⟨w1,zl hw1,@zZ _ (dec _) ⟨b,rw1,e3⟩⟩
    . rw[zb c,List.any_eq_false]
      intro w hw z
      obtain⟨b,k,rfl,hb,hk⟩:=e w hw
      obtain⟨b',e1,e2⟩:=@of_decide_eq_true _ (dec _) z
      cases e1
      rw[hb] at e2
      injection e2 with z
      injection z with z
      rw[zIn _ _ z] at hk
      exact c hk
   rw[ea]
   exact q
end
end L2
namespace L2
section
open PySem PySem.W PyProof.Rows
noncomputable def zEZ (p:Program)(w:World)(n₀:Nat)(ann:Option Value):Nat->SharedT->Thread->Option SharedT
 | 0,_,_=>none
 | n+1,s,t=>match through t with
  | true=>some s
  | false=>match Fast.tw6613529449190102663 n₀ ann t with
   | false=>none
   | true=>match Fast.tw10156331382660048174 (Fast.tw11892475500146522536 Fast.tw14364793385576792824) p w s t with
    | some (s',t')=>zEZ p w n₀ ann n s' t'
    | none=>none
theorem zE3 {p:Program}{w:World}{n₀:Nat}{ann:Option Value}:∀{n:Nat}{s s':SharedT}{t:Thread},zEZ p w n₀ ann n s t=some s'->topRun treeTable p w n₀ ann n s.abs t=some s'.abs
 | 0,_,_,_,h=>by cases h
 | n+1,s,s',t,h=>by
  unfold zEZ at h
  rw[<-Fast.te6613529449190102663,<-Fast.te10156331382660048174,<-Fast.te11892475500146522536,<-Fast.te14364793385576792824] at h
  unfold topRun
  cases he:through t with
  | true=>rw[he] at h;cases h;rfl
  | false=>
   rw[he] at h
   cases hk:stepOk n₀ ann t with
   | false=>rw[hk] at h;cases h
   | true=>
    rw[hk] at h
    cases hs:stepT (denote treeTable) p w s t with
    | none=>rw[hs] at h;cases h
    | some r=>obtain⟨s₂,t₂⟩:=r;rw[hs] at h;rw[stepT_spec hs];exact zE3 h
noncomputable def bt:List Obj->Nat->BT->BT
 | [],_,t=>t
 | o::l,i,t=>bt l (i+1) (t.ins i o)
noncomputable def bT (P:Params):BT:=bt (boot_heap P).objs.toList 0 .nil
noncomputable def bS (w:World)(os:OsState):SharedT:=⟨bT w.params,(boot_heap w.params).objs.size,(boot_heap w.params).life,Array.mk [],boot_drawn,boot_toks,os⟩
theorem bA (w:World)(os:OsState):(bS w os).abs=⟨boot_heap w.params,Array.mk [],boot_drawn,boot_toks,os⟩:=by kernel_rfl
noncomputable abbrev runT (p:Program)(N:Nat)(w:World)(os:OsState):Option SharedT:=zEZ p w (boot_heap w.params).objs.size ((boot_heap w.params).nsMap mainGlobals "__annotations__") N (bS w os) (topStub p)
noncomputable abbrev chkT (p:Program)(h h':Heap)(s:Shared):Bool:=staticsOk (importedModules p.main.body) h h' && namesBound p h' && gensDone s && laidKept h h'
theorem left_of {p q:Program}{loose:List Str}{Xt:Shared->Bool}{α:Type}{Yf:Shared->α}{Ya:World->α}{N:Nat}(e:opening p=plainProg p.main.scope.names)(hN:Nat.ble 600 N=true)(f:∀s,fenceModules? p s=some s)
 (h:∀(w:World)(os:OsState),(runT p N w os).map (fun s=>(chkT p (boot_heap w.params) s.abs.heap s.abs,Fast.tw4187177175401517315 q loose (importedModules p.main.body) Xt true s.abs,Yf s.abs))=some (true,openGood q loose,Ya w)):LeftO p q loose Xt Yf Ya N:=by
 intro w
 obtain⟨⟨h0,gs,d,k,os⟩,e1,e2⟩:=Option.map_eq_some_iff.mp (boot_open e hN f w)
 obtain⟨rfl,rfl,rfl,rfl⟩:h0=boot_heap w.params/\gs=Array.mk []/\d=boot_drawn/\k=boot_toks:=by simpa using e2
 obtain⟨s,r,a⟩:=Option.map_eq_some_iff.mp (h w os)
 obtain⟨b,a⟩:=Prod.mk.inj a
 rw[<-Fast.te4187177175401517315] at a
 have y:=zE3 r
 rw[bA] at y
 unfold openEnds
 rw[e1]
 show (topFrom treeTable p w N _).map _=_
 unfold topFrom
 have z:((boot_heap w.params).isNs mainGlobals && (Array.mk []:Array GenState).size==0)=true:=by kernel_rfl
 dsimp only
 rw[z]
 dsimp only
 rw[y]
 show Option.map _ (match chkT p (boot_heap w.params) s.abs.heap s.abs with | true=>some s.abs | false=>none)=_
 rw[b]
 exact congrArg some a
end
end L2
namespace K65
open PySem L2 WM
noncomputable def top (i:Nat):Stmt:=PySem.Challenge.pw_labelways_k65_what_keepers_refuse.main.body.getD i (.Pass ⟨0,0,0,0⟩)
noncomputable def mth (k i:Nat):Stmt:=match top k with
 | .ClassDef _ _ _ body ..=>body.getD i (.Pass ⟨0,0,0,0⟩)
 | _=>.Pass ⟨0,0,0,0⟩
noncomputable abbrev zIz:Stmt:=top 45
noncomputable abbrev zDy:Stmt:=top 46
noncomputable abbrev zFv:Stmt:=top 47
noncomputable abbrev zFu:Stmt:=top 48
noncomputable abbrev zIx:Stmt:=top 49
noncomputable abbrev zI0:Stmt:=top 50
noncomputable abbrev sAft:Stmt:=top 51
noncomputable abbrev zGk:Stmt:=top 52
noncomputable abbrev zIy:Stmt:=top 53
noncomputable abbrev zI3:Stmt:=top 54
noncomputable abbrev zIw:Stmt:=top 55
noncomputable abbrev sNoK:Stmt:=top 56
noncomputable abbrev zI2:Stmt:=top 57
noncomputable abbrev zEd:Stmt:=top 58
noncomputable abbrev zKt:Stmt:=top 16
noncomputable abbrev sWi:Stmt:=top 17
noncomputable abbrev sTof:Stmt:=top 18
noncomputable abbrev sPl:Stmt:=top 19
noncomputable abbrev sIsL:Stmt:=top 23
noncomputable abbrev zFB:Stmt:=top 24
noncomputable abbrev zFC:Stmt:=top 25
noncomputable abbrev zHO:Stmt:=top 29
noncomputable abbrev zHQ:Stmt:=top 28
noncomputable abbrev zHP:Stmt:=top 27
noncomputable abbrev sBwr:Stmt:=top 30
noncomputable abbrev sNbr:Stmt:=top 31
noncomputable abbrev sOrd:Stmt:=top 33
noncomputable abbrev zI1:Stmt:=top 34
noncomputable abbrev sLbr:Stmt:=top 35
noncomputable abbrev sIsh:Stmt:=top 36
noncomputable abbrev sEbr:Stmt:=top 37
noncomputable abbrev zFt:Stmt:=top 40
noncomputable abbrev zFs:Stmt:=top 41
noncomputable abbrev zEe:Stmt:=top 42
noncomputable abbrev sBut:Stmt:=top 43
noncomputable abbrev sKI:Stmt:=mth 39 0
noncomputable abbrev sKP:Stmt:=mth 39 1
noncomputable abbrev sKS:Stmt:=mth 39 2
noncomputable abbrev sKT:Stmt:=mth 39 3
noncomputable abbrev sKW:Stmt:=mth 39 4
noncomputable abbrev sKL:Stmt:=mth 39 5
noncomputable abbrev sLaw:Stmt:=top 59
noncomputable def zBV (H:Hp)(t p:Addr)(N:Nat):Prop:=∃(ns:List Int)(spot rest:Int),H t=some (.lst [.ref p,.int spot,.int rest])/\H p=some (.lst (ns.map V.int))/\p≠t/\0<=spot/\spot<=N/\0<=rest/\ns.length<=64/\0<ns.length
noncomputable def zAf (H:Hp)(t:Addr)(N:Nat):Prop:=∃p:Addr,zBV H t p N
theorem zAf.mono {H:Hp}{t:Addr}{N M:Nat}(h:zAf H t N)(l:N<=M):zAf H t M:=by
 obtain⟨p,ns,spot,rest,a,b,c,d,e,f⟩:=h
 exact⟨p,ns,spot,rest,a,b,c,d,by omega,f⟩
noncomputable def Sm (t:Addr)(H H':Hp):Prop:=∀b o,b≠t->H b=some o->H' b=some o
theorem Sm.refl (t:Addr)(H:Hp):Sm t H H:=fun _ _ _ e=>e
theorem Sm.trans {t:Addr}{H H1 H2:Hp}(a:Sm t H H1)(b:Sm t H1 H2):Sm t H H2:=fun c o n e=>b c o n (a c o n e)
theorem Sm.of {t:Addr}{H H':Hp}(h:zAW H H'):Sm t H H':=fun b o _ e=>h b o e
theorem zF {l:Addr}{H:Hp}{o:HO}(h:H l=none):zAW H (upd H l o):=fun b u e=>by rw[zV (zc e h)];exact e
theorem zAy {l:Addr}{H H':Hp}{o:HO}(s:zAW H H')(h:H l=none):zAW H (upd H' l o):=fun b u e=>by rw[zV (zc e h)];exact s b u e
theorem zAf.keep {H H':Hp}{t:Addr}{N:Nat}(h:zAf H t N)(k:zAW H H'):zAf H' t N:=by
 obtain⟨p,ns,spot,rest,a,b,c⟩:=h
 exact⟨p,ns,spot,rest,k _ _ a,k _ _ b,c⟩
theorem zAf.ne {H:Hp}{t b:Addr}{N:Nat}(h:zAf H t N)(hb:H b=none):b≠t:=by
 obtain⟨p,ns,spot,rest,a,_⟩:=h
 exact (zc a hb).symm
theorem zAk {H H':Hp}{p:Addr}(s:zAW H H')(h:H' p=none):H p=none:=by
 cases e:H p with
 | none=>rfl
 | some o=>rw[s p o e] at h;cases h
theorem zIr {K:PySem.W.Frag}{H H':Hp}{a:Addr}{xs:List V}(h:SqL K H a xs)(s:zAW H H'):SqL K H' a xs:=by
 rcases h with (h | ⟨o,h⟩) | h
 . exact .inl (.inl (s _ _ h))
 . exact .inl (.inr ⟨o,s _ _ h⟩)
 . exact .inr h
noncomputable def zJt (K:PySem.W.Frag):Sp:=fun vs H Q _=>∃(a:Addr)(ns:List Int),vs=[.ref a]/\SqL K H a (ns.map V.int)/\ns.length<=63/\∀(t:Addr)(H':Hp),H t=none->zAf H' t 0->zAW H H'->Q (.ref t) H'
noncomputable def zC1:Sp:=fun vs H Q _=>∃(t p:Addr)(N:Nat)(many:Int),vs=[.ref t,.int many]/\zBV H t p N/\N<1000000/\0<many/\many<1000000 /\
 ∀(r:Int)(H':Hp),0<=r->r<many->zBV H' t p (N+1)->(∀b,b≠t->H' b=H b)->Q (.int r) H'
noncomputable def zHD:Sp:=fun vs H Q _=>∃(t:Addr)(N:Nat)(many:Int),vs=[.ref t,.int many]/\zAf H t N/\N<1000000/\0<many/\many<1000000 /\
 ∀(r:Int)(H':Hp),0<=r->r<many->zAf H' t (N+1)->(∀b,b≠t->H' b=H b)->Q (.int r) H'
section
variable {P:Program}{w:World}{K:PySem.W.Frag}{mg:Str->Option Value}{base:Heap}
theorem scFeed:zAA ["_law_script"] ["_law_script"] (defScope zIz):=⟨rfl,rfl,rfl,by decide +kernel,rfl,by decide +kernel,by decide +kernel⟩
theorem zLS {f:Addr}{fd:FuncData}(F:Fun K "_law_feed" "_law_feed" zIz f fd) (mInt:mg "int" = none):zy P w K mg base CX0 1 f fd ["_law_script"] (zJt K):=by
 refine F.ok scFeed (fun vs H Q E h=>?_) (fun cdv A outer s H vs Q E hr h=>?_)
 . obtain⟨a,ns,rfl,_⟩:=h
   rfl
 . obtain⟨a,ns,rfl,hS,hl,k⟩:=h
   have hu0:=hr.units0
   refine⟨_,zX (zAD (zBF (zB (zAc zGR (zBg zKm (pv 0) zB0 (zBq zY)) (zAc zJ6 (zBF (zB zY zK)) (zAd zIW (by rfl) mInt (by decide +kernel) (zB (zBr (zJ7 hu0) (pv 0) (zBF zK) (zAN _)) zK)))) (zBM (zBM zK))))),?_⟩
   refine⟨_,rfl,_,rfl,a,_,rfl,hS,fun p hp=>?_⟩
   have s1:=zF (o:=.lst (zC0 (ns.map V.int) none (some 63))) hp
   have h1:(upd H p (.lst (zC0 (ns.map V.int) none (some 63)))) p=some (.lst (zC0 (ns.map V.int) none (some 63))):=zH
   generalize upd H p (.lst (zC0 (ns.map V.int) none (some 63)))=H1 at s1 h1 ⊢
   have e1:zC0 (ns.map V.int) none (some 63)=ns.map V.int:=by
    unfold zC0
    rw[HT.sIx_none,List.drop_zero,Nat.sub_zero,zD,show (63:Int)=((63:Nat):Int) from rfl,HT.sIx_nat]
    rw[show min 63 ns.length=ns.length by omega,zm (by rw[zD];exact zM _)]
   rw[e1] at h1
   refine⟨by show 1<=sizeLine;decide,fun q hq=>?_⟩
   have s2:=zAy (o:=.lst [.int 0]) s1 (zAk s1 hq)
   have h2:(upd H1 q (.lst [.int 0])) q=some (.lst [.int 0]):=zH
   have n2:p≠q:=(zc h1 hq)
   have h12:(upd H1 q (.lst [.int 0])) p=some (.lst (ns.map V.int)):=by rw[zV n2];exact h1
   generalize upd H1 q (.lst [.int 0])=H2 at s2 h2 h12 ⊢
   refine⟨_,rfl,by show 0<=sizeLine;decide,fun r hr'=>?_⟩
   have s3:=zAy (o:=.lst []) s2 (zAk s2 hr')
   have h3:(upd H2 r (.lst [])) r=some (.lst []):=zH
   have h23:(upd H2 r (.lst [])) q=some (.lst [.int 0]):=by rw[zV (zc h2 hr')];exact h2
   have h13:(upd H2 r (.lst [])) p=some (.lst (ns.map V.int)):=by rw[zV (zc h12 hr')];exact h12
   generalize upd H2 r (.lst [])=H3 at s3 h3 h23 h13 ⊢
   refine⟨a,r,_,rfl,rfl,zIr hS s3,SqL.of h3,.inr ⟨_,rfl,?_⟩⟩
   have hk:(-(2 ^ 63):Int)<=(if (ns.map V.int).isEmpty=true then (1:Int) else 0)/\(if (ns.map V.int).isEmpty=true then (1:Int) else 0)<2 ^ 63/\[V.int 0].length*(if (ns.map V.int).isEmpty=true then (1:Int) else 0).toNat<=sizeLine/\(List.replicate (if (ns.map V.int).isEmpty=true then (1:Int) else 0).toNat [V.int 0]).flatten=(if ns=[] then [(0:Int)] else []).map V.int:=by
    cases ns with
    | nil=>exact⟨by decide,by decide,by decide,rfl⟩
    | cons _ _=>exact⟨(by decide:(-(2 ^ 63):Int)<=0),(by decide:(0:Int)<2 ^ 63),(by decide:1*(0:Int).toNat<=sizeLine),rfl⟩
   obtain⟨k1,k2,k3,k4⟩:=hk
   refine⟨q,_,_,rfl,rfl,h23,k1,k2,k3,fun u hu=>?_⟩
   rw[k4]
   have s4:=zAy (o:=.lst ((if ns=[] then [(0:Int)] else []).map V.int)) s3 (zAk s3 hu)
   have h4:(upd H3 u (.lst ((if ns=[] then [(0:Int)] else []).map V.int))) u=some (.lst ((if ns=[] then [(0:Int)] else []).map V.int)):=zH
   have h14:(upd H3 u (.lst ((if ns=[] then [(0:Int)] else []).map V.int))) p=some (.lst (ns.map V.int)):=by rw[zV (zc h13 hu)];exact h13
   generalize upd H3 u (.lst ((if ns=[] then [(0:Int)] else []).map V.int))=H4 at s4 h4 h14 ⊢
   refine⟨p,u,_,_,rfl,rfl,h14,h4,by simp only[zD];split <;> simp only[zh,List.length_nil] <;> exact zAp (Nat.add_le_add_right hl _) (by decide),fun v hv=>?_⟩
   rw[<-zR]
   have s5:=zAy (o:=.lst ((ns++if ns=[] then [(0:Int)] else []).map V.int)) s4 (zAk s4 hv)
   have h5:(upd H4 v (.lst ((ns++if ns=[] then [(0:Int)] else []).map V.int))) v=some (.lst ((ns++if ns=[] then [(0:Int)] else []).map V.int)):=zH
   generalize upd H4 v (.lst ((ns++if ns=[] then [(0:Int)] else []).map V.int))=H5 at s5 h5 ⊢
   refine⟨by show 3<=sizeLine;decide,fun t ht=>?_⟩
   have nvt:v≠t:=zc h5 ht
   refine k t _ (zAk s5 ht) ⟨v,_,0,0,zH,by rw[zV nvt];exact h5,nvt,Int.le_refl _,Int.le_refl _,Int.le_refl _,?_,?_⟩ (zAy s5 (zAk s5 ht))
   . rw[zN];split <;> simp only[zh,List.length_nil] <;> omega
   . rw[zN]
     cases ns with
     | nil=>decide
     | cons x y=>simp only[zh];omega
theorem zEH:zAA ["_law_feed_here", "_law_many", "_law_found", "_law_spot", "_law_cell", "_law_mixed"] ["_law_feed_here", "_law_many"] (defScope zDy):=⟨rfl,rfl,rfl,by decide +kernel,rfl,by decide +kernel,by decide +kernel⟩
theorem zCj {a m:Int}(h:0<m):0<=a%m/\a%m<m:=⟨Int.emod_nonneg _ (by omega),Int.emod_lt_of_pos _ h⟩
theorem zCh {f:Addr}{fd:FuncData}(F:Fun K "_law_take" "_law_take" zDy f fd) (mLen:mg "len" = none):zy P w K mg base CX0 1 f fd ["_law_feed_here", "_law_many"] zC1:=by
 refine F.ok zEH (fun vs H Q E h=>?_) (fun cdv A outer s H vs Q E hr h=>?_)
 . obtain⟨t,p,N,many,rfl,_⟩:=h
   rfl
 . obtain⟨t,p,N,many,rfl,T,hN,hm0,hm1,k⟩:=h
   obtain⟨ns,spot,rest,ht,hp,hne,hs0,hs1,hr0,hl,hl0⟩:=T
   refine⟨_,zO (zBK (zAG op_gt (zAC zAV (pv 0) zY (fun _ _=>rfl)) zY (zAN _))
    (zO (zAK (i:=2) zEH.nd rfl (Or.inl rfl) (zAc zCL (zAC zAV (pv 0) zY (fun _ _=>rfl)) (pv 1)))
    (zO (zDA (zAc zFy (zAC zAV (pv 0) zY (fun _ _=>rfl)) (pv 1)) (zFJ (pv 0) zY zCc))
    (zX (zAD (pv 2))))) zAO)
    (zO (zAK (i:=3) zEH.nd rfl (Or.inl rfl) (zAC zAV (pv 0) zY (fun _ _=>rfl)))
    (zO (zDA (zAc zBo (pv 3) zY) (zFJ (pv 0) zY zCc))
    (zO (zAK (i:=4) zEH.nd rfl (Or.inl rfl) (zAC zAV (zAC zAV (pv 0) zY (fun _ _=>rfl)) (zAc zCL (pv 3) (zn zAS (by rfl) mLen PySem.boot_len (zB (zAC zAV (pv 0) zY (fun _ _=>rfl)) zK))) (fun _ _=>rfl)))
    (zO (zBK (zFE (zAG zLC (pv 4) (zAc zHf zY zY) (zAN _)) (zDU (zAG zLA (pv 3) (zn zAS (by rfl) mLen PySem.boot_len (zB (zAC zAV (pv 0) zY (fun _ _=>rfl)) zK)) (zAN _)))).pt
     (zO (zDA (zAc zFy (pv 4) (pv 1)) (zFJ (pv 0) zY zCc)) (zX (zAD (zAc zCL (pv 4) (pv 1))))) zAO)
    (zO (zAK (i:=5) zEH.nd rfl (Or.inl rfl) (zAc zCL (zAc zDZ (zAc zBo (zAc zBo (zAc zBo (zAc zCL (pv 4) zY) (zAc zDZ (zAc zDZ zY (pv 3)) (pv 3))) (zAc zDZ zY (pv 3))) zY) zY) zY))
    (zO (zAK (i:=5) zEH.nd rfl (Or.inl rfl) (zAc zCL (zAc zBo (zAc zBo (zAc zDZ (pv 5) (pv 5)) (zAc zDZ zY (pv 3))) zY) zY))
    (zX (zAD (zAc zCL (zAc zCL (zAc zBo (zAc zDZ (pv 5) zY) (pv 3)) zY) (pv 1)))))))))),?_⟩
   have cd:CDiv 0 many:=⟨hm0,by omega⟩
   refine⟨_,rfl,t,_,_,_,rfl,rfl,SqL.of ht,rfl,_,_,rfl,rfl,_,rfl,?_⟩
   refine zDL (fun hc=>?_) (fun hc=>?_)
   . have hpos:0<rest:=of_decide_eq_true hc
     refine⟨_,rfl,t,_,_,_,rfl,rfl,SqL.of ht,rfl,_,rfl,_,_,rfl,rfl,hm0,?_⟩
     refine⟨_,rfl,t,_,_,_,rfl,rfl,SqL.of ht,rfl,_,rfl,_,_,rfl,rfl,cd,?_⟩
     refine⟨_,rfl,t,_,_,2,rfl,rfl,ht,rfl,?_⟩
     refine⟨_,rfl,?_⟩
     refine k _ _ (zCj hm0).1 (zCj hm0).2 ⟨ns,spot,rest/many,zH,by rw[zV hne];exact hp,hne,hs0,by omega,Int.ediv_nonneg hr0 (by omega),hl,hl0⟩ fun b hb=>zV hb
   . -- spot=feed[1];feed[1]=spot+1
     refine⟨_,rfl,t,_,_,_,rfl,rfl,SqL.of ht,rfl,?_⟩
     refine⟨_,rfl,_,_,rfl,rfl,_,rfl,t,_,_,1,rfl,rfl,ht,rfl,?_⟩
     have ht1:(upd H t (.lst [.ref p,.int (spot+1),.int rest])) t=some (.lst [.ref p,.int (spot+1),.int rest]):=zH
     have hp1:(upd H t (.lst [.ref p,.int (spot+1),.int rest])) p=some (.lst (ns.map V.int)):=by rw[zV hne];exact hp
     have h2:0<((ns.map V.int).length:Int):=by rw[zD];omega
     have ex:∃c,atI (ns.map V.int) (spot%((ns.map V.int).length:Int))=some (.int c):=by
      have hb:=zCj (a:=spot) h2
      obtain⟨j,hj⟩:=Int.eq_ofNat_of_zero_le hb.1
      have hlt:j<ns.length:=by
       have h2:=hb.2
       rw[hj,zD] at h2
       omega
      refine⟨ns[j],?_⟩
      rw[hj]
      exact zDr (by simp[hlt])
     obtain⟨c,hc⟩:=ex
     refine⟨_,rfl,t,_,_,_,rfl,rfl,SqL.of ht1,rfl,_,rfl,_,rfl,t,_,_,_,rfl,rfl,SqL.of ht1,rfl,p,_,rfl,.inl (SqL.of hp1),_,_,rfl,rfl,h2,p,_,_,_,rfl,rfl,SqL.of hp1,hc,?_⟩
     refine⟨_,rfl,_,_,rfl,rfl,⟨by decide,by decide,by decide⟩,_,_,rfl,rfl,_,rfl,?_⟩
     refine zDL (fun h3=>?_) (fun h3=>?_)
     all_goals first
      | (refine⟨_,rfl,_,rfl,t,_,_,_,rfl,rfl,SqL.of ht1,rfl,p,_,rfl,.inl (SqL.of hp1),_,_,rfl,rfl,_,rfl,?_⟩;refine zDL (fun h4=>?_) (fun h4=>?_))
      | refine zCR ?_
     all_goals first
      | (refine⟨_,rfl,_,rfl,_,_,rfl,rfl,⟨hm0,by omega⟩,_,rfl,t,_,_,2,rfl,rfl,ht1,rfl,?_⟩
         refine⟨_,rfl,_,rfl,_,_,rfl,rfl,hm0,?_⟩
         refine k _ _ (zCj hm0).1 (zCj hm0).2 ⟨ns,spot+1,_,zH,by rw[zV hne];exact hp1,hne,by omega,by omega,Int.ediv_nonneg (Int.le_trans (show (0:Int)<=10 ^ (18:Int).toNat by decide) (of_decide_eq_true h3)) (by omega),hl,hl0⟩ fun b hb=>by rw[zV hb,zV hb])
      | (refine⟨_,rfl,_,_,rfl,rfl,(by dsimp only;decide),_,rfl,_,_,rfl,rfl,.inl ⟨by decide,by decide⟩,_,rfl,_,_,rfl,rfl,.inr ⟨by omega,by omega⟩,_,_,rfl,rfl,_,rfl,_,_,rfl,rfl,.inl ⟨by decide,by decide⟩,_,_,rfl,rfl,_,_,rfl,rfl,_,_,rfl,rfl,.inr ⟨by decide,by decide⟩,_,_,rfl,rfl,(by dsimp only;decide),?_⟩
         generalize hx:(c%1000003+37*spot*spot+11*spot+5)*48271%2147483629=x1
         have hx1:0<=x1/\x1<2147483629:=by rw[<-hx];exact zCj (by decide)
         refine⟨_,rfl,_,rfl,_,_,rfl,rfl,.inl ⟨by omega,by omega⟩,_,rfl,_,_,rfl,rfl,.inl ⟨by decide,by decide⟩,_,_,rfl,rfl,_,_,rfl,rfl,_,_,rfl,rfl,(by dsimp only;decide),?_⟩
         refine⟨_,rfl,_,_,rfl,rfl,.inr ⟨by decide,by decide⟩,_,rfl,_,_,rfl,rfl,_,_,rfl,rfl,(by dsimp only;decide),_,rfl,_,_,rfl,rfl,hm0,?_⟩
         refine k _ _ (zCj hm0).1 (zCj hm0).2 ⟨ns,spot+1,rest,ht1,hp1,hne,by omega,by omega,hr0,hl,hl0⟩ fun b hb=>zV hb)
theorem zHj {f:Addr}{fd:FuncData}(F:Fun K "_law_take" "_law_take" zDy f fd) (mLen:mg "len" = none):zy P w K mg base CX0 1 f fd ["_law_feed_here", "_law_many"] zHD:=
 (zCh F mLen).imp fun vs H Q E ⟨t,N,many,e,⟨p,T⟩,a,b,c,k⟩=>⟨t,p,N,many,e,T,a,b,c,fun r H' h0 h1 T' he=>k r H' h0 h1 ⟨p,T'⟩ he⟩
end
end K65
namespace K65
open PySem L2 WM
theorem zB7 {t:Addr}{H H':Hp}(h:∀b,b≠t->H' b=H b):Sm t H H':=fun b o n e=>by rw[h b n];exact e
theorem Sm.laid {t l:Addr}{H:Hp}{o:HO}(h:H l=none):Sm t H (upd H l o):=fun b u _ e=>by rw[zV (zc e h)];exact e
theorem Sm.chg {t l:Addr}{H H':Hp}{o:HO}(s:Sm t H H')(h:H l=none):Sm t H (upd H' l o):=fun b u n e=>by rw[zV (zc e h)];exact s b u n e
theorem zBV.keepF {H H':Hp}{t p:Addr}{N M:Nat}(h:zBV H t p N)(k1:∀o,H t=some o->H' t=some o)(k2:∀o,H p=some o->H' p=some o)(l:N<=M):zBV H' t p M:=by
 obtain⟨ns,spot,rest,a,b,c,d,e,f⟩:=h
 exact⟨ns,spot,rest,k1 _ a,k2 _ b,c,d,by omega,f⟩
theorem zBV.same {H H':Hp}{t p:Addr}{N:Nat}(h:zBV H t p N)(s:zAW H H'):zBV H' t p N:=h.keepF (fun o e=>s _ _ e) (fun o e=>s _ _ e) (zM _)
theorem zBV.mono {H:Hp}{t p:Addr}{N M:Nat}(h:zBV H t p N)(l:N<=M):zBV H t p M:=h.keepF (fun _ e=>e) (fun _ e=>e) l
theorem zBV.laid {H:Hp}{t p l:Addr}{N:Nat}{o:HO}(h:zBV H t p N)(hl:H l=none):zBV (upd H l o) t p N:=h.same (zF hl)
theorem zBV.upd {H:Hp}{t p l:Addr}{N:Nat}{o:HO}(h:zBV H t p N)(n1:l≠t)(n2:l≠p):zBV (upd H l o) t p N:=h.keepF (fun _ e=>by rw[zV n1.symm];exact e) (fun _ e=>by rw[zV n2.symm];exact e) (zM _)
theorem zBV.ne {H:Hp}{t p b:Addr}{N:Nat}(h:zBV H t p N)(hb:H b=none):b≠t/\b≠p:=by
 obtain⟨ns,spot,rest,a,q,_⟩:=h
 exact⟨(zc a hb).symm,(zc q hb).symm⟩
theorem zBV.neT {H:Hp}{t p b:Addr}{N:Nat}{ys:List V}(h:zBV H t p N)(hb:H b=some (.tup ys)):b≠t:=by
 obtain⟨ns,spot,rest,a,q,_⟩:=h
 exact zAJ hb a (by intro z;cases z)
theorem zEm {L:List Int}{r:Int}(h0:0<=r)(h1:r<L.length):∃n,n∈L/\atI (L.map V.int) r=some (.int n):=by
 obtain⟨j,rfl⟩:=Int.eq_ofNat_of_zero_le h0
 have hj:j<L.length:=by omega
 exact⟨L[j],List.getElem_mem hj,zDr (by simp[hj])⟩
theorem zd {n:Nat}(h:n<=100000):n<sizeLine:=zBE h (by decide)
noncomputable def zAe (H:Hp)(wa:Addr)(n:Int)(ts:List T3):Prop:=∃(ta:Addr)(tys:List V),H wa=some (.tup [.int n,.ref ta])/\H ta=some (.tup tys)/\zw H tys (ts.map tl)/\GW n ts
theorem zAe.keepT {H H':Hp}{wa:Addr}{n:Int}{ts:List T3}(h:zAe H wa n ts)(k:∀b ys,H b=some (.tup ys)->H' b=some (.tup ys)):zAe H' wa n ts:=by
 obtain⟨ta,tys,a,b,c,d⟩:=h
 exact⟨ta,tys,k _ _ a,k _ _ b,c.keep k,d⟩
theorem zAe.keep {H H':Hp}{wa:Addr}{n:Int}{ts:List T3}(h:zAe H wa n ts)(k:zAW H H'):zAe H' wa n ts:=h.keepT fun b _ e=>k b _ e
noncomputable def zJo:Sp:=fun vs H Q _=>∃(t:Addr)(N:Nat)(most:Int),vs=[.ref t,.int most]/\zAf H t N/\N<900000/\1<=most/\most<=11 /\
 ∀(wa:Addr)(n:Int)(ts:List T3)(H':Hp),H wa=none->n<=most->zAe H' wa n ts->zD5 (ts.map tl)->zAf H' t (N+400)->Sm t H H'->Q (.ref wa) H'
noncomputable def TR (B:Int)(ts:List T3):Prop:=(∀t∈ts,0<=t.1/\t.1<t.2.1/\t.2.1<B/\1<=t.2.2/\t.2.2<=99)/\ts.Pairwise fun s t=>¬ (s.1=t.1/\s.2.1=t.2.1)
theorem TR.nil (B:Int):TR B []:=⟨fun _ h=>by simp at h,zBb⟩
theorem TR.more {B:Int}{ts us:List T3}(h:TR B ts)(hu:∀t∈us,0<=t.1/\t.1<B/\t.2.1=B/\1<=t.2.2/\t.2.2<=99)(nd:(us.map (·.1)).Nodup):TR (B+1) (ts++us):=by
 refine⟨fun t ht=>?_,List.pairwise_append.mpr ⟨h.2,?_,fun s hs t ht e=>?_⟩⟩
 . rcases zx.mp ht with q | q
   . obtain⟨a,b,c,d⟩:=h.1 t q;exact⟨a,b,by omega,d⟩
   . obtain⟨a,b,c,d⟩:=hu t q;exact⟨a,by omega,by omega,d⟩
 . rw[List.Nodup,zAU] at nd
   exact nd.imp fun h e=>h e.1
 . obtain⟨_,_,c,_⟩:=h.1 s hs
   obtain⟨_,_,d,_⟩:=hu t ht
   omega
theorem zEX {H:Hp}:∀{xs ys:List V}{ks ls:List (List Int)},zw H xs ks->zw H ys ls->zw H (xs++ys) (ks++ls)
 | [],ys,[],ls,_,h=>h
 | [],ys,_::_,ls,a,_=>a.elim
 | _::_,ys,[],ls,a,_=>a.elim
 | x::xs,ys,k::ks,ls,a,h=>⟨a.1,zEX a.2 h⟩
structure WF (H:Hp)(t p D pl:Addr)(L:List Int)(N m:Nat)(B:Int)(H2:Hp):Prop where
 sm:Sm t H H2
 tp:zBV H2 t p N
 pool:H2 pl=some (.lst (L.map V.int))
 ties:∃(ys:List V)(ts:List T3),H2 D=some (.lst ys)/\zw H2 ys (ts.map tl)/\TR B ts/\ts.length<=m
theorem WF.on {H H2 H3:Hp}{t p D pl:Addr}{L:List Int}{N N' m:Nat}{B:Int}(h:WF H t p D pl L N m B H2)(nD:D≠t)(nl:pl≠t)(s:Sm t H2 H3)(T:zBV H3 t p N'):WF H t p D pl L N' m B H3:=by
 obtain⟨ys,ts,a,b,c⟩:=h.ties
 exact⟨h.sm.trans s,T,s _ _ nl h.pool,ys,ts,s _ _ nD a,b.keep fun x zs e=>s _ _ (h.tp.neT e) e,c⟩
section
variable {P:Program}{w:World}{K:PySem.W.Frag}{mg:Str->Option Value}{base:Heap}
theorem zCd:zAA ["_law_feed_here", "_law_most", "_law_many", "_law_pool", "_law_dense", "_law_whole", "_law_ties", "_law_b", "_law_some"] ["_law_feed_here", "_law_most"] (defScope zFu):=⟨rfl,rfl,rfl,by decide +kernel,rfl,by decide +kernel,by decide +kernel⟩
theorem zLH {f fD:Addr}{fd fdD:FuncData}(F:Fun K "_law_web" "_law_web" zFu f fd) (FD:Fun K "_law_take" "_law_take" zDy fD fdD) (bD:zt K fdD ["_law_feed_here", "_law_many"] []) (mD:mg "_law_take" = some (.ref fD)) (mLen:mg "len" = none)
 (mRange:mg "range" = none) (mTuple:mg "tuple" = none) (mSorted:mg "sorted" = none):zy P w K mg base CX0 2 f fd ["_law_feed_here", "_law_most"] zJo:=by
 have GD:zy P w K mg base CX0 1 fD fdD ["_law_feed_here", "_law_many"] zC1:=zCh FD mLen
 refine F.ok zCd (fun vs H Q E h=>?_) (fun cdv A outer s H vs Q E hr h=>?_)
 . obtain⟨t,N,n,rfl,_⟩:=h
   rfl
 . obtain⟨t,N,most,rfl,TT,hN,hn1,hn2,k⟩:=h
   obtain⟨p,T⟩:=TT
   have hu:=zLc hr
   have hu0:=hr.units0
   obtain⟨es,q0,q1,q2,j3,q3,q4,p1,p2,p3,hbd,hes⟩:∃es q0 q1 q2 j3 q3 q4 p1 p2 p3,defBody zFu=(defBody zFu).getD 0 (.Pass ⟨0,0,0,0⟩) :: .Assign [.Name "_law_pool" q0] (.Subscript (.List es p1) (.Call (.Name "_law_take" q1) [.Name "_law_feed_here" q2,.Constant (.int 4) j3 q3] [] q4) p2) p3::(defBody zFu).drop 2 /\
    zCy es [[1],[1,2],[1,1,2,4],[1,3,97,98,99]]:=⟨_,_,_,_,_,_,_,_,_,_,rfl,.cons (.cons .nil) (by show 1<=sizeLine;decide) (.cons (.cons (.cons .nil)) (by show 2<=sizeLine;decide) (.cons (.cons (.cons (.cons (.cons .nil)))) (by show 4<=sizeLine;decide) (.cons (.cons (.cons (.cons (.cons (.cons .nil))))) (by show 5<=sizeLine;decide) (.nil))))⟩
   rw[hbd]
   refine⟨_,zO (zAK (i:=2) zCd.nd rfl (Or.inl rfl) (zAc zBo zY (zg GD hr rfl mD FD.kp bD .nil zAI (zB (pv 0) (zB (pv 1) zK)))))
    (zO (zAK (i:=3) zCd.nd rfl (Or.inr rfl) (zAC zAV (zBF (zJG hes))
     (zg GD hr rfl mD FD.kp bD .nil zAI (zB (pv 0) (zBM zK))) (fun _ _=>rfl)))
    (zO (zAK (i:=4) zCd.nd rfl (Or.inr rfl) (zAC zAV (zBF (zBM (zBM (zBM zK))))
     (zg GD hr rfl mD FD.kp bD .nil zAI (zB (pv 0) (zBM zK))) (fun _ _=>rfl)))
    (zO (zAK (i:=5) zCd.nd rfl (Or.inl rfl) (zBr op_gt (zg GD hr rfl mD FD.kp bD .nil zAI (zB (pv 0) (zBM zK))) zY (zAN _)))
    (zO (zAK (i:=6) zCd.nd rfl (Or.inl rfl) (zBF zK))
    (zO (zCf PassesOwn.never rfl (zFI rfl mRange (zBM (zB (pv 2) zK))) (zz (i:=7) zCd.nd rfl (Or.inr rfl))
     (zO (zC3 (i:=8) (own:=["_law_a"]) (cn:=["_law_feed_here", "_law_dense"]) (ci:=[0,4]) zCd.nd rfl (Or.inl rfl) rfl (csc rfl rfl) ⟨rfl,rfl,rfl,rfl,rfl,rfl,trivial⟩ rfl
      (zBe rfl mRange (zB (pv 7) zK)) (fun _ _ _ _=>zz (i:=0) (zBv rfl) rfl (Or.inl rfl))
      (fun _ _ _ _=>zCI (zAG zCD (zg GD hr rfl mD FD.kp bD .nil zAI (zB (pv 1) (zB (pv 2) zK))) zY (zAN _)))
      (fun _ _ _ _=>pv 0))
     (zO (zBK (PW.pt (zFE (zBd (pv 5)) (zDU (zAG (zJ7 hu0) (pv 8) (zBF zK) (zAN _)))))
      (zX (zAK (i:=8) zCd.nd rfl (Or.inl rfl) (zBF (zB (zg GD hr rfl mD FD.kp bD .nil zAI (zB (pv 0) (zB (pv 7) zK))) zK)))) zAO)
     (zX (zBp (zC4 PySem.F.plainAttrs_list PySem.F.slot_list_extend PySem.F.type_list_extend zCi (pv 6) (zB
      (zBS (own:=["_law_a"]) (cn:=["_law_b", "_law_pool", "_law_feed_here"]) (ci:=[7,3,0]) rfl (csc rfl rfl) ⟨rfl,rfl,rfl,rfl,rfl,rfl,rfl,rfl,rfl,trivial⟩ rfl
       (zBy (pv 8)) (fun _ _ _ _=>zz (i:=0) (zBv rfl) rfl (Or.inl rfl)) (fun _ _ _ _=>zBZ)
       (fun _ _ _ _=>zAY (zB (pv 0) (zB (pv 1) (zB (zAC zEq (pv 2) (zg GD hr rfl mD FD.kp bD .nil zAI (zB (pv 3) (zB (zn zEu (by rfl) mLen PySem.boot_len (zB (pv 2) zK)) zK))) (fun _ _=>rfl)) zK))))) zK)))))))
    (zX (zAD (zAY (zB (pv 2) (zB (zAd zAP (by rfl) mTuple (by decide +kernel) (zB (zn zB9 (by rfl) mSorted (by decide +kernel) (zB (pv 6) zK)) zK)) zK)))))))))),?_⟩
   refine⟨_,rfl,_,rfl,t,p,N,most,rfl,T,by omega,by omega,by omega,fun r0 H0 a0 b0 T0 he0=>?_⟩
   refine⟨_,_,rfl,rfl,?_⟩
   have s0:Sm t H H0:=zB7 he0
   have hm1:1<=1+r0/\1+r0<=most:=by omega
   intro a1 e1 a2 e2 a3 e3 a4 e4
   refine⟨by show 4<=sizeLine;decide,fun al el=>?_⟩
   have g1:=(zF (o:=.lst [.int 1]) e1)
   have g2:=g1.trans (zF (o:=.lst [.int 1,.int 2]) e2)
   have g3:=g2.trans (zF (o:=.lst [.int 1,.int 1,.int 2,.int 4]) e3)
   have g4:=g3.trans (zF (o:=.lst [.int 1,.int 3,.int 97,.int 98,.int 99]) e4)
   have g5:=g4.trans (zF (o:=.lst [.ref a1,.ref a2,.ref a3,.ref a4]) el)
   have f1:(upd (upd (upd (upd (upd H0 a1 (.lst [.int 1])) a2 (.lst [.int 1,.int 2])) a3 (.lst [.int 1,.int 1,.int 2,.int 4])) a4 (.lst [.int 1,.int 3,.int 97,.int 98,.int 99])) al (.lst [.ref a1,.ref a2,.ref a3,.ref a4])) a1=some (.lst [.int 1]):=(zF (o:=.lst [.int 1,.int 2]) e2).trans ((zF (o:=.lst [.int 1,.int 1,.int 2,.int 4]) e3).trans ((zF (o:=.lst [.int 1,.int 3,.int 97,.int 98,.int 99]) e4).trans (zF (o:=.lst [.ref a1,.ref a2,.ref a3,.ref a4]) el))) a1 _ zH
   have f2:(upd (upd (upd (upd (upd H0 a1 (.lst [.int 1])) a2 (.lst [.int 1,.int 2])) a3 (.lst [.int 1,.int 1,.int 2,.int 4])) a4 (.lst [.int 1,.int 3,.int 97,.int 98,.int 99])) al (.lst [.ref a1,.ref a2,.ref a3,.ref a4])) a2=some (.lst [.int 1,.int 2]):=(zF (o:=.lst [.int 1,.int 1,.int 2,.int 4]) e3).trans ((zF (o:=.lst [.int 1,.int 3,.int 97,.int 98,.int 99]) e4).trans (zF (o:=.lst [.ref a1,.ref a2,.ref a3,.ref a4]) el)) a2 _ zH
   have f3:(upd (upd (upd (upd (upd H0 a1 (.lst [.int 1])) a2 (.lst [.int 1,.int 2])) a3 (.lst [.int 1,.int 1,.int 2,.int 4])) a4 (.lst [.int 1,.int 3,.int 97,.int 98,.int 99])) al (.lst [.ref a1,.ref a2,.ref a3,.ref a4])) a3=some (.lst [.int 1,.int 1,.int 2,.int 4]):=(zF (o:=.lst [.int 1,.int 3,.int 97,.int 98,.int 99]) e4).trans (zF (o:=.lst [.ref a1,.ref a2,.ref a3,.ref a4]) el) a3 _ zH
   have f4:(upd (upd (upd (upd (upd H0 a1 (.lst [.int 1])) a2 (.lst [.int 1,.int 2])) a3 (.lst [.int 1,.int 1,.int 2,.int 4])) a4 (.lst [.int 1,.int 3,.int 97,.int 98,.int 99])) al (.lst [.ref a1,.ref a2,.ref a3,.ref a4])) a4=some (.lst [.int 1,.int 3,.int 97,.int 98,.int 99]):=zF (o:=.lst [.ref a1,.ref a2,.ref a3,.ref a4]) el a4 _ zH
   have n1:a1≠t:=(T0.ne e1).1
   have n2:a2≠t:=(T0.ne (zAk g1 e2)).1
   have n3:a3≠t:=(T0.ne (zAk g2 e3)).1
   have n4:a4≠t:=(T0.ne (zAk g3 e4)).1
   have n5:al≠t:=(T0.ne (zAk g4 el)).1
   have f5:(upd (upd (upd (upd (upd H0 a1 (.lst [.int 1])) a2 (.lst [.int 1,.int 2])) a3 (.lst [.int 1,.int 1,.int 2,.int 4])) a4 (.lst [.int 1,.int 3,.int 97,.int 98,.int 99])) al (.lst [.ref a1,.ref a2,.ref a3,.ref a4])) al=some (.lst [.ref a1,.ref a2,.ref a3,.ref a4]):=zH
   show tCall zC1 [] E0 _ _ (upd (upd (upd (upd (upd H0 a1 (.lst [.int 1])) a2 (.lst [.int 1,.int 2])) a3 (.lst [.int 1,.int 1,.int 2,.int 4])) a4 (.lst [.int 1,.int 3,.int 97,.int 98,.int 99])) al (.lst [.ref a1,.ref a2,.ref a3,.ref a4])) _
   generalize upd (upd (upd (upd (upd H0 a1 (.lst [.int 1])) a2 (.lst [.int 1,.int 2])) a3 (.lst [.int 1,.int 1,.int 2,.int 4])) a4 (.lst [.int 1,.int 3,.int 97,.int 98,.int 99])) al (.lst [.ref a1,.ref a2,.ref a3,.ref a4])=G at g5 f1 f2 f3 f4 f5 ⊢
   clear g1 g2 g3 g4 e1 e2 e3 e4 el
   refine⟨_,rfl,t,p,N+1,4,rfl,T0.same g5,by omega,by decide,by decide,fun r H1 h0 h1 T1 he1=>?_⟩
   obtain⟨pl,L,hat,hpl,hL,hL0,npl⟩:∃(pl:Addr)(L:List Int),atI [V.ref a1,V.ref a2,V.ref a3,V.ref a4] r=some (.ref pl)/\H1 pl=some (.lst (L.map V.int))/\(∀l∈L,1<=l/\l<=99)/\(0<L.length/\L.length<=5)/\pl≠t:=by
    have hr4:r=0\/r=1\/r=2\/r=3:=by omega
    rcases hr4 with rfl | rfl | rfl | rfl
    . exact⟨a1,[1],rfl,by rw[he1 _ n1];exact f1,by decide,by decide,n1⟩
    . exact⟨a2,[1,2],rfl,by rw[he1 _ n2];exact f2,by decide,by decide,n2⟩
    . exact⟨a3,[1,1,2,4],rfl,by rw[he1 _ n3];exact f3,by decide,by decide,n3⟩
    . exact⟨a4,[1,3,97,98,99],rfl,by rw[he1 _ n4];exact f4,by decide,by decide,n4⟩
   refine⟨al,_,_,_,rfl,rfl,SqL.of (by rw[he1 al n5];exact f5),hat,?_⟩
   have s1:Sm t H H1:=s0.trans ((Sm.of g5).trans (zB7 he1))
   refine⟨by show 3<=sizeLine;decide,fun ad ed=>?_⟩
   refine⟨_,rfl,t,p,N+2,3,rfl,T1.laid ed,by omega,by decide,by decide,fun r2 H2 h20 h21 T2 he2=>?_⟩
   have nad:ad≠t:=(T1.ne ed).1
   obtain⟨dn,hdn,hda⟩:=zEm (L:=[2,3,5]) h20 h21
   have hdb:0<dn/\dn<1000000:=by
    have:∀m∈([2,3,5]:List Int),0<m/\m<1000000:=by decide
    exact this dn hdn
   refine⟨ad,_,_,_,rfl,rfl,SqL.of (by rw[he2 ad nad];exact zH),hda,?_⟩
   have s2:Sm t H1 H2:=(Sm.laid ed).trans (zB7 he2)
   have hpl2:=s2 _ _ npl hpl
   refine⟨_,rfl,t,p,N+3,3,rfl,T2,by omega,by decide,by decide,fun r3 H3 _ _ Tw he3=>?_⟩
   refine⟨_,_,rfl,rfl,?_⟩
   have s3:Sm t H2 H3:=zB7 he3
   have hpl3:=s3 _ _ npl hpl2
   refine⟨by show 0<=sizeLine;decide,fun D hD=>?_⟩
   have nD:=(Tw.ne hD).1
   have nDp:=(Tw.ne hD).2
   have s13:Sm t H H3:=s1.trans (s2.trans s3)
   have hD0:H D=none:=by
    cases q:H D with
    | none=>rfl
    | some o=>rw[s13 _ _ nD q] at hD;cases hD
   have npD:pl≠D:=zc hpl3 hD
   have W0:WF H t p D pl L (N+4) 0 1 (upd H3 D (.lst [])):=⟨s13.trans (Sm.laid hD),Tw.laid hD,zF hD _ _ hpl3,[],[],zH,trivial,TR.nil 1,zM _⟩
   generalize upd H3 D (.lst [])=H4 at W0 ⊢
   refine⟨_,rfl,1,1+r0,rfl,⟨by decide,by decide,by omega,by omega⟩,zCo (lo:=1) (n:=(1+r0-1).toNat) (fun i σ H5=>∃(vb vs:Option V),σ=[some (.ref t),some (.int most),some (.int (1+r0)),some (.ref pl),some (.int dn),some (.bl (decide (0<r3))),some (.ref D),vb,vs]/\∃m,2*m<=i*(i+1)/\WF H t p D pl L (N+4+30*i) m (1+i) H5) ⟨none,none,rfl,0,by omega,(by rw[show (1:Int)+((0:Nat):Int)=1 from rfl];exact W0)⟩ ?turn ?after⟩
   case turn=>
    rintro i σ H5 hi ⟨vb,vs,rfl,m,hm,W⟩
    refine⟨_,rfl,1+(i:Int),rfl,by omega,by omega,[.ref t,.int dn],rfl,fun D1 hD1=>?_⟩
    have n1t:=(W.tp.ne hD1).1
    have n1p:=(W.tp.ne hD1).2
    refine zBh (lo:=0) (n:=(1+(i:Int)).toNat) (fun j ys H6=>j<=1+i/\(∃as:List Int,ys=as.map V.int/\(∀a∈as,0<=a/\a<j)/\as.Nodup/\as.length<=j)/\zBV H6 t p (N+4+30*i+j)/\Sm t H5 H6/\H6 D1=some (.lst ys))
     ⟨zj _,⟨[],rfl,by simp,List.nodup_nil,zM _⟩,W.tp.laid hD1,Sm.laid hD1,zH⟩ (fun j ys H6 z=>?_) (fun j ys H6 hj z=>?_) (fun ys H6 z=>?_)
    . obtain⟨_,⟨as,rfl,_,_,hk⟩,_⟩:=z
      rw[zD]
      exact zd (by omega)
    . obtain⟨_,⟨as,rfl,ha,nd,hk⟩,T6,s6,hD6⟩:=z
      rw[zBW]
      refine⟨⟨rfl,rfl⟩,?_⟩
      refine⟨_,rfl,_,rfl,t,p,_,dn,rfl,T6,by omega,hdb.1,hdb.2,fun r7 H7 _ _ T7 he7=>?_⟩
      have s7:Sm t H6 H7:=zB7 he7
      have hD7:=s7 _ _ n1t hD6
      refine⟨rfl,_,rfl,?_⟩
      refine zDL (fun _=>?_) (fun _=>?_)
      . refine⟨_,rfl,hD7,by omega,⟨as++[(j:Int)],by rw[zR];rfl,fun a q=>?_,?_,by rw[zN];simp;omega⟩,T7.upd n1t n1p,(s6.trans s7).chg hD1,zH⟩
        . rcases zx.mp q with z | z
          . have:=ha a z;omega
          . rw[zi.mp z];omega
        . exact List.nodup_append.mpr ⟨nd,by simp,fun a q b z e=>by rw[zi.mp z] at e;have:=ha a q;omega⟩
      . exact⟨by omega,⟨as,rfl,fun a q=>by have:=ha a q;omega,nd,by omega⟩,T7,s6.trans s7,hD7⟩
    . obtain⟨_,⟨as,rfl,ha,nd,hk⟩,T6,s6,hD6⟩:=z
      have W6:=W.on nD npl s6 T6
      have hDa:=hD6
      have npD1:D1≠t:=n1t
      refine⟨_,rfl,_,rfl,?_⟩
      refine zDL (fun _=>?a) (fun _=>?c)
      case' a=>
       refine⟨_,rfl,by show 0<=sizeLine;decide,fun e0 he0=>?_⟩
       have W7:=W6.on nD npl (Sm.laid (o:=.lst []) he0) (W6.tp.laid he0)
       have hD7:=zF (o:=.lst []) he0 _ _ hD6
       have h00:(upd H6 e0 (.lst [])) e0=some (.lst []):=zH
       generalize upd H6 e0 (.lst [])=H7 at W7 hD7 h00 ⊢
       refine⟨D1,e0,_,rfl,rfl,SqL.of hD7,SqL.of h00,_,rfl,?_⟩
       refine zDL (fun _=>?a1) (fun _=>?a2)
      case' a1=>
       refine⟨_,rfl,_,rfl,t,p,_,1+(i:Int),rfl,W7.tp,by omega,by omega,by omega,fun r8 H8 h80 h81 T8 he8=>?_⟩
       have W8':=W7.on nD npl (zB7 he8) T8
       refine⟨by show 1<=sizeLine;decide,fun D2 hD2=>?_⟩
       have nD2:=(W8'.tp.ne hD2).1
       have W8:WF H t p D pl L (N+4+30*i+(i+2)) m (1+i) (upd H8 D2 (.lst [.int r8])):=W8'.on nD npl (Sm.laid (o:=.lst [.int r8]) hD2) ((W8'.tp.laid hD2).mono (by omega))
       obtain⟨as',hD2',ha',nd',hk'⟩:∃as':List Int,(upd H8 D2 (.lst [.int r8])) D2=some (.lst (as'.map V.int))/\(∀a∈as',0<=a/\a<1+(i:Int))/\as'.Nodup/\as'.length<=i+1:=⟨[r8],zH,fun a q=>by rw[zi.mp q];exact⟨h80,h81⟩,by simp,by simp⟩
       generalize upd H8 D2 (.lst [.int r8])=H9 at W8 hD2' ⊢
      case' a2=>
       obtain⟨as',hD2',ha',nd',hk'⟩:∃as':List Int,H7 D1=some (.lst (as'.map V.int))/\(∀a∈as',0<=a/\a<1+(i:Int))/\as'.Nodup/\as'.length<=i+1:=⟨as,hD7,fun a q=>by have:=ha a q;omega,nd,by omega⟩
       have W8:WF H t p D pl L (N+4+30*i+(i+2)) m (1+i) H7:=W7.on nD npl (Sm.refl _ _) (W7.tp.mono (by omega))
       have nD2:=n1t
       clear ha nd hk hD7 h00 hDa npD1
       generalize H7=H9 at W8 hD2' ⊢
       generalize D1=D2 at hD2' nD2 ⊢
      case' c=>
       refine zCR ?_
       obtain⟨as',hD2',ha',nd',hk'⟩:∃as':List Int,H6 D1=some (.lst (as'.map V.int))/\(∀a∈as',0<=a/\a<1+(i:Int))/\as'.Nodup/\as'.length<=i+1:=⟨as,hD6,fun a q=>by have:=ha a q;omega,nd,by omega⟩
       have W8:WF H t p D pl L (N+4+30*i+(i+2)) m (1+i) H6:=W6.on nD npl (Sm.refl _ _) (W6.tp.mono (by omega))
       have nD2:=n1t
       clear ha nd hk hDa npD1
       generalize H6=H9 at W8 hD2' ⊢
       generalize D1=D2 at hD2' nD2 ⊢
      all_goals
       obtain⟨ys9,ts9,hD9,TA9,tr9,hl9⟩:=W8.ties
       refine⟨_,rfl,.inl ⟨rfl,_,SqL.of hD9⟩,_,rfl,D2,rfl,⟨_,SqL.of hD2'⟩,[.int (1+(i:Int)),.ref pl,.ref t],rfl,fun D3 hD3=>?_⟩
       have nD3:=W8.tp.ne hD3
       refine zBx (a:=D2) (xs:=as'.map V.int) (fun j ys Ha=>∃us:List T3,us.map (·.1)=as'.take j/\(∀u∈us,u.2.1=1+(i:Int)/\1<=u.2.2/\u.2.2<=99)/\Ha D3=some (.lst ys)/\zw Ha ys (us.map tl)/\zBV Ha t p (N+4+30*i+(i+2)+j)/\Sm t H9 Ha)
        ⟨[],rfl,by simp,zH,trivial,W8.tp.laid hD3,Sm.laid hD3⟩ (fun j ys Ha z=>?_) (fun j ys Ha z=>?_) (fun j x ys Ha hx z=>?_) (fun ys Ha z=>?_)
       . obtain⟨_,_,_,_,_,_,sa⟩:=z
         exact SqL.of (sa _ _ nD2 hD2')
       . obtain⟨us,e1,_,_,TA,_⟩:=z
         have e3:=TA.length
         rw[zD] at e3
         have e4:=congrArg List.length e1
         rw[zD,zAF] at e4
         exact zd (by omega)
       . obtain⟨us,e1,hus,hDa,TA,TP,sa⟩:=z
         rw[zU] at hx
         cases hxa:as'[j]? with
         | none=>rw[hxa] at hx;cases hx
         | some av=>
         rw[hxa] at hx
         cases hx
         have hjl:j<as'.length:=(zL.mp hxa).1
         have hLn:0<((L.map V.int).length:Int)/\((L.map V.int).length:Int)<1000000:=by rw[zD];omega
         have hpa:=sa _ _ npl W8.pool
         refine⟨⟨rfl,rfl⟩,?_⟩
         refine zFm ?_
         refine⟨_,rfl,_,rfl,_,rfl,_,rfl,_,rfl,pl,_,rfl,.inl (SqL.of hpa),t,p,_,_,rfl,TP,by omega,hLn.1,hLn.2,fun rb Hb g0 g1 Tb heb=>?_⟩
         have sb:Sm t Ha Hb:=zB7 heb
         obtain⟨lg,hlg,hla⟩:=zEm (L:=L) g0 (by rw[zD] at g1;exact g1)
         refine⟨pl,_,_,_,rfl,rfl,SqL.of (sb _ _ npl hpa),hla,?_⟩
         refine⟨by show 3<=sizeLine;decide,fun q hq=>?_⟩
         have hDb:=sb _ _ nD3.1 hDa
         have nDq:D3≠q:=zc hDb hq
         refine⟨by rw[zV nDq];exact hDb,us++[(av,1+(i:Int),lg)],?_,fun u hu=>?_,zH,?_,?_,?_⟩
         . rw[zR,e1,zAL,hxa];rfl
         . rcases zx.mp hu with z | z
           . exact hus u z
           . rw[zi.mp z];exact⟨rfl,hL lg hlg⟩
         . rw[zR]
           refine (TA.keep fun c zs e=>?_).snoc ⟨q,rfl,by rw[zV nDq.symm,zH];rfl,by simp[tl]⟩
           have e':=sb _ _ (TP.neT e) e
           rw[zV (zAJ e' hDb (by intro z;cases z)),zV (zc e' hq)]
           exact e'
         . exact ((Tb.laid hq).upd nD3.1 nD3.2).mono (by omega)
         . exact (sa.trans (sb.trans (Sm.laid hq))).chg hD3
       . obtain⟨us,e1,hus,hDa,TA,TP,sa⟩:=z
         rw[zD,zm (zM _)] at e1
         rw[zD] at TP
         have hul:us.length=as'.length:=by rw[<-e1,zD]
         have hDDa:=sa _ _ nD hD9
         have h9l:=TA9.length
         have hal:=TA.length
         rw[zD] at h9l hal
         have hii:i<=10:=by omega
         have hmm:i*(i+1)<=10*11:=Nat.mul_le_mul hii (by omega)
         refine⟨D,D3,_,_,rfl,rfl,hDDa,hDa,zAE (zd (by omega)),?_⟩
         refine⟨_,_,rfl,m+(i+1),?_,?_⟩
         . have:(i+1)*(i+1+1)=i*(i+1)+2*(i+1):=by rw[Nat.mul_comm (i+1) (i+1+1),Nat.add_mul (i+1) 1,Nat.add_mul i 1 (i+1)];omega
           omega
         . refine⟨(W8.sm.trans sa).chg hD0,(TP.upd nD nDp).mono (by omega),by rw[zV npD];exact sa _ _ npl W8.pool,_,ts9++us,zH,?_,?_,by rw[zN];omega⟩
           . rw[zR]
             refine zEX (TA9.keep fun c zs e=>?_) (TA.keep fun c zs e=>?_)
             . have e':=sa _ _ (W8.tp.neT e) e
               rw[zV (zAJ e' hDDa (by intro z;cases z))];exact e'
             . rw[zV (zAJ e hDDa (by intro z;cases z))];exact e
           . rw[show (1:Int)+((i+1:Nat):Int)=(1+(i:Int))+1 by omega]
             refine tr9.more (fun u hu=>?_) (by rw[e1];exact nd')
             have h1:=ha' u.1 (by rw[<-e1];exact List.mem_map_of_mem hu)
             have h2:=hus u hu
             exact⟨h1.1,h1.2,h2⟩
   case after=>
    rintro σ H5 ⟨vb,vs,rfl,m,hm,W⟩
    obtain⟨ys,ts,hD5,TA,tr,hl5⟩:=W.ties
    have hii:(1+r0-1).toNat<=10:=by omega
    have hmm:(1+r0-1).toNat*((1+r0-1).toNat+1)<=10*11:=Nat.mul_le_mul hii (by omega)
    refine⟨_,rfl,_,rfl,D,ys,ts.map tl,rfl,SqL.of hD5,TA,by rw[zD];omega,fun l us ms hl TA4 hpm hris=>?_⟩
    refine⟨l,us,rfl,.inl ⟨SqL.of zH,fun ta hta=>?_⟩⟩
    obtain⟨ts',ets,hpt⟩:∃ts':List T3,ts'.map tl=ms/\ts'.Perm ts:=by
     refine⟨ms.map fun k=>(k.getD 0 0,k.getD 1 0,k.getD 2 0),?_,?_⟩
     . rw[List.map_map]
       conv=>rhs;rw[<-List.map_id ms]
       refine zBQ fun k hk=>?_
       obtain⟨t',_,rfl⟩:=zAB.mp (hpm.mem_iff.mp hk)
       rfl
     . have:=hpm.map fun k:List Int=>((k.getD 0 0,k.getD 1 0,k.getD 2 0):T3)
       rw[List.map_map] at this
       have e:ts.map ((fun k:List Int=>((k.getD 0 0,k.getD 1 0,k.getD 2 0):T3))∘tl)=ts:=by
        conv=>rhs;rw[<-List.map_id ts]
        exact zBQ fun t' _=>rfl
       rw[e] at this
       exact this
    refine⟨by show 2<=sizeLine;decide,fun wa hwa=>?_⟩
    have sl:=(zF (o:=.lst us) hl).trans (zF (o:=.tup us) hta)
    have sw:=sl.trans (zF (o:=.tup [.int (1+r0),.ref ta]) hwa)
    have nwt:wa≠t:=(W.tp.ne (zAk sl hwa)).1
    have h0:H wa=none:=by
     cases q:H wa with
     | none=>rfl
     | some o=>rw[sl _ _ (W.sm _ _ nwt q)] at hwa;cases hwa
    refine k wa (1+r0) ts' _ h0 (by omega) ⟨ta,us,zH,zF hwa _ _ zH,?_,?_⟩ (by rw[ets];exact hris) ⟨p,(W.tp.same sw).mono (by omega)⟩ (W.sm.trans (Sm.of sw))
    . rw[ets]
      exact TA4.keep fun c zs e=>sw _ _ e
    . refine⟨by omega,by omega,by rw[hpt.length_eq];omega,fun t' ht'=>?_,?_⟩
      . have:=tr.1 t' (hpt.mem_iff.mp ht')
        have e:((1:Int)+((1+r0-1).toNat:Int))=1+r0:=by omega
        rw[e] at this
        exact this
      . exact (List.Perm.pairwise_iff (R:=fun s t:T3=>¬ (s.1=t.1/\s.2.1=t.2.1)) (fun h e=>h ⟨e.1.symm,e.2.symm⟩) hpt).mpr tr.2
end
end K65
namespace K65
open PySem L2 WM
theorem ifT {c:Bool}{p q:Prop}(h:c=true)(hp:p):(if c=true then p else q):=by rw[if_pos h];exact hp
theorem ifF {c:Bool}{p q:Prop}(h:c=false)(hq:q):(if c=true then p else q):=by rw[if_neg (by simp[h])];exact hq
noncomputable def zGF:Sp:=fun vs H Q _=>∃(wa:Addr)(n:Int)(ts:List T3)(p:Int),vs=[.ref wa,.int p]/\zAe H wa n ts /\
 ∀(l:Addr)(zs:List V)(ms:List (List Int))(H':Hp),zAW H H'->H l=none->H' l=some (.lst zs)->zw H' zs ms->ms.Perm (fd p ts)->zD5 ms->Q (.ref l) H'
section
variable {P:Program}{w:World}{K:PySem.W.Frag}{mg:Str->Option Value}{base:Heap}
theorem zE9:zAA ["web", "place", "found", "a", "b", "long"] ["web", "place"] (defScope zFB):=⟨rfl,rfl,rfl,by decide +kernel,rfl,by decide +kernel,by decide +kernel⟩
theorem zFz {f:Addr}{fd':FuncData}(F:Fun K "ties_at" "ties_at" zFB f fd') (mSorted:mg "sorted" = none):zy P w K mg base CX0 1 f fd' ["web", "place"] zGF:=by
 refine F.ok zE9 (fun vs H Q E h=>?_) (fun cdv A outer s H vs Q E hr h=>?_)
 . obtain⟨wa,n,ts,p,rfl,_⟩:=h
   rfl
 . obtain⟨wa,n,ts,p,rfl,⟨ta,tys,hwa,hta,TA,G⟩,k⟩:=h
   refine⟨_,zO (zAK (i:=2) zE9.nd rfl (Or.inl rfl) (zBF zK))
    (zO (zCf PassesOwn.never rfl (zDB (zAC zAR (pv 0) zY (fun _ _=>rfl))) (zDW rfl (zAz (zz (i:=3) zE9.nd rfl (Or.inl rfl)) (zAz (zz (i:=4) zE9.nd rfl (Or.inl rfl)) (zAz (zz (i:=5) zE9.nd rfl (Or.inl rfl)) zCJ))))
     (zO (zBK (zAG zCD (pv 3) (pv 1) (zAN _)) (zX (zBp (zC4 PySem.F.plainAttrs_list PySem.F.slot_list_append PySem.F.type_list_append zBw (pv 2) (zB (zAY (zB (pv 4) (zB (pv 5) zK))) zK)))) zAO)
     (zX (zBK (zAG zCD (pv 4) (pv 1) (zAN _)) (zX (zBp (zC4 PySem.F.plainAttrs_list PySem.F.slot_list_append PySem.F.type_list_append zBw (pv 2) (zB (zAY (zB (pv 3) (zB (pv 5) zK))) zK)))) zAO))))
    (zX (zAD (zn zB9 (by rfl) mSorted (by decide +kernel) (zB (pv 2) zK))))),?_⟩
   refine⟨zj _,fun l hl=>?_⟩
   have hwl:wa≠l:=zc hwa hl
   have htl:ta≠l:=zc hta hl
   have hlt:tys.length=ts.length:=by rw[TA.length,zD]
   refine⟨_,rfl,wa,_,_,_,rfl,rfl,SqT.of (by rw[zV hwl];exact hwa),rfl,ta,rfl,⟨_,SqT.of (by rw[zV htl];exact hta)⟩,zLj (K:=K) (a:=ta) (xs:=tys)
    (fun i σ H2=>∃(va vb vl:Option V)(xs:List V),σ=[some (.ref wa),some (.int p),some (.ref l),va,vb,vl]/\zAW H H2/\H2 l=some (.lst xs)/\zw H2 xs (fd p (ts.take i)))
    ⟨none,none,none,[],rfl,zF hl,zH,trivial⟩ (fun i σ H2 _ ⟨_,_,_,_,_,s2,_⟩=>SqT.of (s2 _ _ hta)) ?turn ?after⟩
   case turn=>
    rintro i y σ H2 hi ⟨va,vb,vl,xs,rfl,s2,hl2,T2⟩
    obtain⟨ya,ky,rfl,hky,hya,_⟩:=TA.get hi
    rw[zU] at hky
    obtain⟨⟨a,b,c⟩,hti,rfl⟩:∃t:T3,ts[i]? = some t/\tl t=ky:=by
     cases e:ts[i]? with
     | none=>rw[e] at hky;cases hky
     | some t=>rw[e] at hky;exact⟨t,rfl,zQ hky⟩
    have hil:i<ts.length:=(zL.mp hti).1
    have hlen:∀{xs':List V}{H3:Hp},zw H3 xs' (fd p (ts.take i))->xs'.length<sizeLine:=fun T=>by
     have e1:=T.length
     have e2:=zGZ (n:=n) p (ts:=ts.take i) fun t ht=>(G.rng t (List.mem_of_mem_take ht)).2.1
     rw[zAF] at e2
     exact zd (by have:=G.len;omega)
    have hfd:fd p (ts.take (i+1))=fd p (ts.take i)++((if a=p then [[b,c]] else [])++(if b=p then [[a,c]] else [])):=by
     rw[zAL,hti,zFS]
     show _++((if a=p then [[b,c]] else [])++(if b=p then [[a,c]] else [])++[])=_
     rw[zr]
    have hab:a<b:=(G.rng _ (zl hti)).2.1
    refine⟨ya,_,rfl,SqT.of (s2 _ _ hya),rfl,_,_,rfl,_,_,rfl,_,_,rfl,rfl,?_⟩
    have app:∀{x:Int},∀q,H2 q=none->∃xs',(upd (upd H2 q (.tup [.int x,.int c])) l (.lst (xs++[.ref q]))) l=some (.lst xs')/\zAW H (upd (upd H2 q (.tup [.int x,.int c])) l (.lst (xs++[.ref q])))/\zw (upd (upd H2 q (.tup [.int x,.int c])) l (.lst (xs++[.ref q]))) xs' (fd p (ts.take i)++[[x,c]]):=by
     intro x q hq
     have nlq:l≠q:=zc hl2 hq
     refine⟨_,zH,zAy (s2.trans (zF hq)) hl,(T2.keep fun e ys he=>?_).snoc ⟨q,rfl,by rw[zV nlq.symm,zH];rfl,by simp⟩⟩
     rw[zV (zAJ he hl2 (by intro z;cases z)),zV (zc he hq)]
     exact he
    refine⟨_,rfl,_,rfl,rfl,_,rfl,?_⟩
    refine zDL (fun h1=>?_) (fun h1=>?_)
    . have e1:a=p:=by have:=of_decide_eq_true h1;injection this
      have n2:¬ b=p:=by omega
      refine⟨_,rfl,.inl ⟨rfl,_,SqL.of hl2⟩,_,rfl,_,rfl,by show 2<=sizeLine;decide,fun q hq=>?_⟩
      have nlq:l≠q:=zc hl2 hq
      refine⟨l,_,_,rfl,rfl,by rw[zV nlq];exact hl2,hlen T2,?_⟩
      refine⟨_,rfl,_,rfl,rfl,_,rfl,?_⟩
      rw[show decide (V.int b=V.int p)=false from zb fun e=>n2 (by injection e)]
      refine zCR ?_
      obtain⟨xs',g1,g2,g3⟩:=app (x:=b) q hq
      refine⟨_,_,_,xs',rfl,g2,g1,?_⟩
      rw[hfd,if_pos e1,if_neg n2]
      exact g3
    . have n1:¬ a=p:=fun e=>by
       have:=h1
       rw[e] at this
       exact this (zZ rfl)
      refine⟨_,rfl,_,rfl,rfl,_,rfl,?_⟩
      refine zDL (fun h2=>?_) (fun h2=>?_)
      . have e2:b=p:=by have:=of_decide_eq_true h2;injection this
        refine⟨_,rfl,.inl ⟨rfl,_,SqL.of hl2⟩,_,rfl,_,rfl,by show 2<=sizeLine;decide,fun q hq=>?_⟩
        have nlq:l≠q:=zc hl2 hq
        refine⟨l,_,_,rfl,rfl,by rw[zV nlq];exact hl2,hlen T2,?_⟩
        obtain⟨xs',g1,g2,g3⟩:=app (x:=a) q hq
        refine⟨_,_,_,xs',rfl,g2,g1,?_⟩
        rw[hfd,if_neg n1,if_pos e2]
        exact g3
      . have n2:¬ b=p:=fun e=>by
         have:=h2
         rw[e] at this
         exact this (zZ rfl)
        refine⟨_,_,_,xs,rfl,s2,hl2,?_⟩
        rw[hfd,if_neg n1,if_neg n2,zr,zr]
        exact T2
   case after=>
    rintro σ H2 ⟨va,vb,vl,xs,rfl,s2,hl2,T2⟩
    rw[hlt,zm (zM _)] at T2
    have e2:=zGZ (n:=n) p (ts:=ts) fun t ht=>(G.rng t ht).2.1
    refine⟨_,rfl,l,xs,fd p ts,rfl,SqL.of hl2,T2,by have:=G.len;omega,fun l' zs ms hl' T3 hp hrs=>?_⟩
    have nll:l'≠l:=fun e=>by rw[e,hl2] at hl';cases hl'
    have hl0:H l'=none:=by
     cases q:H l' with
     | none=>rfl
     | some o=>have:=s2 l' o q;rw[hl'] at this;cases this
    exact k l' zs ms _ (s2.trans (zF hl')) hl0 zH (T3.keep fun e ys he=>zF hl' _ _ he) hp hrs
end
noncomputable def zEE:Sp:=fun vs H Q _=>∃(wa:Addr)(n:Int)(ts:List T3)(one other:Int),vs=[.ref wa,.int one,.int other]/\zAe H wa n ts /\
 ∀(r:V)(H':Hp),zAW H H'->((∃l,Adj ts one other l/\r = .int l)\/((∀l,¬ Adj ts one other l)/\r = .non))->Q r H'
theorem zGx {ms:List (List Int)}(h:zD5 ms)(hk:∀k∈ms,∃y l,k=[y,l])(hn:(ms.map hd).Nodup):(ms.map hd).Pairwise (· < ·):=by
 rw[zAU]
 rw[List.Nodup,zAU] at hn
 have both:ms.Pairwise fun a b=>HT.lexLt b a=false/\hd a≠hd b:=by
  rw[zAh]
  intro i j hi hj hij
  exact⟨zAh.mp h i j hi hj hij,zAh.mp hn i j hi hj hij⟩
 refine both.imp_of_mem fun {a b} ha hb hab=>?_
 obtain⟨y,l,rfl⟩:=hk a ha
 obtain⟨z,m,rfl⟩:=hk b hb
 obtain⟨h1,h2⟩:=hab
 have h2':y≠z:=h2
 rw[HT.lexLt_cons,if_neg (Ne.symm h2')] at h1
 have:=of_decide_eq_false h1
 show y<z
 omega
section
variable {P:Program}{w:World}{K:PySem.W.Frag}{mg:Str->Option Value}{base:Heap}
theorem zHM:zAA ["web", "one", "other", "place", "long"] ["web", "one", "other"] (defScope zFC):=⟨rfl,rfl,rfl,by decide +kernel,rfl,by decide +kernel,by decide +kernel⟩
theorem zLN {f fT:Addr}{fd' fdT:FuncData}(F:Fun K "long_of" "long_of" zFC f fd') (FT:Fun K "ties_at" "ties_at" zFB fT fdT) (bT:zt K fdT ["web", "place"] []) (mT:mg "ties_at" = some (.ref fT)) (mSorted:mg "sorted" = none) :
 zy P w K mg base CX0 2 f fd' ["web", "one", "other"] zEE:=by
 have GT:zy P w K mg base CX0 1 fT fdT ["web", "place"] zGF:=zFz FT mSorted
 refine F.ok zHM (fun vs H Q E h=>?_) (fun cdv A outer s H vs Q E hr h=>?_)
 . obtain⟨wa,n,ts,one,other,rfl,_⟩:=h
   rfl
 . obtain⟨wa,n,ts,one,other,rfl,W,k⟩:=h
   refine⟨_,zO (zCf PassesOwn.never rfl (zBy (zg GT hr rfl mT FT.kp bT .nil zAI (zB (pv 0) (zB (pv 1) zK)))) (zDW rfl (zAz (zz (i:=3) zHM.nd rfl (Or.inl rfl)) (zAz (zz (i:=4) zHM.nd rfl (Or.inl rfl)) zCJ)))
    (zX (zBK (zAG zCD (pv 3) (pv 2) (zAN _)) (zX (zAD (pv 4))) zAO)))
    (zX (zAD zBX)),?_⟩
   refine⟨_,rfl,_,rfl,wa,n,ts,one,rfl,W,fun l zs ms H1 s1 hl0 hl1 T1 hp _=>?_⟩
   refine⟨l,rfl,⟨_,SqL.of hl1⟩,zDO (K:=K) (a:=l) (xs:=zs) (fun i σ H2=>∃va vb:Option V,σ=[some (.ref wa),some (.int one),some (.int other),va,vb]/\H2=H1/\∀j k,j<i->ms[j]? = some k->hd k≠other)
    ⟨none,none,rfl,rfl,fun j _ h=>by omega⟩ (fun i σ H2 _ ⟨_,_,_,e,_⟩=>e ▸ SqL.of hl1) ?turn ?after⟩
   case turn=>
    rintro i y σ H2 hi ⟨va,vb,rfl,rfl,hno⟩
    obtain⟨ya,ky,rfl,hky,hya,_⟩:=T1.get hi
    have hm:ky∈fd one ts:=hp.mem_iff.mp (zl hky)
    obtain⟨z,c,rfl,ha⟩:=zDE.mp hm
    refine⟨ya,_,rfl,SqT.of hya,rfl,_,_,rfl,_,_,rfl,rfl,?_⟩
    refine⟨_,rfl,_,rfl,rfl,_,rfl,?_⟩
    refine zDL (fun h1=>?_) (fun h1=>?_)
    . have e1:z=other:=by have:=of_decide_eq_true h1;injection this
      subst e1
      exact⟨_,rfl,k _ _ s1 (.inl ⟨c,ha,rfl⟩)⟩
    . have n1:z≠other:=fun e=>by
       have:=h1
       rw[e] at this
       exact this (zZ rfl)
      refine⟨_,_,rfl,rfl,fun j kj hj hkj=>?_⟩
      by_cases hji:j<i
      . exact hno j kj hji hkj
      . have e:j=i:=by omega
        subst e
        rw[hky] at hkj
        cases hkj
        exact n1
   case after=>
    rintro σ H2 ⟨va,vb,rfl,rfl,hno⟩
    refine k _ _ s1 (.inr ⟨fun c ha=>?_,rfl⟩)
    have hm:[other,c]∈ms:=hp.mem_iff.mpr (zDE.mpr ⟨other,c,rfl,ha⟩)
    obtain⟨j,hj,e⟩:=zAT hm
    exact hno j _ (by have:=T1.length;omega) (by rw[zC hj,e]) rfl
end
theorem zDQ {i j:Int}:decide (V.int i=V.int j)=decide (i=j):=by
 by_cases h:i=j
 . subst h;simp
 . rw[zb h,zb fun e=>h (by injection e)]
end K65
namespace K65
open PySem L2 WM
noncomputable def lamP:Pos:=⟨85,36,85,64⟩
noncomputable abbrev lamQ:Str:=(("nearest" : Str) ++ ".<locals>.") ++ "<lambda>"
noncomputable abbrev Tb (H:Hp)(PT:Addr):Prop:=zB5 H PT lamP lamQ
noncomputable def zJr (PT:Addr):Sp:=fun vs H Q _=>∃(d:Addr)(n:Int)(kvs:List (Key×V))(wt:Int->Option Int),vs=[.ref d]/\H d=some (.dK kvs)/\WD n kvs wt/\0<=n/\n<=24/\kvs≠[]/\Tb H PT /\
 ∀(M e:Int)(H':Hp),wt M=some e->(∀q f,wt q=some f->e<=f)->SmT H H'->Tb H' PT->Q (.int M) H'
noncomputable def zHF (PT:Addr):Sp:=fun vs H Q _=>∃(wa:Addr)(n:Int)(ts:List T3)(s:Int),vs=[.ref wa,.int s]/\zAe H wa n ts/\0<=s/\s<n/\Tb H PT /\
 ∀(l:Addr)(kn:List (Option Int))(H':Hp),SmT H H'->Tb H' PT->H' l=some (.tup (kn.map oV))->zJj ts n s kn->Q (.ref l) H'
theorem zAe.smT {H H':Hp}{wa:Addr}{n:Int}{ts:List T3}(h:zAe H wa n ts)(k:SmT H H'):zAe H' wa n ts:=h.keepT fun b ys e=>by
 rcases k b _ e with ⟨ps,z⟩ | z
 . cases z
 . exact z
section
variable {P:Program}{w:World}{K:PySem.W.Frag}{mg:Str->Option Value}{base:Heap}{PT:Addr}
theorem scNear:zAA ["waiting"] ["waiting"] (defScope zHO):=⟨rfl,rfl,rfl,by decide +kernel,rfl,by decide +kernel,by decide +kernel⟩
theorem zLM {f c:Addr}{fd':FuncData}(F:zJl K "nearest" "nearest" zHO f fd' c) (C:PySem.W.CodeHd base c PT)(hbm:zIg mg base)(mMin:mg "min" = none) (mSorted:mg "sorted" = none):zy P w K mg base CX0 2 f fd' ["waiting"] (zJr PT):=by
 refine F.ok scNear (fun vs H Q E h=>?_) (fun A outer s H vs Q E hr h=>?_)
 . obtain⟨d,n,kvs,wt,rfl,_⟩:=h
   rfl
 . obtain⟨d,n,kvs,wt,rfl,hd,W,hn0,hn,hne,T,k⟩:=h
   refine⟨_,zX (zAD (zHY (k:=0) (j:=0) (P:=PT) (c:=c) (dn := "waiting") (pn := "place") rfl hr rfl mMin (zB (zn (zFb rfl) (by rfl) mSorted (by decide +kernel) (zB (pv 0) zK)) zK) rfl C hbm rfl rfl rfl rfl rfl (by decide +kernel) (zLi rfl) rfl rfl rfl (fun _ _ _ _ _ _ _=>rfl))),?_⟩
   have hl:=W.len hn0
   refine⟨_,rfl,d,kvs,zD2 kvs,rfl,hd,W.keys,by unfold zD2;rw[zD];omega,fun l ms hl' hp _=>?_⟩
   have mem:∀x,x∈ms->∃e,wt x=some e:=fun x hx=>W.mem.mp (hp.mem_iff.mp hx)
   refine⟨l,d,ms,kvs,fun x=>(wt x).getD 0,rfl,zH,fun e=>?_,rfl,by rw[zV (zc hd hl')];exact hd,fun x hx=>?_,T.same (zF hl'),fun M H2 hM hb sm T2=>?_⟩
   . subst e
     have:=hp.length_eq
     unfold zD2 at this
     rw[zD] at this
     exact hne (List.eq_nil_of_length_eq_zero this.symm)
   . obtain⟨e,he⟩:=mem x hx
     show zCG kvs (Sum.inl x)=some (.int ((wt x).getD 0))
     rw[W.at_ x,he];rfl
   . obtain⟨e,he⟩:=mem M hM
     refine k M e H2 he (fun q f hq=>?_) ((SmT.of (zF hl')).trans sm) T2
     have hq':q∈ms:=hp.mem_iff.mpr (W.mem.mpr ⟨f,hq⟩)
     have:=hb q hq'
     simp only[he,hq,Option.getD_some] at this
     exact this
theorem zDS:zAA ["web", "start", "known", "waiting", "place", "other", "long", "far"] ["web", "start"] (defScope zHQ):=⟨rfl,rfl,rfl,by decide +kernel,rfl,by decide +kernel,by decide +kernel⟩
theorem zGp {kn:List (Option Int)}{j:Nat}{o:Option Int}:(kn.map oV).set j (oV o)=(kn.set j o).map oV:=by rw[List.map_set]
theorem zEM {o:Option Int}:decide (oV o=V.non)=o.isNone:=by
 cases o with
 | none=>rfl
 | some d=>exact zb (by intro e;cases e)
theorem zLR {f fN fT c:Addr}{fd' fdN fdT:FuncData}(F:Fun K "lengths_from" "lengths_from" zHQ f fd') (FN:zJl K "nearest" "nearest" zHO fN fdN c) (bN:zt K fdN ["waiting"] []) (mN:mg "nearest" = some (.ref fN)) (FT:Fun K "ties_at" "ties_at" zFB fT fdT) (bT:zt K fdT ["web", "place"] []) (mT:mg "ties_at" = some (.ref fT))
 (C:PySem.W.CodeHd base c PT)(hbm:zIg mg base)(mMin:mg "min" = none) (mSorted:mg "sorted" = none) (mTuple:mg "tuple" = none):zy P w K mg base CX0 3 f fd' ["web", "start"] (zHF PT):=by
 have GN:zy P w K mg base CX0 2 fN fdN ["waiting"] (zJr PT):=zLM FN C hbm mMin mSorted
 have GT:zy P w K mg base CX0 2 fT fdT ["web", "place"] zGF:=(zFz FT mSorted).mono (by decide)
 refine F.ok zDS (fun vs H Q E h=>?_) (fun cdv A outer s H vs Q E hr h=>?_)
 . obtain⟨wa,n,ts,st,rfl,_⟩:=h
   rfl
 . obtain⟨wa,n,ts,st,rfl,W,hs0,hs1,T,k⟩:=h
   obtain⟨ta,tys,hwa,_,_,G⟩:=id W
   have hu:=zLc hr
   have hn1:=G.n1
   have hn24:=G.n24
   refine⟨_,zO (zAK (i:=2) zDS.nd rfl (Or.inl rfl) (zAc zJ6 (zBF (zB zBX zK)) (zAC zAR (pv 0) zY (fun _ _=>rfl))))
    (zO (zAK (i:=3) zDS.nd rfl (Or.inl rfl) (zK6 (zJC (pv 1) zY zK1) rfl rfl (by decide) (by decide)))
    (zO (zGN PassesOwn.never (zJB (pv 3) (fun _=>rfl))
     (zO (zAK (i:=4) zDS.nd rfl (Or.inl rfl) (zg GN hr rfl mN FN.kp bN .nil zAI (zB (pv 3) zK)))
     (zO (zDA (zJE (pv 3) (pv 4) ⟨rfl,rfl,rfl,rfl⟩) (zFJ (pv 2) (pv 4) zCc))
     (zX (zCf PassesOwn.never rfl (zBy (zg GT hr rfl mT FT.kp bT .nil zAI (zB (pv 0) (zB (pv 4) zK)))) (zDW rfl (zAz (zz (i:=5) zDS.nd rfl (Or.inl rfl)) (zAz (zz (i:=6) zDS.nd rfl (Or.inl rfl)) zCJ)))
      (zX (zBK (zAG zCT (zAC zAV (pv 2) (pv 5) (fun _ _=>rfl)) zBX (zAN _))
       (zO (zAK (i:=7) zDS.nd rfl (Or.inl rfl) (zAc zBo (zAC zAV (pv 2) (pv 4) (fun _ _=>rfl)) (pv 6)))
       (zX (zK0 hu (pv 3) (pv 5) (zn (zCt rfl) (by rfl) mMin (by decide +kernel) (zB (pv 7) (zB (zJF hu (pv 3) (pv 5) (pv 7) ⟨rfl,rfl,rfl,rfl⟩) zK))) rfl))) zAO)))))))
    (zX (zAD (zAd zAP (by rfl) mTuple (by decide +kernel) (zB (pv 2) zK)))))),?_⟩
   refine⟨by show 1<=sizeLine;decide,fun l0 hl0=>?_⟩
   refine⟨_,rfl,wa,_,_,_,rfl,rfl,SqT.of (zF hl0 _ _ hwa),rfl,l0,n,_,rfl,rfl,zH,by omega,by omega,?_,fun kl hkl=>?_⟩
   . have:sizeLine=16777216:=rfl
     show 1*n.toNat<=sizeLine
     omega
   have s1:zAW H (upd (upd H l0 (.lst [.non])) kl (.lst (List.replicate n.toNat [V.non]).flatten)):=(zF hl0).trans (zF hkl)
   have erep:(List.replicate n.toNat [V.non]).flatten=(List.replicate n.toNat (none:Option Int)).map oV:=by
    generalize n.toNat=m
    induction m with
    | zero=>rfl
    | succ m ih=>rw[zA3,List.flatten_cons,ih,zA3];rfl
   rw[erep] at s1 ⊢
   have hk1:(upd (upd H l0 (.lst [.non])) kl (.lst ((List.replicate n.toNat (none:Option Int)).map oV))) kl=some (.lst ((List.replicate n.toNat (none:Option Int)).map oV)):=zH
   generalize hH1:upd (upd H l0 (.lst [.non])) kl (.lst ((List.replicate n.toNat (none:Option Int)).map oV))=H1 at s1 hk1 ⊢
   intro wd hwd
   refine⟨_,rfl,zH,[(Sum.inl st,.int 0)],rfl,by show 1<=15;decide,?_⟩
   have s2:zAW H (upd (upd H1 wd (.dK [])) wd (.dK [(Sum.inl st,.int 0)])):=by rw[zBm];exact s1.trans (zF hwd)
   have nkw:kl≠wd:=zc hk1 hwd
   rw[show zEO [] [((Sum.inl st:Key),V.int 0)]=[((Sum.inl st:Key),V.int 0)] from rfl,zBm]
   rw[zBm] at s2
   refine⟨fun m σ H2=>∃(kn:List (Option Int))(kvs:List (Key×V))(wt:Int->Option Int)(v4 v5 v6 v7:Option V),σ=[some (.ref wa),some (.int st),some (.ref kl),some (.ref wd),v4,v5,v6,v7]/\m=n.toNat-cnt kn/\SmT H H2/\Tb H2 PT/\H2 kl=some (.lst (kn.map oV))/\H2 wd=some (.dK kvs)/\WD n kvs wt/\Dl ts n st kn wt,
    ⟨_,_,_,_,_,_,_,_,rfl,rfl,SmT.of s2,T.same s2,by rw[zV nkw];exact hk1,zH,WD.one hs0 hs1,Dl.start G hs0 hs1⟩,?_⟩
   rintro m σ H2 ⟨kn,kvs,wt,v4,v5,v6,v7,rfl,rfl,sm,T2,hk2,hw2,WW,D⟩
   cases hkb:kvs.isEmpty with
   | true=>
    refine⟨_,rfl,false,.inr (.inr ⟨kvs,hw2,by rw[hkb];rfl⟩),?_⟩
    refine zCR ?_
    have hkv:kvs=[]:=List.isEmpty_iff.mp hkb
    have hnone:∀q,wt q=none:=fun q=>by
     cases e:wt q with
     | none=>rfl
     | some d=>
      have:=WW.mem.mpr ⟨d,e⟩
      rw[hkv] at this
      simp[zD2] at this
    refine⟨_,rfl,kl,_,rfl,.inl ⟨SqL.of hk2,fun q hq=>?_⟩⟩
    exact k q kn _ (sm.trans (SmT.of (zF hq))) (T2.same (zF hq)) zH (D.done G hnone)
   | false=>
    refine⟨_,rfl,true,.inr (.inr ⟨kvs,hw2,by rw[hkb];rfl⟩),?_⟩
    refine zCz ?_
    have hne:kvs≠[]:=by intro e;rw[e] at hkb;cases hkb
    refine⟨fun σ' H'=>∃(kn':List (Option Int))(kvs':List (Key×V))(wt':Int->Option Int)(v4 v5 v6 v7:Option V),σ'=[some (.ref wa),some (.int st),some (.ref kl),some (.ref wd),v4,v5,v6,v7]/\cnt kn'=cnt kn+1/\SmT H H'/\Tb H' PT/\H' kl=some (.lst (kn'.map oV))/\H' wd=some (.dK kvs')/\WD n kvs' wt'/\Dl ts n st kn' wt',?_,?_⟩
    . rintro σ' H' ⟨kn',kvs',wt',v4',v5',v6',v7',rfl,hc,sm',T',hk',hw',WW',D'⟩
      have h1:=zKK kn'
      have h2:=D'.ln
      exact⟨n.toNat-cnt kn',by omega,kn',kvs',wt',v4',v5',v6',v7',rfl,rfl,sm',T',hk',hw',WW',D'⟩
    refine⟨_,rfl,wd,n,kvs,wt,rfl,hw2,WW,by omega,hn24,hne,T2,fun M e H3 hM hmin sm3 T3=>?_⟩
    have hk3:H3 kl=some (.lst (kn.map oV)):=sm3.get hk2 (by intro ps z;cases z)
    have hw3:H3 wd=some (.dK kvs):=sm3.get hw2 (by intro ps z;cases z)
    obtain⟨hknM,hM0,hM1,hcnt,N0⟩:=D.enter G hM hmin
    have hval:zCG kvs (Sum.inl M)=some (.int e):=by rw[WW.at_ M,hM];rfl
    refine⟨_,rfl,wd,rfl,.inl ⟨kvs,.inl hw3⟩,_,rfl,kvs,Sum.inl M,_,hw3,rfl,hval,?_⟩
    have hlk:(kn.map oV).length=n.toNat:=by rw[zD];exact D.ln
    have hk3':(upd H3 wd (.dK (zB1 kvs (Sum.inl M)))) kl=some (.lst (kn.map oV)):=by rw[zV nkw];exact hk3
    refine⟨_,rfl,_,rfl,kl,_,M,M.toNat,rfl,rfl,hk3',ixN_in hM0 (by rw[hlk];omega),?_⟩
    rw[show V.int e=oV (some e) from rfl,zGp]
    have sm4:SmT H (upd (upd H3 wd (.dK (zB1 kvs (Sum.inl M)))) kl (.lst ((kn.set M.toNat (some e)).map oV))):=by
     intro b o hb
     rcases (sm.trans sm3) b o hb with z | z
     . exact .inl z
     . right
       have n1:b≠wd:=fun q=>by
        have hbn:H b=none:=by
         rw[q]
         cases e':H wd with
         | none=>rfl
         | some o'=>have:=s1 wd o' e';rw[hwd] at this;cases this
        rw[hbn] at hb;cases hb
       have n2:b≠kl:=fun q=>by
        have hbn:H b=none:=by
         rw[q]
         cases e':H kl with
         | none=>rfl
         | some o'=>have:=zF (o:=.lst [.non]) hl0 kl o' e';rw[hkl] at this;cases this
        rw[hbn] at hb;cases hb
       rw[zV n2,zV n1];exact z
    have T4:Tb (upd (upd H3 wd (.dK (zB1 kvs (Sum.inl M)))) kl (.lst ((kn.set M.toNat (some e)).map oV))) PT:=by
     refine T3.keep (fun o ho=>?_) fun c φ hc=>?_
     . obtain⟨ps,hps,_⟩:=T3
       have e1:=ho
       rw[hps] at e1;cases e1
       rw[zV (zAJ ho hk3 (by intro z;cases z)),zV (zAJ ho hw3 (by intro z;cases z))];exact ho
     . rw[zV (zAJ hc hk3 (by intro z;cases z)),zV (zAJ hc hw3 (by intro z;cases z))];exact hc
    have hk4:(upd (upd H3 wd (.dK (zB1 kvs (Sum.inl M)))) kl (.lst ((kn.set M.toNat (some e)).map oV))) kl=some (.lst ((kn.set M.toNat (some e)).map oV)):=zH
    have hw4:(upd (upd H3 wd (.dK (zB1 kvs (Sum.inl M)))) kl (.lst ((kn.set M.toNat (some e)).map oV))) wd=some (.dK (zB1 kvs (Sum.inl M))):=by rw[zV nkw.symm,zH]
    generalize upd (upd H3 wd (.dK (zB1 kvs (Sum.inl M)))) kl (.lst ((kn.set M.toNat (some e)).map oV))=H4 at sm4 T4 hk4 hw4 ⊢
    refine⟨_,rfl,_,rfl,wa,n,ts,M,rfl,W.smT sm4,fun l zs ms H5 s5 hl5 hl5' T5 hp _=>?_⟩
    have hlz:=T5.length
    refine⟨l,rfl,⟨_,SqL.of hl5'⟩,zDO (K:=K) (a:=l) (xs:=zs) (fun i σ H6=>∃(kvs':List (Key×V))(wt':Int->Option Int)(v5 v6 v7:Option V),σ=[some (.ref wa),some (.int st),some (.ref kl),some (.ref wd),some (.int M),v5,v6,v7]/\(∀b o,b≠wd->H5 b=some o->H6 b=some o)/\H6 wd=some (.dK kvs')/\WD n kvs' wt'/\Dn ts n st M e (kn.set M.toNat (some e)) wt' (fun r=>∃j k,j<i/\ms[j]? = some k/\hd k=r))
     ⟨_,_,_,_,_,rfl,fun _ _ _ z=>z,s5 _ _ hw4,WW.drop,⟨⟨N0.dm.kd,N0.dm.wk,N0.dm.ord,fun q e' r l' hq ha=>(N0.dm.nb q e' r l' hq ha).imp (fun z=>⟨z.1,fun ⟨j,_,hj,_⟩=>absurd hj (Nat.not_lt_zero _)⟩) id,N0.dm.st,N0.dm.pd,N0.dm.mx⟩,N0.ln,N0.bk,N0.bd,N0.bw⟩⟩
     (fun i σ H6 _ ⟨_,_,_,_,_,_,s6,_⟩=>SqL.of (s6 l _ (zAJ hl5' (s5 _ _ hw4) (by intro z;cases z)) hl5')) ?turn ?after⟩
    case after=>
     rintro σ H6 ⟨kvs',wt',v5,v6,v7,rfl,s6,hw6,WW6,N6⟩
     have hk5:H5 kl=some (.lst ((kn.set M.toNat (some e)).map oV)):=s5 _ _ hk4
     refine⟨_,kvs',wt',_,_,_,_,rfl,hcnt,?_,?_,s6 kl _ nkw hk5,hw6,WW6,N6.leave fun r c ha=>?_⟩
     . intro b o hb
       rcases (sm4.trans (SmT.of s5)) b o hb with z | z
       . exact .inl z
       . right
         refine s6 b o (fun q=>?_) z
         have hbn:H b=none:=by
          rw[q]
          cases e':H wd with
          | none=>rfl
          | some o'=>have:=s1 wd o' e';rw[hwd] at this;cases this
         rw[hbn] at hb;cases hb
     . refine (T4.same s5).keep (fun o ho=>?_) fun c φ hc=>?_
       . obtain⟨ps,hps,_⟩:=T4.same s5
         refine s6 PT o (fun q=>?_) ho
         rw[q,s5 _ _ hw4] at hps;cases hps
       . refine s6 c _ (fun q=>?_) hc
         rw[q,s5 _ _ hw4] at hc;cases hc
     . have hm:[r,c]∈ms:=hp.mem_iff.mpr (zDE.mpr ⟨r,c,rfl,ha⟩)
       obtain⟨j,hj,ej⟩:=zAT hm
       exact⟨j,[r,c],by omega,by rw[zC hj,ej],rfl⟩
    case turn=>
     rintro i y σ H6 hi ⟨kvs',wt',v5,v6,v7,rfl,s6,hw6,WW6,N6⟩
     obtain⟨ya,ky,rfl,hky,hya,_⟩:=T5.get hi
     obtain⟨r,c,rfl,ha⟩:=zDE.mp (hp.mem_iff.mp (zl hky))
     have hadj:=G.adj ha
     have hk6:H6 kl=some (.lst ((kn.set M.toNat (some e)).map oV)):=s6 kl _ nkw (s5 _ _ hk4)
     have hln:(kn.set M.toNat (some e)).length=n.toNat:=N6.ln
     have seen_of:∀{x:Int},(x=r\/∃j k,j<i/\ms[j]? = some k/\hd k=x)->∃j k,j<i+1/\ms[j]? = some k/\hd k=x:=fun {x} z=>by
      rcases z with rfl | ⟨j,k',hj,hk',e'⟩
      . exact⟨i,[x,c],zBG _,hky,rfl⟩
      . exact⟨j,k',zBN hj,hk',e'⟩
     have sub:∀{x:Int},(∃j k,j<i+1/\ms[j]? = some k/\hd k=x)->(∃j k,j<i/\ms[j]? = some k/\hd k=x)\/x=r:=fun {x} ⟨j,k',hj,hk',e'⟩=>by
      by_cases hji:j<i
      . exact .inl ⟨j,k',hji,hk',e'⟩
      . have:j=i:=by omega
        subst this
        rw[hky] at hk';cases hk'
        exact .inr e'.symm
     have conv:∀{wt2:Int->Option Int},Dn ts n st M e (kn.set M.toNat (some e)) wt2 (fun x=>(∃j k,j<i/\ms[j]? = some k/\hd k=x)\/x=r)->Dn ts n st M e (kn.set M.toNat (some e)) wt2 (fun x=>∃j k,j<i+1/\ms[j]? = some k/\hd k=x):=fun {wt2} N=>
      ⟨⟨N.dm.kd,N.dm.wk,N.dm.ord,fun q e' r' l' hq ha'=>(N.dm.nb q e' r' l' hq ha').imp (fun z=>⟨z.1,fun y=>z.2 (sub y)⟩) id,N.dm.st,N.dm.pd,N.dm.mx⟩,N.ln,N.bk,N.bd,N.bw⟩
     refine⟨ya,_,rfl,SqT.of (s6 _ _ (zAJ hya (s5 _ _ hw4) (by intro z;cases z)) hya),rfl,_,_,rfl,_,_,rfl,rfl,?_⟩
     obtain⟨o,ho⟩:∃o,(kn.set M.toNat (some e))[r.toNat]? = some o:=⟨_,zC (by omega)⟩
     have hfnl:fnl (kn.set M.toNat (some e)) r=o:=by
      unfold fnl
      rw[if_pos hadj.2.2.1,zE,ho];rfl
     refine⟨_,rfl,_,rfl,kl,_,_,oV o,rfl,rfl,SqL.of hk6,zBf hadj.2.2.1 (by rw[zU,ho];rfl),rfl,_,rfl,?_⟩
     rw[zEM]
     cases o with
     | some f0=>
      refine zCR ?_
      exact⟨kvs',wt',_,_,_,rfl,s6,hw6,WW6,conv (N6.skip hfnl)⟩
     | none=>
      refine zCz ?_
      have hkM:(kn.set M.toNat (some e))[M.toNat]? = some (some e):=by
       rw[List.getElem?_set_self (by have:=D.ln;omega)]
      refine⟨_,rfl,_,rfl,kl,_,_,oV (some e),rfl,rfl,SqL.of hk6,zBf hM0 (by rw[zU,hkM];rfl),_,rfl,_,_,rfl,rfl,?_⟩
      refine⟨_,rfl,_,rfl,wd,rfl,.inl ⟨kvs',.inl hw6⟩,_,rfl,_,rfl,_,DGet.k (k:=Sum.inl r) hw6,?_⟩
      have hg:((zCG kvs' (Sum.inl r)).getD (V.int (e+c)))=V.int ((wt' r).getD (e+c)):=by
       rw[WW6.at_ r]
       cases wt' r <;> rfl
      rw[hg]
      refine⟨_,_,rfl,?_⟩
      have hwl:=WW6.len (by omega)
      refine⟨_,rfl,_,rfl,wd,_,rfl,DPut.k (k:=Sum.inl r) hw6 (zd (by omega)),?_⟩
      exact⟨_,_,_,_,_,rfl,fun b o' hb z=>by rw[zV hb];exact s6 b o' hb z,zH,WW6.put hadj.2.2.1 hadj.2.2.2.1,conv (N6.wait G ha hfnl)⟩
end
noncomputable def spBwr:Sp:=fun vs H Q _=>∃(lh lt:Addr)(n:Int)(ts:List T3)(x y:Int)(kn1 kn2:List (Option Int)),vs=[.ref lh,.ref lt,.int y]/\GW n ts/\0<=x/\x<n/\0<=y/\y<n/\H lh=some (.tup (kn1.map oV))/\H lt=some (.tup (kn2.map oV))/\zJj ts n x kn1/\zJj ts n y kn2 /\
 ∀(l:Addr)(xs:List Int)(H':Hp),zAW H H'->H' l=some (.tup (xs.map V.int))->xs.Pairwise (· < ·)->(∀p,p∈xs↔Btw ts x y p)->Q (.ref l) H'
noncomputable def spNbr:Sp:=fun vs H Q _=>∃(wa lt:Addr)(n:Int)(ts:List T3)(x y:Int)(kn:List (Option Int)),vs=[.ref wa,.int x,.ref lt]/\zAe H wa n ts/\0<=x/\x<n/\0<=y/\y<n/\H lt=some (.tup (kn.map oV))/\zJj ts n y kn /\
 ∀(l:Addr)(xs:List Int)(H':Hp),zAW H H'->H' l=some (.tup (xs.map V.int))->xs.Pairwise (· < ·)->(∀p,p∈xs↔Nxt ts x y p)->Q (.ref l) H'
theorem zBt {ts:List T3}{n s:Int}{kn:List (Option Int)}(h:zJj ts n s kn){y:Int}(h0:0<=y)(h1:y<n):(kn.map oV)[y.toNat]? = some (oV (fnl kn y)):=by
 have hl:=h.ln
 have hlt:y.toNat<kn.length:=by omega
 rw[zU,zC hlt]
 unfold fnl
 rw[if_pos h0,zE,zC hlt]
 rfl
theorem zFP (q:Nat):lowTo (q+1)=lowTo q++[(q:Int)]:=by unfold lowTo;rw[List.range_succ,zR];rfl
theorem zCn (q:Nat):(lowTo q).length=q:=by unfold lowTo;rw[zD,zA4]
section
variable {P:Program}{w:World}{K:PySem.W.Frag}{mg:Str->Option Value}{base:Heap}{PT:Addr}
theorem scBwr:zAA ["here", "there", "other", "reached"] ["here", "there", "other"] (defScope sBwr):=⟨rfl,rfl,rfl,by decide +kernel,rfl,by decide +kernel,by decide +kernel⟩
theorem ok_bwr {f:Addr}{fd':FuncData}(F:Fun K "between_rows" "between_rows" sBwr f fd') (mRange:mg "range" = none) (mTuple:mg "tuple" = none) (mLen:mg "len" = none):zy P w K mg base CX0 1 f fd' ["here", "there", "other"] spBwr:=by
 refine F.ok scBwr (fun vs H Q E h=>?_) (fun cdv A outer s H2 vs Q E hr h=>?_)
 . obtain⟨lh,lt,n,ts,x,y,kn1,kn2,rfl,_⟩:=h
   rfl
 . obtain⟨lh,lt,n,ts,x,y,kn1,kn2,rfl,G,hx0,hx1,hy0,hy1,hh2,hl2,L1,L2,k⟩:=h
   have hn24:=G.n24
   have hln:=L1.ln
   refine⟨_,zO (zBK (zAG zCT (zAC zAR (pv 0) (pv 2) (fun _ _=>rfl)) zBX (zAN _)) (zX (zAD (zAY zK))) zAO)
    (zO (zC3 (i:=3) (own:=["place"]) (cn:=["here"]) (ci:=[0]) scBwr.nd rfl (Or.inl rfl) rfl (csc rfl rfl) ⟨rfl,rfl,rfl,trivial⟩ rfl
     (zBe rfl mRange (zB (zn zAS (by rfl) mLen PySem.boot_len (zB (pv 0) zK)) zK)) (fun _ _ _ _=>zz (i:=0) (zBv rfl) rfl (Or.inl rfl))
     (fun _ _ _ _=>zCI (zAG zHg (zAC zCN (pv 1) (pv 0) (fun _ _=>rfl)) zBX (zAN _))) (fun _ _ _ _=>pv 0))
    (zX (zAD (zAd zAP (by rfl) mTuple (by decide +kernel) (zB
     (zBS (own:=["place"]) (cn:=["here", "there", "other"]) (ci:=[0,1,2]) rfl (csc rfl rfl) ⟨rfl,rfl,rfl,rfl,rfl,rfl,rfl,rfl,rfl,trivial⟩ rfl
      (zBy (pv 3)) (fun _ _ _ _=>zz (i:=0) (zBv rfl) rfl (Or.inl rfl))
      (fun _ _ _ _=>zCI (zAG zCD (zAc zBo (zAC zCN (pv 1) (pv 0) (fun _ _=>rfl)) (zAC zCN (pv 2) (pv 0) (fun _ _=>rfl))) (zAC zCN (pv 1) (pv 3) (fun _ _=>rfl)) (zAN _)))
      (fun _ _ _ _=>pv 0)) zK))))),?_⟩
   have hy:=L1.len y hy0 hy1
   refine⟨_,rfl,_,rfl,lh,_,_,oV (fnl kn1 y),rfl,rfl,SqT.of hh2,zBf hy0 (zBt L1 hy0 hy1),rfl,_,rfl,?_⟩
   rw[zEM]
   cases hd:fnl kn1 y with
   | none=>
    refine zCz ?_
    rw[hd] at hy
    refine⟨zj _,fun l hl=>k l [] _ (zF hl) zH zBb fun p=>⟨fun z=>by simp at z,fun ⟨a,b,_,_,z⟩=>absurd z.1 (hy _)⟩⟩
   | some d=>
    refine zCR ?_
    rw[hd] at hy
    have hyD:WM.IsD ts x y d:=hy
    refine⟨_,rfl,lh,_,rfl,.inr (SqT.of hh2),n,by rw[zD,hln];exact congrArg (fun z=>[V.int z]) (Int.toNat_of_nonneg (by omega)),by omega,by omega,[.ref lh],rfl,fun D hD=>?_⟩
    refine zBh (lo:=0) (n:=n.toNat) (fun q ys H3=>q<=n.toNat/\ys=((lowTo q).filter fun o=>(fnl kn1 o).isSome).map V.int/\zAW H2 H3/\H3 D=some (.lst ys)) ⟨zj _,rfl,zF hD,zH⟩ (fun q ys H3 h=>?_) (fun q ys H3 hq h=>?_) (fun ys H3 h=>?_)
    . obtain⟨hq,rfl,_⟩:=h
      rw[zD]
      refine zBE (zAr _ _) (zd ?_)
      rw[zCn];omega
    . obtain⟨_,rfl,s3,hD3⟩:=h
      rw[zBW]
      refine⟨⟨rfl,rfl⟩,?_⟩
      refine⟨_,rfl,_,rfl,lh,_,_,oV (fnl kn1 q),rfl,rfl,SqT.of (s3 _ _ hh2),zBf (by omega) (zBt L1 (by omega) (by omega)),rfl,_,rfl,?_⟩
      rw[zEM]
      cases e:fnl kn1 q with
      | none=>
       refine zCR ?_
       refine⟨hq,?_,s3,hD3⟩
       rw[zFP,List.filter_append,zBJ (by rw[e];decide),List.filter_nil,zr]
      | some a=>
       refine zCz ?_
       refine⟨_,rfl,hD3,hq,?_,zAy s3 hD,zH⟩
       rw[zFP,List.filter_append,zBI (by rw[e];rfl),List.filter_nil,zR]
       rfl
    . obtain⟨_,rfl,s3,hD3⟩:=h
      generalize hR:((lowTo n.toNat).filter fun o=>(fnl kn1 o).isSome)=R at hD3 ⊢
      have hRm:∀p,p∈R↔(0<=p/\p<n)/\∃a,fnl kn1 p=some a:=fun p=>by
       rw[<-hR,zAx,zGV,zBD]
       constructor
       . rintro ⟨z1,z2⟩;exact⟨by omega,z2⟩
       . rintro ⟨z1,z2⟩;exact⟨by omega,z2⟩
      have hRr:R.Pairwise (· < ·):=by rw[<-hR];exact (zH8 _).sublist List.filter_sublist
      have hRl:R.length<=24:=by
       rw[<-hR]
       exact zAp (zAr _ _) (by rw[zCn];omega)
      have both:∀p,p∈R->∃a b,fnl kn1 p=some a/\fnl kn2 p=some b/\WM.IsD ts x p a/\WM.IsD ts p y b:=fun p hp=>by
       obtain⟨⟨h0,h1⟩,a,ha⟩:=(hRm p).mp hp
       have l1:=L1.len p h0 h1
       rw[ha] at l1
       obtain⟨b,hb,_⟩:=Len.via (show WM.IsD ts x p a from l1) hyD (Len.symm (L2.len p h0 h1))
       have l2:=L2.len p h0 h1
       rw[hb] at l2
       exact⟨a,b,ha,hb,l1,WM.IsD.symm l2⟩
      refine⟨_,rfl,D,rfl,⟨_,SqL.of hD3⟩,[.ref lh,.ref lt,.int y],rfl,fun D2 hD2=>?_⟩
      have nDD:D≠D2:=zc hD3 hD2
      refine zBx (a:=D) (xs:=R.map V.int) (fun i ys H4=>ys=((R.take i).filter fun p=>decide ((fnl kn1 p).getD 0+(fnl kn2 p).getD 0=d)).map V.int/\zAW H3 H4/\H4 D2=some (.lst ys)) ⟨rfl,zF hD2,zH⟩ (fun i ys H4 h=>?_) (fun i ys H4 h=>?_) (fun i v ys H4 hv h=>?_) (fun ys H4 h=>?_)
      . obtain⟨_,s4,_⟩:=h
        exact SqL.of (s4 _ _ hD3)
      . obtain⟨rfl,_⟩:=h
        rw[zD]
        refine zBE (zAr _ _) (zd ?_)
        rw[zAF];omega
      . obtain⟨rfl,s4,hD4⟩:=h
        obtain⟨p,hp,rfl⟩:∃p,R[i]? = some p/\V.int p=v:=by
         rw[zU] at hv
         cases e:R[i]? with
         | none=>rw[e] at hv;cases hv
         | some p=>rw[e] at hv;exact⟨p,rfl,zQ hv⟩
        have hpR:=zl hp
        obtain⟨⟨h0,h1⟩,_⟩:=(hRm p).mp hpR
        obtain⟨a,b,ha,hb,_,_⟩:=both p hpR
        have hlh4:H4 lh=some (.tup (kn1.map oV)):=s4 _ _ (s3 _ _ hh2)
        have hlt4:H4 lt=some (.tup (kn2.map oV)):=s4 _ _ (s3 _ _ hl2)
        refine⟨⟨rfl,rfl⟩,?_⟩
        refine⟨_,rfl,_,rfl,lh,_,_,.int a,rfl,rfl,SqT.of hlh4,zBf h0 (by rw[zBt L1 h0 h1,ha];rfl),?_⟩
        refine⟨_,rfl,_,rfl,lt,_,_,.int b,rfl,rfl,SqT.of hlt4,zBf h0 (by rw[zBt L2 h0 h1,hb];rfl),_,_,rfl,rfl,?_⟩
        refine⟨_,rfl,_,rfl,lh,_,_,.int d,rfl,rfl,SqT.of hlh4,zBf hy0 (by rw[zBt L1 hy0 hy1,hd];rfl),rfl,_,rfl,?_⟩
        rw[zDQ]
        have etk:(R.take (i+1)).filter (fun p=>decide ((fnl kn1 p).getD 0+(fnl kn2 p).getD 0=d))=(R.take i).filter (fun p=>decide ((fnl kn1 p).getD 0+(fnl kn2 p).getD 0=d))++(if a+b=d then [p] else []):=by
         rw[zAL,hp,List.filter_append]
         show _++List.filter _ [p]=_
         rw[zBU,ha,hb]
         by_cases c:a+b=d
         . rw[if_pos (by simpa using c),if_pos c];rfl
         . rw[if_neg (by simpa using c),if_neg c];rfl
        refine zDL (fun c=>?_) (fun c=>?_)
        . have c':=of_decide_eq_true c
          refine⟨_,rfl,hD4,?_,zAy s4 hD2,zH⟩
          rw[etk,if_pos c',zR];rfl
        . have c':¬ a+b=d:=fun z=>c (zZ z)
          refine⟨?_,s4,hD4⟩
          rw[etk,if_neg c',zr]
      . obtain⟨rfl,s4,hD4⟩:=h
        rw[zD,zm (zM _)] at hD4
        refine⟨D2,_,rfl,.inl ⟨SqL.of hD4,fun q hq=>?_⟩⟩
        refine k q _ _ ((s3.trans s4).trans (zF hq)) zH (hRr.sublist List.filter_sublist) fun p=>?_
        rw[zAx]
        constructor
        . rintro ⟨hp,c⟩
          obtain⟨a,b,ha,hb,ia,ib⟩:=both p hp
          have c':=of_decide_eq_true c
          rw[ha,hb] at c'
          exact⟨a,b,ia,ib,by rw[show a+b=d from c'];exact hyD⟩
        . rintro ⟨a,b,ia,ib,iab⟩
          have hp:=ia.1.in_ G hx0 hx1
          have l1:=Len.uniq (L1.len p hp.1 hp.2) (show Len ts x p (some a) from ia)
          have l2:=Len.uniq (L2.len p hp.1 hp.2) (show Len ts y p (some b) from WM.IsD.symm ib)
          refine⟨(hRm p).mpr ⟨hp,a,l1⟩,zZ ?_⟩
          rw[l1,l2]
          exact WM.IsD.uniq iab hyD
theorem scNbr:zAA ["web", "one", "there"] ["web", "one", "there"] (defScope sNbr):=⟨rfl,rfl,rfl,by decide +kernel,rfl,by decide +kernel,by decide +kernel⟩
noncomputable def sl1 (k:List Int):Int:=k.getD 1 0
theorem ok_nbr {f fT:Addr}{fd' fdT:FuncData}(F:Fun K "next_by_row" "next_by_row" sNbr f fd')
 (FT:Fun K "ties_at" "ties_at" zFB fT fdT) (bT:zt K fdT ["web", "place"] []) (mT:mg "ties_at" = some (.ref fT)) (mSorted:mg "sorted" = none) (mTuple:mg "tuple" = none):zy P w K mg base CX0 3 f fd' ["web", "one", "there"] spNbr:=by
 have GT:zy P w K mg base CX0 2 fT fdT ["web", "place"] zGF:=(zFz FT mSorted).mono (by decide)
 refine F.ok scNbr (fun vs H Q E h=>?_) (fun cdv A outer s H1 vs Q E hr h=>?_)
 . obtain⟨wa,lt,n,ts,x,y,kn,rfl,_⟩:=h
   rfl
 . obtain⟨wa,lt,n,ts,x,y,kn,rfl,W,hx0,hx1,hy0,hy1,hl1,L,k⟩:=h
   obtain⟨ta,tys,hwa,_,_,G⟩:=id W
   refine⟨_,zO (zBK (zAG zCT (zAC zAR (pv 2) (pv 1) (fun _ _=>rfl)) zBX (zAN _)) (zX (zAD (zAY zK))) zAO)
    (zX (zAD (zAd zAP (by rfl) mTuple (by decide +kernel) (zB
     (zBS (own:=["place", "long"]) (cn:=["there", "one"]) (ci:=[2,1]) rfl (csc rfl rfl) ⟨rfl,rfl,rfl,rfl,rfl,rfl,trivial⟩ rfl
      (zBy (zg GT hr rfl mT FT.kp bT .nil zAI (zB (pv 0) (zB (pv 1) zK))))
      (fun _ _ _ _=>zHX (n:=2) rfl (zAz (zz (i:=0) (zBv rfl) rfl (Or.inl rfl)) (zAz (zz (i:=1) (zBv rfl) rfl (Or.inl rfl)) zCJ)))
      (fun _ _ _ _=>zCI (zAG zCD (zAc zBo (pv 1) (zAC zCN (pv 2) (pv 0) (fun _ _=>rfl))) (zAC zCN (pv 2) (pv 3) (fun _ _=>rfl)) (zAN _)))
      (fun _ _ _ _=>pv 0)) zK)))),?_⟩
   have hx:=L.len x hx0 hx1
   refine⟨_,rfl,_,rfl,lt,_,_,oV (fnl kn x),rfl,rfl,SqT.of hl1,zBf hx0 (zBt L hx0 hx1),rfl,_,rfl,?_⟩
   rw[zEM]
   cases hd:fnl kn x with
   | none=>
    refine zCz ?_
    rw[hd] at hx
    refine⟨zj _,fun l hl=>k l [] _ (zF hl) zH zBb fun p=>⟨fun z=>by simp at z,fun ⟨a,b,_,_,z⟩=>absurd z.1.symm (hx _)⟩⟩
   | some d=>
    refine zCR ?_
    rw[hd] at hx
    have hxD:WM.IsD ts x y d:=WM.IsD.symm hx
    refine⟨_,rfl,_,rfl,wa,n,ts,x,rfl,W,fun l zs ms H2 s2 hl0 hl2 TT hp hrs=>?_⟩
    have hlz:=TT.length
    have hlt2:H2 lt=some (.tup (kn.map oV)):=s2 _ _ hl1
    have hlm:ms.length<64:=by
     have e2:=zGZ (n:=n) x (ts:=ts) fun t ht=>(G.rng t ht).2.1
     have:=G.len
     rw[hp.length_eq];omega
    have near:∀k,k∈ms->∃z c b,k=[z,c]/\Adj ts x z c/\fnl kn z=some b/\WM.IsD ts z y b:=fun k hk=>by
     obtain⟨z,c,e,ha⟩:=zDE.mp (hp.mem_iff.mp hk)
     have hadj:=G.adj ha
     have lz:=L.len z hadj.2.2.1 hadj.2.2.2.1
     cases hz:fnl kn z with
     | none=>rw[hz] at lz;exact absurd (hx.1.snoc ha) (lz _)
     | some b=>rw[hz] at lz;exact⟨z,c,b,e,ha,hz,WM.IsD.symm lz⟩
    refine⟨l,rfl,⟨_,SqL.of hl2⟩,[.ref lt,.int x],rfl,fun D hD=>?_⟩
    have nlD:l≠D:=zc hl2 hD
    refine zBx (a:=l) (xs:=zs) (fun i ys H3=>ys=(((ms.take i).filter fun k=>decide (sl1 k+(fnl kn (WM.hd k)).getD 0=d)).map WM.hd).map V.int/\H3=upd H2 D (.lst ys)) ⟨rfl,rfl⟩ (fun i ys H3 h=>?_) (fun i ys H3 h=>?_) (fun i v ys H3 hv h=>?_) (fun ys H3 h=>?_)
    . obtain⟨_,rfl⟩:=h
      exact SqL.of (by rw[zV nlD];exact hl2)
    . obtain⟨rfl,_⟩:=h
      rw[zD,zD]
      refine zBE (zAr _ _) (zd ?_)
      rw[zAF];omega
    . obtain⟨rfl,rfl⟩:=h
      obtain⟨ya,ky,rfl,hky,hya,_⟩:=TT.get hv
      obtain⟨z,c,b,rfl,ha,hb,ib⟩:=near ky (zl hky)
      have hadj:=G.adj ha
      refine⟨ya,_,rfl,SqT.of (by rw[zV (zc hya hD)];exact hya),rfl,_,_,rfl,_,_,rfl,rfl,⟨rfl,rfl⟩,?_⟩
      have hltD:(upd H2 D (.lst ((((ms.take i).filter fun k=>decide (sl1 k+(fnl kn (WM.hd k)).getD 0=d)).map WM.hd).map V.int))) lt=some (.tup (kn.map oV)):=by rw[zV (zc hlt2 hD)];exact hlt2
      refine⟨_,rfl,_,rfl,_,rfl,lt,_,_,.int b,rfl,rfl,SqT.of hltD,zBf hadj.2.2.1 (by rw[zBt L hadj.2.2.1 hadj.2.2.2.1,hb];rfl),_,_,rfl,rfl,?_⟩
      refine⟨_,rfl,_,rfl,lt,_,_,.int d,rfl,rfl,SqT.of hltD,zBf hx0 (by rw[zBt L hx0 hx1,hd];rfl),rfl,_,rfl,?_⟩
      rw[zDQ]
      have etk:(ms.take (i+1)).filter (fun k=>decide (sl1 k+(fnl kn (WM.hd k)).getD 0=d))=(ms.take i).filter (fun k=>decide (sl1 k+(fnl kn (WM.hd k)).getD 0=d))++(if c+b=d then [[z,c]] else []):=by
       rw[zAL,hky,List.filter_append]
       show _++List.filter _ [[z,c]]=_
       rw[zBU]
       have e1:decide (sl1 [z,c]+(fnl kn (WM.hd [z,c])).getD 0=d)=decide (c+b=d):=by
        show decide (c+(fnl kn z).getD 0=d)=_
        rw[hb];rfl
       rw[e1]
       by_cases cc:c+b=d
       . rw[if_pos (by simpa using cc),if_pos cc];rfl
       . rw[if_neg (by simpa using cc),if_neg cc];rfl
      refine zDL (fun cc=>?_) (fun cc=>?_)
      . have c':=of_decide_eq_true cc
        refine⟨_,rfl,zH,?_,zBm⟩
        rw[etk,if_pos c',zR,zR];rfl
      . have c':¬ c+b=d:=fun q=>cc (zZ q)
        refine⟨?_,rfl⟩
        rw[etk,if_neg c',zr]
    . obtain⟨rfl,rfl⟩:=h
      refine⟨D,_,rfl,.inl ⟨SqL.of zH,fun q hq=>?_⟩⟩
      rw[hlz,zm (zM _)] at hq ⊢
      have s4:=(zF (o:=.lst ((((ms.filter fun k=>decide (sl1 k+(fnl kn (WM.hd k)).getD 0=d)).map WM.hd).map V.int))) hD).trans (zF (o:=.tup ((((ms.filter fun k=>decide (sl1 k+(fnl kn (WM.hd k)).getD 0=d)).map WM.hd).map V.int))) hq)
      have hk:∀k∈ms,∃y l,k=[y,l]:=fun k hk=>by
       obtain⟨z,c,b,e,_⟩:=near k hk
       exact⟨z,c,e⟩
      have hrise:=zGx hrs hk ((hp.map WM.hd).nodup_iff.mpr (zJV G x))
      refine k q _ _ (s2.trans s4) zH (hrise.sublist (List.filter_sublist.map _)) fun p=>?_
      rw[zAB]
      constructor
      . rintro ⟨k0,hk0,rfl⟩
        obtain⟨hm,c⟩:=zAx.mp hk0
        obtain⟨z,c0,b,rfl,ha,hb,ib⟩:=near k0 hm
        have c':=of_decide_eq_true c
        have c2:c0+b=d:=by
         have:c0+(fnl kn z).getD 0=d:=c'
         rw[hb] at this;exact this
        exact⟨c0,b,ha,ib,by rw[c2];exact hxD⟩
      . rintro ⟨c0,b,ha,ib,iab⟩
        have hm:[p,c0]∈ms:=hp.mem_iff.mpr (zDE.mpr ⟨p,c0,rfl,ha⟩)
        refine⟨[p,c0],zAx.mpr ⟨hm,zZ ?_⟩,rfl⟩
        have hadj:=G.adj ha
        have lp:=Len.uniq (L.len p hadj.2.2.1 hadj.2.2.2.1) (show Len ts y p (some b) from WM.IsD.symm ib)
        show c0+(fnl kn p).getD 0=d
        rw[lp]
        exact WM.IsD.uniq iab hxD
end
noncomputable def zCP (H:Hp)(rs:List Addr)(M:List (List (Option Int))):Prop:=rs.length=M.length/\∀(i:Nat)(r:Addr)(row:List (Option Int)),rs[i]? = some r->M[i]? = some row->H r=some (.tup (row.map oV))
theorem zCP.smT {H H':Hp}{rs:List Addr}{M:List (List (Option Int))}(h:zCP H rs M)(k:SmT H H'):zCP H' rs M:=⟨h.1,fun i r row a b=>k.get (h.2 i r row a b) (by intro ps z;cases z)⟩
noncomputable def zHE (PT:Addr):Sp:=fun vs H Q _=>∃(wa:Addr)(n:Int)(ts:List T3),vs=[.ref wa]/\zAe H wa n ts/\Tb H PT /\
 ∀(l:Addr)(rs:List Addr)(M:List (List (Option Int)))(H':Hp),SmT H H'->Tb H' PT->H' l=some (.tup (rs.map V.ref))->zCP H' rs M->Rows ts n M->Q (.ref l) H'
section
variable {P:Program}{w:World}{K:PySem.W.Frag}{mg:Str->Option Value}{base:Heap}{PT:Addr}
theorem scLens:zAA ["web"] ["web"] (defScope zHP):=⟨rfl,rfl,rfl,by decide +kernel,rfl,by decide +kernel,by decide +kernel⟩
theorem zLO {f fF:Addr}{fd' fdF:FuncData}(F:Fun K "lengths" "lengths" zHP f fd') (FF:Fun K "lengths_from" "lengths_from" zHQ fF fdF) (bF:zt K fdF ["web", "start"] []) (mF:mg "lengths_from" = some (.ref fF)) (GF:zy P w K mg base CX0 3 fF fdF ["web", "start"] (zHF PT))
 (mRange:mg "range" = none) (mTuple:mg "tuple" = none):zy P w K mg base CX0 4 f fd' ["web"] (zHE PT):=by
 refine F.ok scLens (fun vs H Q E h=>?_) (fun cdv A outer s H vs Q E hr h=>?_)
 . obtain⟨wa,n,ts,rfl,_⟩:=h
   rfl
 . obtain⟨wa,n,ts,rfl,W,T,k⟩:=h
   obtain⟨ta,tys,hwa,_,_,G⟩:=id W
   have hn24:=G.n24
   have hn1:=G.n1
   refine⟨_,zX (zAD (zAd zAP (by rfl) mTuple (by decide +kernel) (zB
    (zBS (own:=["place"]) (cn:=["web"]) (ci:=[0]) rfl (csc rfl rfl) ⟨rfl,rfl,rfl,trivial⟩ rfl
     (zBe rfl mRange (zB (zAC zAR (pv 0) zY (fun _ _=>rfl)) zK)) (fun _ _ _ _=>zz (i:=0) (zBv rfl) rfl (Or.inl rfl)) (fun _ _ _ _=>zBZ)
     (fun _ _ _ _=>zg GF hr rfl mF FF.kp bF .nil zAI (zB (pv 1) (zB (pv 0) zK)))) zK))),?_⟩
   refine⟨_,rfl,wa,_,_,_,rfl,rfl,SqT.of hwa,rfl,n,rfl,by omega,by omega,[.ref wa],rfl,fun D hD=>?_⟩
   refine zBh (lo:=0) (n:=n.toNat) (fun q ys H1=>q<=n.toNat/\∃(rs:List Addr)(M:List (List (Option Int))),ys=rs.map V.ref/\rs.length=q/\zCP H1 rs M/\(∀x:Nat,x<q->zJj ts n x (M.getD x []))/\SmT H H1/\Tb H1 PT/\H1 D=some (.lst ys))
    ⟨zj _,[],[],rfl,rfl,⟨rfl,fun i r row h=>by simp at h⟩,fun x hx=>absurd hx (Nat.not_lt_zero _),SmT.of (zF hD),T.same (zF hD),zH⟩ (fun q ys H1 h=>?_) (fun q ys H1 hq h=>?_) (fun ys H1 h=>?_)
   . obtain⟨hq,rs,M,rfl,hl,_⟩:=h
     rw[zD,hl]
     exact zd (by omega)
   . obtain⟨_,rs,M,rfl,hl,R,L,sm,T1,hD1⟩:=h
     rw[zBW]
     refine⟨⟨rfl,rfl⟩,?_⟩
     refine zFm ?_
     refine⟨_,rfl,_,rfl,wa,n,ts,q,rfl,W.smT sm,by omega,by omega,T1,fun l kn H2 sm2 T2 hl2 L2=>?_⟩
     have hD2:H2 D=some (.lst (rs.map V.ref)):=sm2.get hD1 (by intro ps z;cases z)
     refine⟨hD2,hq,rs++[l],M++[kn],by rw[zR];rfl,by rw[zN,hl];rfl,⟨by rw[zN,zN,R.1];rfl,fun i r row h1 h2=>?_⟩,fun x hx=>?_,(sm.trans sm2).chg hD,T2.chg hD2,zH⟩
     . have key:H2 r=some (.tup (row.map oV)):=by
        by_cases hi:i<rs.length
        . rw[zu hi] at h1
          rw[zu (by rw[<-R.1];exact hi)] at h2
          exact sm2.get (R.2 i r row h1 h2) (by intro ps z;cases z)
        . rw[zo (by omega)] at h1
          rw[zo (by rw[<-R.1];omega),<-R.1] at h2
          cases hz:i-rs.length with
          | zero=>
           rw[hz] at h1 h2
           have e1:l=r:=by simpa using h1
           have e2:kn=row:=by simpa using h2
           subst e1 e2
           exact hl2
          | succ k=>rw[hz] at h1;simp at h1
       rw[zV (zAJ key hD2 (by intro z;cases z))]
       exact key
     . by_cases hx':x<q
       . rw[zE,zu (by rw[<-R.1,hl];exact hx'),<-zE]
         exact L x hx'
       . have e:x=q:=by omega
         subst e
         rw[zE,zo (by rw[<-R.1,hl];exact zM _),<-R.1,hl]
         simpa using L2
   . obtain⟨_,rs,M,rfl,hl,R,L,sm,T1,hD1⟩:=h
     refine⟨D,_,rfl,.inl ⟨SqL.of hD1,fun q hq=>?_⟩⟩
     refine k q rs M _ (sm.trans (SmT.of (zF hq))) (T1.same (zF hq)) zH (R.smT (SmT.of (zF hq))) ⟨by rw[<-R.1,hl],fun x hx hx'=>?_⟩
     have:=L x.toNat (by omega)
     rw[show ((x.toNat:Nat):Int)=x by omega] at this
     exact this
end
end K65
namespace K65
open PySem L2 WM
noncomputable def numD:PyData->Bool
 | .int _=>true
 | _=>false
noncomputable def zAM (d:PyData)(a b:Int):Bool:=match d with
 | .int i=>decide (a<=i) && decide (i<=b)
 | _=>false
noncomputable def tupD (d:PyData):Bool:=match d with
 | .tuple _=>true
 | _=>false
noncomputable def tupN (d:PyData)(n:Int):Bool:=match d with
 | .tuple ds=>decide ((ds.length:Int)=n)
 | _=>false
theorem zE8 {H:Hp}{xs:List V}{ds:List PyData}(h:zAt H xs ds):xs.length=ds.length:=by
 induction xs generalizing ds with
 | nil=>cases h;rfl
 | cons x xs ih=>
  cases h with
  | cons a b=>rw[zh,zh,ih b]
theorem zHI {H:Hp}{xs:List V}{ds:List PyData}{i:Nat}{d:PyData}(h:zAt H xs ds)(e:ds[i]? = some d):∃x,xs[i]? = some x/\zAZ H x d:=by
 induction xs generalizing ds i with
 | nil=>cases h;simp at e
 | cons x xs ih=>
  cases h with
  | cons a b=>
   cases i with
   | zero=>
    simp at e
    subst e
    exact⟨x,rfl,a⟩
   | succ i=>exact ih b (by simpa using e)
theorem zA7 {H H':Hp}(k:zAW H H'){v:V}{d:PyData}(s:zAZ H v d):zAZ H' v d:=
 zAZ.rec (motive_1:=fun v d _=>zAZ H' v d) (motive_2:=fun xs ds _=>zAt H' xs ds) .non (fun b=>.bl b) (fun i=>.int i) (fun x=>.str x) (fun e _ ih=>.tup (k _ _ e) ih) (fun e _ ih=>.lst (k _ _ e) ih) .nil (fun _ _ i1 i2=>.cons i1 i2) s
theorem zH6 {K:PySem.W.Frag}{H:Hp}{v:V}{d:PyData}(s:zAZ H v d):∃t bi bb bt:_,zFn K H v t/\PySem.W.kitOne K t (.type "int")=some bi/\PySem.W.kitOne K t (.type "bool")=some bb/\PySem.W.kitOne K t (.type "tuple")=some bt/\(bi && !bb)=numD d/\bt=tupD d/\(numD d=true->∃i,v = .int i/\d = .int i)/\(tupD d=true->∃a xs ds,v = .ref a/\H a=some (.tup xs)/\d = .tuple ds/\zAt H xs ds):=by
 cases s with
 | non=>exact⟨_,_,_,_,.non,rfl,rfl,rfl,rfl,rfl,(fun z=>by cases z),(fun z=>by cases z)⟩
 | bl b=>exact⟨_,_,_,_,.bl b,rfl,rfl,rfl,rfl,rfl,(fun z=>by cases z),(fun z=>by cases z)⟩
 | int i=>exact⟨_,_,_,_,.int i,rfl,rfl,rfl,rfl,rfl,(fun z=>⟨i,rfl,rfl⟩),(fun z=>by cases z)⟩
 | str x=>exact⟨_,_,_,_,.str x,rfl,rfl,rfl,rfl,rfl,(fun z=>by cases z),(fun z=>by cases z)⟩
 | tup e al=>exact⟨_,_,_,_,.tup e,rfl,rfl,rfl,rfl,rfl,(fun z=>by cases z),(fun z=>⟨_,_,_,rfl,e,rfl,al⟩)⟩
 | lst e al=>exact⟨_,_,_,_,.lst e,rfl,rfl,rfl,rfl,rfl,(fun z=>by cases z),(fun z=>by cases z)⟩
noncomputable def spNum:Sp:=fun vs H Q _=>∃(v:V)(d:PyData),vs=[v]/\zAZ H v d/\Q (.bl (numD d)) H
noncomputable def spWi:Sp:=fun vs H Q _=>∃(v:V)(d:PyData)(a b:Int),vs=[v,.int a,.int b]/\zAZ H v d/\Q (.bl (zAM d a b)) H
noncomputable def zKY:Sp:=fun vs H Q _=>∃(v:V)(d:PyData)(n:Int),vs=[v,.int n]/\zAZ H v d/\Q (.bl (tupN d n)) H
section
variable {P:Program}{w:World}{K:PySem.W.Frag}{mg:Str->Option Value}{base:Heap}
theorem scNum:zAA ["thing"] ["thing"] (defScope zKt):=⟨rfl,rfl,rfl,by decide +kernel,rfl,by decide +kernel,by decide +kernel⟩
theorem ok_num {f:Addr}{fd':FuncData}(F:Fun K "is_number" "is_number" zKt f fd') (mIsi:mg "isinstance" = none) (mInt:mg "int" = none) (mBool:mg "bool" = none):zy P w K mg base CX0 1 f fd' ["thing"] spNum:=by
 refine F.ok scNum (fun vs H Q E h=>?_) (fun cdv A outer s H vs Q E hr h=>?_)
 . obtain⟨v,d,rfl,_⟩:=h
   rfl
 . obtain⟨v,d,rfl,S,k⟩:=h
   obtain⟨t,bi,bb,bt,ty,e1,e2,_,e4,_⟩:=zH6 (K:=K) S
   refine⟨_,zX (zAD (zDY (zn zAn (by rfl) mIsi (by decide +kernel) (zB (pv 0) (zB (zBn (T := "int") (by rfl) mInt (by decide +kernel)) zK)))
    (zDX (pe_not (zn zAn (by rfl) mIsi (by decide +kernel) (zB (pv 0) (zB (zBn (T := "bool") (by rfl) mBool (by decide +kernel)) zK))))))),?_⟩
   refine⟨_,rfl,_,_,t,bi,rfl,ty,e1,bi,rfl,?_⟩
   rw[<-e4] at k
   cases bi with
   | false=>exact zCR k
   | true=>exact zCz ⟨_,rfl,_,_,t,bb,rfl,ty,e2,bb,rfl,k⟩
theorem scWi:zAA ["thing", "least", "most"] ["thing", "least", "most"] (defScope sWi):=⟨rfl,rfl,rfl,by decide +kernel,rfl,by decide +kernel,by decide +kernel⟩
theorem ok_wi {f fN:Addr}{fd' fdN:FuncData}(F:Fun K "is_within" "is_within" sWi f fd') (FN:Fun K "is_number" "is_number" zKt fN fdN) (bN:zt K fdN ["thing"] []) (mN:mg "is_number" = some (.ref fN)) (mIsi:mg "isinstance" = none) (mInt:mg "int" = none) (mBool:mg "bool" = none) :
 zy P w K mg base CX0 2 f fd' ["thing", "least", "most"] spWi:=by
 have GN:zy P w K mg base CX0 1 fN fdN ["thing"] spNum:=ok_num FN mIsi mInt mBool
 refine F.ok scWi (fun vs H Q E h=>?_) (fun cdv A outer s H vs Q E hr h=>?_)
 . obtain⟨v,d,a,b,rfl,_⟩:=h
   rfl
 . obtain⟨v,d,a,b,rfl,S,k⟩:=h
   refine⟨_,zX (zAD (zDY (zg GN hr rfl mN FN.kp bN .nil zAI (zB (pv 0) zK)) (zDY (zBr zLB (pv 1) (pv 0) (zAN _)) (zDX (zBr zLB (pv 0) (pv 2) (zAN _)))))),?_⟩
   refine⟨_,rfl,v,d,rfl,S,numD d,rfl,?_⟩
   obtain⟨_,_,_,_,_,_,_,_,_,_,hi,_⟩:=zH6 (K:=K) S
   cases hn:numD d with
   | false=>
    refine zCR ?_
    have:zAM d a b=false:=by
     cases d <;> first | rfl | cases hn
    rw[this] at k
    exact k
   | true=>
    refine zCz ?_
    obtain⟨i,rfl,rfl⟩:=hi hn
    have k':Q (.bl (decide (a<=i) && decide (i<=b))) H:=k
    refine⟨_,rfl,_,rfl,_,_,rfl,rfl,_,rfl,?_⟩
    by_cases c:a<=i
    . rw[zZ c,Bool.true_and] at k'
      exact ifT (zZ c) ⟨_,rfl,_,rfl,_,_,rfl,rfl,k'⟩
    . rw[zb c,Bool.false_and] at k'
      exact ifF (zb c) k'
theorem scTof:zAA ["thing", "count"] ["thing", "count"] (defScope sTof):=⟨rfl,rfl,rfl,by decide +kernel,rfl,by decide +kernel,by decide +kernel⟩
theorem ok_tof {f:Addr}{fd':FuncData}(F:Fun K "is_tuple_of" "is_tuple_of" sTof f fd') (mIsi:mg "isinstance" = none) (mTuple:mg "tuple" = none) (mLen:mg "len" = none):zy P w K mg base CX0 1 f fd' ["thing", "count"] zKY:=by
 refine F.ok scTof (fun vs H Q E h=>?_) (fun cdv A outer s H vs Q E hr h=>?_)
 . obtain⟨v,d,n,rfl,_⟩:=h
   rfl
 . obtain⟨v,d,n,rfl,S,k⟩:=h
   obtain⟨t,bi,bb,bt,ty,_,_,e3,_,e5,_,ht⟩:=zH6 (K:=K) S
   refine⟨_,zX (zAD (zDY (zn zAn (by rfl) mIsi (by decide +kernel) (zB (pv 0) (zB (zBn (T := "tuple") (by rfl) mTuple (by decide +kernel)) zK)))
    (zDX (zBr zCD (zn zAS (by rfl) mLen PySem.boot_len (zB (pv 0) zK)) (pv 1) (zAN _))))),?_⟩
   refine⟨_,rfl,_,_,t,bt,rfl,ty,e3,bt,rfl,?_⟩
   rw[e5]
   cases hn:tupD d with
   | false=>
    refine zCR ?_
    have:tupN d n=false:=by
     cases d <;> first | rfl | cases hn
    rw[this] at k
    exact k
   | true=>
    refine zCz ?_
    obtain⟨a,xs,ds,rfl,ha,rfl,al⟩:=ht hn
    refine⟨_,rfl,a,xs,rfl,.inr (SqT.of ha),_,rfl,rfl,?_⟩
    rw[zDQ,zE8 al]
    exact k
end
structure zGB (n:Int)(os:List Int):Prop where
 ln:os.length=n.toNat
 nd:os.Nodup
 rng:∀p∈os,0<=p/\p<n
noncomputable def zIe (n:Int)(d:PyData):Prop:=∃os:List Int,d = .tuple (os.map PyData.int)/\zGB n os
noncomputable def zKZ:Sp:=fun vs H Q _=>∃(wa p:Addr)(n:Int)(ts:List T3)(os:List Int),vs=[.ref wa,.ref p]/\zAe H wa n ts/\H p=some (.tup (os.map V.int))/\zGB n os/\∀H',zAW H H'->Q (.bl true) H'
noncomputable def zGH:Sp:=fun vs H Q _=>∃(wa:Addr)(v:V)(d:PyData)(n:Int)(ts:List T3),vs=[.ref wa,v]/\zAe H wa n ts/\zAZ H v d/\∀(b:Bool) H',(b=true↔zIe n d)->zAW H H'->Q (.bl b) H'
noncomputable def spPl:Sp:=fun vs H Q _=>∃(n:Int)(v:V)(d:PyData),vs=[.int n,v]/\zAZ H v d/\Q (.bl (zAM d 0 (n-1))) H
theorem zEB {d:PyData}{a b:Int}(h:zAM d a b=true):∃i,d = .int i/\a<=i/\i<=b:=by
 cases d with
 | int i=>
  have h':(decide (a<=i) && decide (i<=b))=true:=h
  rw[zBH,decide_eq_true_iff,decide_eq_true_iff] at h'
  exact⟨i,rfl,h'.1,h'.2⟩
 | _=>cases h
theorem zH9 {n:Int}:∀{ds:List PyData},(ds.all fun d=>zAM d 0 (n-1))=true->∃os:List Int,ds=os.map PyData.int/\∀p∈os,0<=p/\p<n
 | [],_=>⟨[],rfl,fun p h=>by cases h⟩
 | d::ds,h=>by
  rw[List.all_cons,zBH] at h
  obtain⟨i,rfl,h0,h1⟩:=zEB h.1
  obtain⟨os,rfl,hr⟩:=zH9 h.2
  refine⟨i::os,rfl,fun p hp=>?_⟩
  rcases za.mp hp with rfl | hp
  . exact⟨h0,by omega⟩
  . exact hr p hp
theorem zGf {n:Int}:∀{os:List Int},(∀p∈os,0<=p/\p<n)->((os.map PyData.int).all fun d=>zAM d 0 (n-1))=true
 | [],_=>rfl
 | i::os,h=>by
  rw[zv,List.all_cons,zBH]
  have:=h i ze
  refine⟨?_,zGf fun p hp=>h p (zf _ hp)⟩
  show (decide (0<=i) && decide (i<=n-1))=true
  rw[zBH,decide_eq_true_iff,decide_eq_true_iff]
  omega
theorem zF4:∀{a b:List Int},a.map PyData.int=b.map PyData.int->a=b
 | [],[],_=>rfl
 | [],_::_,h=>by cases h
 | _::_,[],h=>by cases h
 | x::a,y::b,h=>by
  rw[zv,zv] at h
  injection h with h1 h2
  injection h1 with h1
  rw[h1,zF4 h2]
theorem zJz {H:Hp}:∀{xs:List V}{os:List Int},zAt H xs (os.map PyData.int)->xs=os.map V.int
 | [],[],_=>rfl
 | [],_::_,h=>by cases h
 | _::_,[],h=>by cases h
 | x::xs,o::os,h=>by
  cases h with
  | cons a b=>
   cases a
   rw[zJz b]
   rfl
theorem zCp {val:Nat->Int}:∀{k:Nat},(PyProof.Rows.firstMet val k).length=k->((List.range k).map val).Nodup/\PyProof.Rows.firstMet val k=(List.range k).map val
 | 0,_=>⟨by simp,rfl⟩
 | k+1,h=>by
  rw[PyProof.Rows.firstMet_succ] at h ⊢
  have hl:=PyProof.Rows.firstMet_length_le val k
  unfold PyProof.Rows.step_dedup at h ⊢
  by_cases c:((PyProof.Rows.firstMet val k).any fun x=>x==val k)=true
  . rw[if_pos c] at h
    omega
  . rw[if_neg c] at h ⊢
    rw[zN] at h
    obtain⟨h1,h2⟩:=zCp (val:=val) (k:=k) (by simpa using h)
    rw[List.range_succ,zR]
    refine⟨?_,by rw[h2];rfl⟩
    rw[h2] at c
    refine List.nodup_append.mpr ⟨h1,by simp,fun a ha b hb=>?_⟩
    have eb:b=val k:=by simpa using hb
    rw[eb]
    rintro rfl
    exact c (by simpa using ha)
theorem zJR (os:List Int):(List.range os.length).map (fun i=>os.getD i 0)=os:=by
 apply List.ext_getElem
 . simp
 . intro i h1 h2
   simp[zE,h2]
section
variable {P:Program}{w:World}{K:PySem.W.Frag}{mg:Str->Option Value}{base:Heap}
theorem scPl:zAA ["n", "thing"] ["n", "thing"] (defScope sPl):=⟨rfl,rfl,rfl,by decide +kernel,rfl,by decide +kernel,by decide +kernel⟩
theorem ok_pl {f fW fN:Addr}{fd' fdW fdN:FuncData}(F:Fun K "is_place" "is_place" sPl f fd') (FW:Fun K "is_within" "is_within" sWi fW fdW) (bW:zt K fdW ["thing", "least", "most"] []) (mW:mg "is_within" = some (.ref fW)) (FN:Fun K "is_number" "is_number" zKt fN fdN) (bN:zt K fdN ["thing"] []) (mN:mg "is_number" = some (.ref fN)) (mIsi:mg "isinstance" = none) (mInt:mg "int" = none) (mBool:mg "bool" = none) :
 zy P w K mg base CX0 3 f fd' ["n", "thing"] spPl:=by
 have GW':zy P w K mg base CX0 2 fW fdW ["thing", "least", "most"] spWi:=ok_wi FW FN bN mN mIsi mInt mBool
 refine F.ok scPl (fun vs H Q E h=>?_) (fun cdv A outer s H vs Q E hr h=>?_)
 . obtain⟨n,v,d,rfl,_⟩:=h
   rfl
 . obtain⟨n,v,d,rfl,S,k⟩:=h
   refine⟨_,zX (zAD (zg GW' hr rfl mW FW.kp bW .nil zAI (zB (pv 1) (zB zY (zB (zAc zHe (pv 0) zY) zK))))),?_⟩
   exact⟨_,rfl,_,rfl,_,_,rfl,rfl,v,d,0,n-1,rfl,S,k⟩
theorem scOrd:zAA ["web", "thing", "n"] ["web", "thing"] (defScope sOrd):=⟨rfl,rfl,rfl,by decide +kernel,rfl,by decide +kernel,by decide +kernel⟩
theorem zLK {f fT fP:Addr}{fd' fdT fdP:FuncData}(F:Fun K "is_order" "is_order" sOrd f fd') (FT:Fun K "is_tuple_of" "is_tuple_of" sTof fT fdT) (bT:zt K fdT ["thing", "count"] []) (mT:mg "is_tuple_of" = some (.ref fT)) (GT:zy P w K mg base CX0 3 fT fdT ["thing", "count"] zKY)
 (FP:Fun K "is_place" "is_place" sPl fP fdP) (bP:zt K fdP ["n", "thing"] []) (mP:mg "is_place" = some (.ref fP)) (GP:zy P w K mg base CX0 3 fP fdP ["n", "thing"] spPl)
 (mLen:mg "len" = none) (mAll:mg "all" = none) (mSet:mg "set" = none):zy P w K mg base CX0 4 f fd' ["web", "thing"] zGH:=by
 refine F.ok scOrd (fun vs H Q E h=>?_) (fun cdv A outer s H vs Q E hr h=>?_)
 . obtain⟨wa,v,d,n,ts,rfl,_⟩:=h
   rfl
 . obtain⟨wa,v,d,n,ts,rfl,W,S,k⟩:=h
   obtain⟨ta,tys,hwa,_,_,G⟩:=id W
   have hn1:=G.n1
   have hn24:=G.n24
   refine⟨_,zO (zAK (i:=2) scOrd.nd rfl (Or.inr rfl) (zAC zAR (pv 0) zY (fun _ _=>rfl)))
    (zO (zBK (PW.pt (zFD (zBu (zBd (zg GT hr rfl mT FT.kp bT .nil zAI (zB (pv 1) (zB (pv 2) zK)))))
     (zEJ (zBu (zBd (zn (zGd rfl) (by rfl) mAll (by decide +kernel) (zB (zBS (own:=["place"]) (cn:=["n"]) (ci:=[2]) rfl (csc rfl rfl) ⟨rfl,rfl,rfl,trivial⟩ rfl (zDB (pv 1)) (fun _ _ _ _=>zz (i:=0) (zBv rfl) rfl (Or.inl rfl))
      (fun _ _ _ _=>zBZ) (fun _ _ _ _=>zg GP hr rfl mP FP.kp bP .nil zAI (zB (pv 1) (zB (pv 0) zK)))) zK))))))) (zX (zAD zCC)) zAO)
    (zX (zAD (zBr zCD (zn zIV (by rfl) mLen PySem.boot_len (zB (zAd (zIU rfl) (by rfl) mSet (by decide +kernel) (zB (pv 1) zK)) zK)) (pv 2) (zAN _))))),?_⟩
   refine⟨_,rfl,wa,_,_,_,rfl,rfl,SqT.of hwa,rfl,?_⟩
   refine⟨_,rfl,_,rfl,v,d,n,rfl,S,tupN d n,rfl,?_⟩
   cases hn:tupN d n with
   | false=>
    refine zCz (zCz ?_)
    refine k false H ⟨(fun z=>by cases z),?_⟩ (zAW.refl _)
    rintro ⟨os,rfl,O⟩
    have hn':decide (((os.map PyData.int).length:Int)=n)=false:=hn
    rw[zD,O.ln] at hn'
    exact absurd (of_decide_eq_false hn') (by omega)
   | true=>
    refine zCR ?_
    obtain⟨ds,rfl,hl⟩:∃ds,d = .tuple ds/\(ds.length:Int)=n:=by
     cases d with
     | tuple ds=>
      have hn':decide ((ds.length:Int)=n)=true:=hn
      exact⟨ds,rfl,of_decide_eq_true hn'⟩
     | _=>cases hn
    cases S with
    | @tup a xs _ ha al=>
     have hxl:=zE8 al
     refine⟨_,rfl,a,rfl,⟨_,SqT.of ha⟩,[.int n],rfl,fun D hD=>?_⟩
     refine zB8 (a:=a) (xs:=xs) (fun i ys H4=>ys=((ds.take i).map fun x=>zAM x 0 (n-1)).map V.bl/\H4=upd H D (.lst ys)) ⟨rfl,rfl⟩ (fun i ys H4 z=>?_) (fun i ys H4 z=>?_) (fun i x ys H4 hx z=>?_) (fun ys H4 z=>?_)
     . obtain⟨_,rfl⟩:=z
       exact SqT.of (zF hD _ _ ha)
     . obtain⟨rfl,_⟩:=z
       rw[zD,zD,zAF]
       exact zd (by omega)
     . obtain⟨rfl,rfl⟩:=z
       have hi:i<ds.length:=by have:=(zL.mp hx).1;omega
       obtain⟨x',hx',Sx⟩:=zHI al (zC hi)
       rw[hx] at hx'
       cases hx'
       refine⟨⟨rfl,rfl⟩,?_⟩
       refine zFm ?_
       refine⟨_,rfl,_,rfl,n,x,ds[i],rfl,zA7 (zF hD) Sx,zH,?_,zBm⟩
       rw[zAL,zC hi,zR,zR];rfl
     . obtain⟨rfl,rfl⟩:=z
       rw[hxl,zm (zM _)]
       refine⟨D,_,rfl,SqL.of zH,(ds.map fun x=>zAM x 0 (n-1)).all id,rfl,?_⟩
       have ea:(ds.map fun x=>zAM x 0 (n-1)).all id=ds.all fun x=>zAM x 0 (n-1):=by rw[List.all_map];rfl
       rw[ea]
       have sD:=zF (o:=.lst ((ds.map fun x=>zAM x 0 (n-1)).map V.bl)) hD
       generalize upd H D (.lst ((ds.map fun x=>zAM x 0 (n-1)).map V.bl))=H4 at sD ⊢
       cases hall:(ds.all fun x=>zAM x 0 (n-1)) with
       | false=>
        refine zCz (k false _ ⟨(fun z=>by cases z),?_⟩ sD)
        rintro ⟨os,e,O⟩
        cases e
        rw[zGf O.rng] at hall
        cases hall
       | true=>
        refine zCR ?_
        obtain⟨os,rfl,hr'⟩:=zH9 hall
        have hxs:=zJz al
        subst hxs
        rw[zD] at hl
        refine⟨_,rfl,a,os,rfl,SqT.of (sD _ _ ha),by omega,fun dd SS hdd=>?_⟩
        refine⟨dd,SS,_,rfl,zH,_,rfl,rfl,?_⟩
        refine k _ _ ?_ (sD.trans (zF hdd))
        rw[zDQ,decide_eq_true_iff]
        constructor
        . intro z
          obtain⟨nd,_⟩:=zCp (val:=fun i=>os.getD i 0) (k:=os.length) (by omega)
          rw[zJR] at nd
          exact⟨os,rfl,by omega,nd,hr'⟩
        . rintro ⟨os',e,O⟩
          have e':=zF4 (PyData.tuple.inj e)
          subst e'
          rw[zDl O.nd os.length (zM _),zm (zM _)]
          exact hl
theorem zHn {k:Nat}{f:Addr}{fd':FuncData}(F:zy P w K mg base CX0 k f fd' ["web", "thing"] zGH):zy P w K mg base CX0 k f fd' ["web", "thing"] zKZ:=F.imp fun vs H Q E h=>by
 obtain⟨wa,p,n,ts,os,rfl,W,hp,O,k⟩:=h
 have al:∀os:List Int,zAt H (os.map V.int) (os.map PyData.int):=fun os=>by
  induction os with
  | nil=>exact .nil
  | cons a r ih=>exact .cons (.int a) ih
 refine⟨wa,.ref p,.tuple (os.map PyData.int),n,ts,rfl,W,.tup hp (al os),fun b H' hb s=>?_⟩
 rw[hb.mpr ⟨os,rfl,O⟩]
 exact k H' s
end
end K65
namespace K65
open PySem L2 WM
noncomputable def eV (e:En):List V:=[.int e.h,.int e.l,oV e.u,oV e.d]
noncomputable def zD9 (H:Hp)(as:List Addr)(es:List En):Prop:=as.length=es.length/\∀(i:Nat)(a:Addr),as[i]? = some a->∃e,es[i]? = some e/\H a=some (.tup (eV e))
noncomputable def zDM (H:Hp)(p:Addr)(es:List En):Prop:=∃as:List Addr,H p=some (.tup (as.map V.ref))/\zD9 H as es/\es.length<=1000
theorem zD9.keep {H H':Hp}{as:List Addr}{es:List En}(h:zD9 H as es)(k:∀b ys,H b=some (.tup ys)->H' b=some (.tup ys)):zD9 H' as es:=
 ⟨h.1,fun i a ha=>let ⟨e,h1,h2⟩:=h.2 i a ha;⟨e,h1,k _ _ h2⟩⟩
theorem zD9.snoc {H:Hp}{as:List Addr}{es:List En}{a:Addr}{e:En}(h:zD9 H as es)(ha:H a=some (.tup (eV e))):zD9 H (as++[a]) (es++[e]):=by
 refine⟨by rw[zN,zN,h.1];rfl,fun i b hb=>?_⟩
 by_cases c:i<as.length
 . rw[zu c] at hb
   obtain⟨e',h1,h2⟩:=h.2 i b hb
   exact⟨e',by rw[zu (by rw[<-h.1];exact c)];exact h1,h2⟩
 . rw[zo (by omega)] at hb
   have hi:i-as.length=0:=by
    cases z:i-as.length with
    | zero=>rfl
    | succ m=>rw[z] at hb;simp at hb
   rw[hi] at hb
   have:a=b:=by simpa using hb
   subst this
   exact⟨e,by rw[zo (by rw[<-h.1];omega),<-h.1,hi];rfl,ha⟩
theorem zDM.keep {H H':Hp}{p:Addr}{es:List En}(h:zDM H p es)(k:∀b ys,H b=some (.tup ys)->H' b=some (.tup ys)):zDM H' p es:=
 let ⟨as,h1,h2,h3⟩:=h;⟨as,k _ _ h1,h2.keep k,h3⟩
theorem zDM.same {H H':Hp}{p:Addr}{es:List En}(h:zDM H p es)(k:zAW H H'):zDM H' p es:=h.keep fun b ys e=>k _ _ e
theorem zD9.at {H:Hp}{as:List Addr}{es:List En}(h:zD9 H as es){i:Nat}{v:V}(hv:(as.map V.ref)[i]? = some v):∃a e,v = .ref a/\es[i]? = some e/\H a=some (.tup (eV e)):=by
 rw[zU] at hv
 cases z:as[i]? with
 | none=>rw[z] at hv;cases hv
 | some a=>
  rw[z] at hv
  obtain⟨e,h1,h2⟩:=h.2 i a z
  exact⟨a,e,(zQ hv).symm,h1,h2⟩
noncomputable def rkf (rks:List Int)(p:Int):Int:=rks.getD p.toNat 0
noncomputable def zFi (ts:List T3)(rk:Int->Int)(h v:Int):Prop:=(∃d,WM.IsD ts h v d)/\∀p,Btw ts h v p->rk h<=rk p
noncomputable def zIc (P:Int->Prop):Option Int->Prop
 | none=>∀p,¬ P p
 | some m=>P m/\∀p,P p->m<=p
theorem zIc.congr {P P':Int->Prop}(e:∀p,P p↔P' p):∀{o:Option Int},zIc P o->zIc P' o
 | none,h=>fun p z=>h p ((e p).mpr z)
 | some _,h=>⟨(e _).mp h.1,fun p z=>h.2 p ((e p).mpr z)⟩
structure zG0 (ts:List T3)(n:Int)(rk:Int->Int)(v:Int)(e:En):Prop where
 rng:0<=e.h/\e.h<n
 hub:zFi ts rk e.h v
 len:WM.IsD ts v e.h e.l
 up:zIc (Nxt ts v e.h) e.u
 dn:zIc (Nxt ts e.h v) e.d
structure zEv (ts:List T3)(n:Int)(rk:Int->Int)(v:Int)(es:List En):Prop where
 hub:Hub es
 ent:∀e∈es,zG0 ts n rk v e
 all:∀h,0<=h->h<n->zFi ts rk h v->∃e∈es,e.h=h
 len:es.length<=24
theorem zFi.congr {ts:List T3}{n:Int}{rk rk':Int->Int}{h v:Int}(G:GW n ts)(e:∀p,0<=p->p<n->rk p=rk' p)(h0:0<=h)(h1:h<n)(x:zFi ts rk h v):zFi ts rk' h v:=by
 refine⟨x.1,fun p hp=>?_⟩
 obtain⟨a,b,ia,_⟩:=id hp
 have:=ia.1.in_ G h0 h1
 rw[<-e h h0 h1,<-e p this.1 this.2]
 exact x.2 p hp
theorem zEv.congr {ts:List T3}{n:Int}{rk rk':Int->Int}{v:Int}{es:List En}(G:GW n ts)(e:∀p,0<=p->p<n->rk p=rk' p)(x:zEv ts n rk v es):zEv ts n rk' v es:=
 ⟨x.hub,fun a ha=>let y:=x.ent a ha;⟨y.rng,y.hub.congr G e y.rng.1 y.rng.2,y.len,y.up,y.dn⟩,fun h h0 h1 z=>x.all h h0 h1 (z.congr G (fun p a b=>(e p a b).symm) h0 h1),x.len⟩
noncomputable def zCV (H:Hp)(l:Addr)(ess:List (List En)):Prop:=∃as:List Addr,H l=some (.tup (as.map V.ref))/\as.length=ess.length/\∀(i:Nat)(a:Addr),as[i]? = some a->∃es,ess[i]? = some es/\zDM H a es
theorem zCV.keep {H H':Hp}{l:Addr}{ess:List (List En)}(h:zCV H l ess)(k:∀b ys,H b=some (.tup ys)->H' b=some (.tup ys)):zCV H' l ess:=
 let ⟨as,h1,h2,h3⟩:=h;⟨as,k _ _ h1,h2,fun i a ha=>let ⟨es,e1,e2⟩:=h3 i a ha;⟨es,e1,e2.keep k⟩⟩
theorem zCP.at {H:Hp}{rs:List Addr}{M:List (List (Option Int))}{ts:List T3}{n x:Int}(RA:zCP H rs M)(RR:Rows ts n M)(h0:0<=x)(h1:x<n) :
 ∃r,(rs.map V.ref)[x.toNat]? = some (.ref r)/\H r=some (.tup ((M.getD x.toNat []).map oV))/\zJj ts n x (M.getD x.toNat []):=by
 have hM:x.toNat<M.length:=by rw[RR.1];omega
 have hr:x.toNat<rs.length:=by rw[RA.1];exact hM
 have e:M[x.toNat]? = some (M.getD x.toNat []):=by rw[zE,zC hM];rfl
 exact⟨rs[x.toNat],by rw[zU,zC hr];rfl,RA.2 _ _ _ (zC hr) e,RR.2 x h0 h1⟩
theorem zCP.same {H H':Hp}{rs:List Addr}{M:List (List (Option Int))}(h:zCP H rs M)(k:zAW H H'):zCP H' rs M:=⟨h.1,fun i r row a b=>k _ _ (h.2 i r row a b)⟩
theorem zHs {K:PySem.W.Frag}{H:Hp}{p:Addr}{xs:List Int}{Q:VK}(hp:SqT K H p (xs.map V.int))(h:∀u,zIc (· ∈ xs) u->Q (oV u) H):rMinD K (.ref p) .non H Q:=by
 refine⟨p,_,rfl,.inr hp,fun e=>?_,.inr ⟨xs,rfl,fun n hn hm=>h (some n) ⟨hn,hm⟩⟩⟩
 have:xs=[]:=by simpa using e
 exact h none fun q hq=>by rw[this] at hq;simp at hq
structure zId (H:Hp)(rl ra:Addr)(rs:List Addr)(M:List (List (Option Int)))(rks:List Int)(n:Int)(ts:List T3):Prop where
 tab:H rl=some (.tup (rs.map V.ref))
 rows:zCP H rs M
 right:Rows ts n M
 rk:H ra=some (.lst (rks.map V.int))
 rln:rks.length=n.toNat
 web:GW n ts
theorem zId.same {H H':Hp}{rl ra:Addr}{rs:List Addr}{M:List (List (Option Int))}{rks:List Int}{n:Int}{ts:List T3}(L:zId H rl ra rs M rks n ts)(k:zAW H H'):zId H' rl ra rs M rks n ts:=⟨k _ _ L.tab,L.rows.same k,L.right,k _ _ L.rk,L.rln,L.web⟩
theorem zId.rank {H:Hp}{rl ra:Addr}{rs:List Addr}{M:List (List (Option Int))}{rks:List Int}{n:Int}{ts:List T3}(L:zId H rl ra rs M rks n ts){x:Int}(h0:0<=x)(h1:x<n):(rks.map V.int)[x.toNat]? = some (.int (rkf rks x)):=by
 have:x.toNat<rks.length:=by rw[L.rln];omega
 rw[zU,zC this]
 unfold rkf
 rw[zE,zC this]
 rfl
noncomputable def zKe:Sp:=fun vs H Q _=>∃(rl ra:Addr)(rs:List Addr)(M:List (List (Option Int)))(rks:List Int)(n:Int)(ts:List T3)(h v:Int),vs=[.ref rl,.ref ra,.int h,.int v]/\zId H rl ra rs M rks n ts/\0<=h/\h<n/\0<=v/\v<n /\
 ∀(b:Bool)(H':Hp),zAW H H'->(b=true↔zFi ts (rkf rks) h v)->Q (.bl b) H'
noncomputable def zKg:Sp:=fun vs H Q _=>∃(wa rl ra:Addr)(rs:List Addr)(M:List (List (Option Int)))(rks:List Int)(n:Int)(ts:List T3)(v h:Int),vs=[.ref wa,.ref rl,.int v,.int h]/\zAe H wa n ts/\zId H rl ra rs M rks n ts/\0<=h/\h<n/\0<=v/\v<n/\zFi ts (rkf rks) h v /\
 ∀(a:Addr)(e:En)(H':Hp),zAW H H'->H' a=some (.tup (eV e))->e.h=h->zG0 ts n (rkf rks) v e->Q (.ref a) H'
noncomputable def zKa:Sp:=fun vs H Q _=>∃(wa rl ra:Addr)(rs:List Addr)(M:List (List (Option Int)))(rks:List Int)(n:Int)(ts:List T3)(v:Int),vs=[.ref wa,.ref rl,.ref ra,.int v]/\zAe H wa n ts/\zId H rl ra rs M rks n ts/\0<=v/\v<n /\
 ∀(a:Addr)(es:List En)(H':Hp),zAW H H'->zDM H' a es->zEv ts n (rkf rks) v es->Q (.ref a) H'
section
variable {P:Program}{w:World}{K:PySem.W.Frag}{mg:Str->Option Value}{base:Heap}
theorem scIsh:zAA ["rows", "ranks", "hub", "place"] ["rows", "ranks", "hub", "place"] (defScope sIsh):=⟨rfl,rfl,rfl,by decide +kernel,rfl,by decide +kernel,by decide +kernel⟩
theorem ok_ish {f fB:Addr}{fd' fdB:FuncData}(F:Fun K "is_hub" "is_hub" sIsh f fd') (FB:Fun K "between_rows" "between_rows" sBwr fB fdB) (bB:zt K fdB ["here", "there", "other"] []) (mB:mg "between_rows" = some (.ref fB)) (mRange:mg "range" = none) (mTuple:mg "tuple" = none) (mLen:mg "len" = none) (mAll:mg "all" = none) :
 zy P w K mg base CX0 2 f fd' ["rows", "ranks", "hub", "place"] zKe:=by
 have GB:zy P w K mg base CX0 1 fB fdB ["here", "there", "other"] spBwr:=ok_bwr FB mRange mTuple mLen
 refine F.ok scIsh (fun vs H Q E h=>?_) (fun cdv A outer s H vs Q E hr h=>?_)
 . obtain⟨rl,ra,rs,M,rks,n,ts,h,v,rfl,_⟩:=h
   rfl
 . obtain⟨rl,ra,rs,M,rks,n,ts,h,v,rfl,L,h0,h1,v0,v1,k⟩:=h
   have G:=L.web
   have hn24:=G.n24
   refine⟨_,zO (zBK (zAG zCT (zAC zAR (zAC zAR (pv 0) (pv 2) (fun _ _=>rfl)) (pv 3) (fun _ _=>rfl)) zBX (zAN _)) (zX (zAD zCC)) zAO)
    (zX (zAD (zn (zGd rfl) (by rfl) mAll (by decide +kernel) (zB (zBS (own:=["other"]) (cn:=["ranks", "hub"]) (ci:=[1,2]) rfl (csc rfl rfl) ⟨rfl,rfl,rfl,rfl,rfl,rfl,trivial⟩ rfl
     (zDB (zg GB hr rfl mB FB.kp bB .nil zAI (zB (zAC zAR (pv 0) (pv 2) (fun _ _=>rfl)) (zB (zAC zAR (pv 0) (pv 3) (fun _ _=>rfl)) (zB (pv 3) zK))))) (fun _ _ _ _=>zz (i:=0) (zBv rfl) rfl (Or.inl rfl))
     (fun _ _ _ _=>zBZ) (fun _ _ _ _=>zBr zLB (zAC zEq (pv 1) (pv 2) (fun _ _=>rfl)) (zAC zEq (pv 1) (pv 0) (fun _ _=>rfl)) (zAN _))) zK)))),?_⟩
   obtain⟨rh,gh,hh,Lh⟩:=L.rows.at L.right h0 h1
   obtain⟨rv,gv,hv,Lv⟩:=L.rows.at L.right v0 v1
   have lhv:=Lh.len v v0 v1
   refine⟨_,rfl,_,rfl,rl,_,_,.ref rh,rfl,rfl,SqT.of L.tab,zBf h0 gh,_,rfl,rh,_,_,oV (fnl (M.getD h.toNat []) v),rfl,rfl,SqT.of hh,zBf v0 (zBt Lh v0 v1),rfl,_,rfl,?_⟩
   rw[zEM]
   cases ed:fnl (M.getD h.toNat []) v with
   | none=>
    rw[ed] at lhv
    refine zCz ?_
    exact k false H (zAW.refl _) ⟨(fun z=>by cases z),(fun z=>by obtain⟨d,hd⟩:=z.1;exact absurd hd.1 (lhv d))⟩
   | some d=>
    rw[ed] at lhv
    refine zCR ?_
    refine⟨_,rfl,_,rfl,rl,_,_,.ref rh,rfl,rfl,SqT.of L.tab,zBf h0 gh,_,rfl,_,rfl,rl,_,_,.ref rv,rfl,rfl,SqT.of L.tab,zBf v0 gv,_,rfl,rh,rv,n,ts,h,v,_,_,rfl,G,h0,h1,v0,v1,hh,hv,Lh,Lv,fun l xs H1 s1 hl hrise hmem=>?_⟩
    have hxr:∀p∈xs,0<=p/\p<n:=fun p hp=>by
     obtain⟨a,b,ia,_⟩:=(hmem p).mp hp
     exact ia.1.in_ G h0 h1
    have hxl:xs.length<=24:=by
     have:=nd_len (n:=n.toNat) (l:=xs) (hrise.imp fun z=>by omega) fun x hx=>by have:=hxr x hx;omega
     omega
    refine⟨l,rfl,⟨_,SqT.of hl⟩,[.ref ra,.int h],rfl,fun D hD=>?_⟩
    have hra:=s1 _ _ L.rk
    refine zB8 (a:=l) (xs:=xs.map V.int) (fun i ys H4=>ys=((xs.take i).map fun p=>decide (rkf rks h<=rkf rks p)).map V.bl/\H4=upd H1 D (.lst ys)) ⟨rfl,rfl⟩ (fun i ys H4 z=>?_) (fun i ys H4 z=>?_) (fun i x ys H4 hx z=>?_) (fun ys H4 z=>?_)
    . obtain⟨_,rfl⟩:=z
      exact SqT.of (by rw[zV (zc hl hD)];exact hl)
    . obtain⟨rfl,_⟩:=z
      rw[zD,zD,zAF]
      exact zd (by omega)
    . obtain⟨rfl,rfl⟩:=z
      obtain⟨p,hp,rfl⟩:∃p,xs[i]? = some p/\V.int p=x:=by
       rw[zU] at hx
       cases e:xs[i]? with
       | none=>rw[e] at hx;cases hx
       | some p=>rw[e] at hx;exact⟨p,rfl,zQ hx⟩
      have hpr:=hxr p (zl hp)
      have hra4:=zF (o:=.lst (((xs.take i).map fun p=>decide (rkf rks h<=rkf rks p)).map V.bl)) hD _ _ hra
      refine⟨⟨rfl,rfl⟩,?_⟩
      refine zFm ?_
      refine⟨_,rfl,_,rfl,ra,_,_,.int (rkf rks h),rfl,rfl,SqL.of hra4,zBf h0 (L.rank h0 h1),_,rfl,_,rfl,ra,_,_,.int (rkf rks p),rfl,rfl,SqL.of hra4,zBf hpr.1 (L.rank hpr.1 hpr.2),_,_,rfl,rfl,zH,?_,zBm⟩
      rw[zAL,hp,zR,zR];rfl
    . obtain⟨rfl,rfl⟩:=z
      rw[zD,zm (zM _)]
      refine⟨D,_,rfl,SqL.of zH,?_⟩
      refine k _ _ (s1.trans (zF hD)) ⟨fun z=>⟨⟨d,lhv⟩,fun p hp=>?_⟩,fun z=>zBl.mpr fun b hb=>?_⟩
      . have:=zBl.mp z _ (zAB.mpr ⟨p,(hmem p).mpr hp,rfl⟩)
        exact of_decide_eq_true this
      . obtain⟨p,hp,rfl⟩:=zAB.mp hb
        exact zZ (z.2 p ((hmem p).mp hp))
theorem zKs:zAA ["web", "rows", "place", "hub", "up", "down"] ["web", "rows", "place", "hub"] (defScope sEbr):=⟨rfl,rfl,rfl,by decide +kernel,rfl,by decide +kernel,by decide +kernel⟩
theorem ok_ebr {f fN fT:Addr}{fd' fdN fdT:FuncData}(F:Fun K "entry_by_rows" "entry_by_rows" sEbr f fd') (FN:Fun K "next_by_row" "next_by_row" sNbr fN fdN) (bN:zt K fdN ["web", "one", "there"] []) (mN:mg "next_by_row" = some (.ref fN))
 (FT:Fun K "ties_at" "ties_at" zFB fT fdT) (bT:zt K fdT ["web", "place"] []) (mT:mg "ties_at" = some (.ref fT)) (mSorted:mg "sorted" = none) (mTuple:mg "tuple" = none) (mMin:mg "min" = none):zy P w K mg base CX0 4 f fd' ["web", "rows", "place", "hub"] zKg:=by
 have GN:zy P w K mg base CX0 3 fN fdN ["web", "one", "there"] spNbr:=ok_nbr FN FT bT mT mSorted mTuple
 refine F.ok zKs (fun vs H Q E h=>?_) (fun cdv A outer s H vs Q E hr h=>?_)
 . obtain⟨wa,rl,ra,rs,M,rks,n,ts,v,h,rfl,_⟩:=h
   rfl
 . obtain⟨wa,rl,ra,rs,M,rks,n,ts,v,h,rfl,W,L,h0,h1,v0,v1,hh,k⟩:=h
   have hu:=zLc hr
   refine⟨_,zO (zAK (i:=4) zKs.nd rfl (Or.inl rfl) (zHZ rfl hu (by rfl) mMin (zB (zg GN hr rfl mN FN.kp bN .nil zAI (zB (pv 0) (zB (pv 2) (zB (zAC zAR (pv 1) (pv 3) (fun _ _=>rfl)) zK)))) zK) zBX))
    (zO (zAK (i:=5) zKs.nd rfl (Or.inl rfl) (zHZ rfl hu (by rfl) mMin (zB (zg GN hr rfl mN FN.kp bN .nil zAI (zB (pv 0) (zB (pv 3) (zB (zAC zAR (pv 1) (pv 2) (fun _ _=>rfl)) zK)))) zK) zBX))
    (zX (zAD (zAY (zB (pv 3) (zB (zAC zAR (zAC zAR (pv 1) (pv 2) (fun _ _=>rfl)) (pv 3) (fun _ _=>rfl)) (zB (pv 4) (zB (pv 5) zK)))))))),?_⟩
   obtain⟨rh,gh,ha,Lh⟩:=L.rows.at L.right h0 h1
   obtain⟨rv,gv,hv,Lv⟩:=L.rows.at L.right v0 v1
   refine⟨_,rfl,_,rfl,_,rfl,_,rfl,rl,_,_,.ref rh,rfl,rfl,SqT.of L.tab,zBf h0 gh,wa,rh,n,ts,v,h,_,rfl,W,v0,v1,h0,h1,ha,Lh,fun l1 xs H1 s1 hl1 _ hm1=>?_⟩
   refine⟨_,rfl,?_⟩
   unfold tC
   refine zHs (SqT.of hl1) fun u hu1=>?_
   have L1:=L.same s1
   refine⟨_,rfl,_,rfl,_,rfl,_,rfl,rl,_,_,.ref rv,rfl,rfl,SqT.of L1.tab,zBf v0 gv,wa,rv,n,ts,h,v,_,rfl,W.keep s1,h0,h1,v0,v1,s1 _ _ hv,Lv,fun l2 ys H2 s2 hl2 _ hm2=>?_⟩
   refine⟨_,rfl,?_⟩
   dsimp only
   refine zHs (SqT.of hl2) fun d hd1=>?_
   have s12:=s1.trans s2
   have L2':=L.same s12
   obtain⟨dd,hdd⟩:=hh.1
   have lv:=Len.uniq (Lv.len h h0 h1) (show Len ts v h (some dd) from WM.IsD.symm hdd)
   refine⟨_,rfl,_,rfl,_,rfl,rl,_,_,.ref rv,rfl,rfl,SqT.of L2'.tab,zBf v0 gv,_,rfl,rv,_,_,.int dd,rfl,rfl,SqT.of (s12 _ _ hv),zBf h0 (by rw[zBt Lv h0 h1,lv];rfl),_,rfl,_,rfl,by show 4<=sizeLine;decide,fun a ha'=>?_⟩
   exact k a ⟨h,dd,u,d⟩ _ (s12.trans (zF ha')) zH rfl ⟨⟨h0,h1⟩,hh,WM.IsD.symm hdd,hu1.congr hm1,hd1.congr hm2⟩
end
theorem zKu {n:Int}{ts:List T3}{M:List (List (Option Int))}(R:Rows ts n M){x y d:Int}(x0:0<=x)(x1:x<n)(y0:0<=y)(y1:y<n)(h:WM.IsD ts x y d):0<=d/\d<=2376:=by
 have L:=R.2 x x0 x1
 have l:=L.len y y0 y1
 cases e:fnl (M.getD x.toNat []) y with
 | none=>rw[e] at l;exact absurd h.1 (l d)
 | some d'=>
  rw[e] at l
  have ed:d'=d:=WM.IsD.uniq l h
  subst ed
  refine L.bd (some d') ?_ d' rfl
  unfold fnl at e
  rw[if_pos y0,zE] at e
  cases e2:(M.getD x.toNat [])[y.toNat]? with
  | none=>rw[e2] at e;cases e
  | some o=>
   rw[e2] at e
   have eo:o=some d':=e
   rw[<-eo]
   exact zl e2
noncomputable def zKM (n:Int)(os:List Int)(rk:Int->Int):Prop:=∀p,0<=p->p<n->0<=rk p/\os[(rk p).toNat]? = some p
noncomputable def zDw (ts:List T3)(n:Int)(rk:Int->Int)(ess:List (List En)):Prop:=ess.length=n.toNat/\∀(i:Nat)(es:List En),ess[i]? = some es->zEv ts n rk i es
noncomputable def zHH (PT:Addr):Sp:=fun vs H Q _=>∃(wa p:Addr)(n:Int)(ts:List T3)(os:List Int),vs=[.ref wa,.ref p]/\zAe H wa n ts/\H p=some (.tup (os.map V.int))/\zGB n os/\Tb H PT /\
 ∀(l:Addr)(ess:List (List En))(rk:Int->Int)(H':Hp),SmT H H'->Tb H' PT->zCV H' l ess->zKM n os rk->zDw ts n rk ess->(∀es∈ess,∀e∈es,0<=e.l/\e.l<=2376)->Q (.ref l) H'
theorem zGB.mem {n:Int}{os:List Int}(O:zGB n os){p:Int}(h0:0<=p)(h1:p<n):p∈os:=by
 apply zAQ
 intro hn
 have:=nd_len (n:=n.toNat) (l:=p::os) (zAi.mpr ⟨hn,O.nd⟩) fun x hx=>by
  rcases za.mp hx with rfl | hx
  . omega
  . have:=O.rng x hx;omega
 rw[zh,O.ln] at this
 omega
section
variable {P:Program}{w:World}{K:PySem.W.Frag}{mg:Str->Option Value}{base:Heap}{PT:Addr}
theorem scLbr:zAA ["web", "rows", "ranks", "place", "hubs"] ["web", "rows", "ranks", "place"] (defScope sLbr):=⟨rfl,rfl,rfl,by decide +kernel,rfl,by decide +kernel,by decide +kernel⟩
theorem ok_lbr {f fI fE:Addr}{fd' fdI fdE:FuncData}(F:Fun K "label_by_ranks" "label_by_ranks" sLbr f fd') (FI:Fun K "is_hub" "is_hub" sIsh fI fdI) (bI:zt K fdI ["rows", "ranks", "hub", "place"] []) (mI:mg "is_hub" = some (.ref fI)) (GI:zy P w K mg base CX0 4 fI fdI ["rows", "ranks", "hub", "place"] zKe)
 (FE:Fun K "entry_by_rows" "entry_by_rows" sEbr fE fdE) (bE:zt K fdE ["web", "rows", "place", "hub"] []) (mE:mg "entry_by_rows" = some (.ref fE)) (GE:zy P w K mg base CX0 4 fE fdE ["web", "rows", "place", "hub"] zKg) (mRange:mg "range" = none) (mTuple:mg "tuple" = none) :
 zy P w K mg base CX0 5 f fd' ["web", "rows", "ranks", "place"] zKa:=by
 refine F.ok scLbr (fun vs H Q E h=>?_) (fun cdv A outer s H vs Q E hr h=>?_)
 . obtain⟨wa,rl,ra,rs,M,rks,n,ts,v,rfl,_⟩:=h
   rfl
 . obtain⟨wa,rl,ra,rs,M,rks,n,ts,v,rfl,W,L,v0,v1,k⟩:=h
   obtain⟨ta,tys,hwa,_,_,G⟩:=id W
   have hn1:=G.n1
   have hn24:=G.n24
   refine⟨_,zO (zC3 (i:=4) (own:=["hub"]) (cn:=["rows", "ranks", "place"]) (ci:=[1,2,3]) scLbr.nd rfl (Or.inl rfl) rfl (csc rfl rfl) ⟨rfl,rfl,rfl,rfl,rfl,rfl,rfl,rfl,rfl,trivial⟩ rfl
    (zBe rfl mRange (zB (zAC zAR (pv 0) zY (fun _ _=>rfl)) zK)) (fun _ _ _ _=>zz (i:=0) (zBv rfl) rfl (Or.inl rfl))
    (fun _ _ _ _=>zCI (zBd (zg GI hr rfl mI FI.kp bI .nil zAI (zB (pv 1) (zB (pv 2) (zB (pv 0) (zB (pv 3) zK))))))) (fun _ _ _ _=>pv 0))
    (zX (zAD (zAd zAP (by rfl) mTuple (by decide +kernel) (zB (zBS (own:=["hub"]) (cn:=["web", "rows", "place"]) (ci:=[0,1,3]) rfl (csc rfl rfl) ⟨rfl,rfl,rfl,rfl,rfl,rfl,rfl,rfl,rfl,trivial⟩ rfl
     (zBy (pv 4)) (fun _ _ _ _=>zz (i:=0) (zBv rfl) rfl (Or.inl rfl)) (fun _ _ _ _=>zBZ)
     (fun _ _ _ _=>zg GE hr rfl mE FE.kp bE .nil zAI (zB (pv 1) (zB (pv 2) (zB (pv 3) (zB (pv 0) zK)))))) zK)))),?_⟩
   refine⟨_,rfl,wa,_,_,_,rfl,rfl,SqT.of hwa,rfl,n,rfl,by omega,by omega,[.ref rl,.ref ra,.int v],rfl,fun D hD=>?_⟩
   refine zBh (lo:=0) (n:=n.toNat) (fun q ys H3=>q<=n.toNat/\(∃hs:List Int,ys=hs.map V.int/\hs.Pairwise (· < ·)/\∀p,p∈hs↔(0<=p/\p<(q:Int))/\zFi ts (rkf rks) p v)/\zAW H H3/\H3 D=some (.lst ys)) ⟨zj _,⟨[],rfl,zBb,fun p=>⟨fun z=>by simp at z,fun z=>absurd z.1 (by omega)⟩⟩,zF hD,zH⟩ (fun q ys H3 z=>?_) (fun q ys H3 hq z=>?_) (fun ys H3 z=>?_)
   . obtain⟨hq,⟨hs,rfl,hp,hm⟩,_⟩:=z
     rw[zD]
     have:=nd_len (n:=q) (l:=hs) (hp.imp fun z=>by omega) fun x hx=>by have:=((hm x).mp hx).1;omega
     exact zd (by omega)
   . obtain⟨_,⟨hs,rfl,hp,hm⟩,s3,hD3⟩:=z
     rw[zBW]
     refine⟨⟨rfl,rfl⟩,?_⟩
     refine⟨_,rfl,_,rfl,_,rfl,_,rfl,rl,ra,rs,M,rks,n,ts,q,v,rfl,L.same s3,by omega,by omega,v0,v1,fun b H4 s4 hb=>?_⟩
     refine⟨_,rfl,?_⟩
     refine zDL (fun c=>?_) (fun c=>?_)
     . refine⟨_,rfl,s4 _ _ hD3,hq,⟨hs++[(q:Int)],by rw[zR];rfl,List.pairwise_append.mpr ⟨hp,List.pairwise_singleton _ _,fun a ha b hb'=>?_⟩,fun p=>?_⟩,zAy (s3.trans s4) hD,zH⟩
       . have:b=(q:Int):=by simpa using hb'
         have:=((hm a).mp ha).1
         omega
       . rw[zx,hm]
         constructor
         . rintro (⟨a,b⟩ | a)
           . exact⟨by omega,b⟩
           . have:p=(q:Int):=by simpa using a
             subst this
             exact⟨by omega,hb.mp c⟩
         . rintro ⟨a,b⟩
           by_cases e:p=(q:Int)
           . exact .inr (by simpa using e)
           . exact .inl ⟨by omega,b⟩
     . refine⟨hq,⟨hs,rfl,hp,fun p=>?_⟩,s3.trans s4,s4 _ _ hD3⟩
       rw[hm]
       constructor
       . rintro ⟨a,b⟩;exact⟨by omega,b⟩
       . rintro ⟨a,b⟩
         refine⟨?_,b⟩
         have:p≠(q:Int):=fun z=>by subst z;exact c (hb.mpr b)
         omega
   . obtain⟨_,⟨hs,rfl,hp,hm⟩,s3,hD3⟩:=z
     have hsl:hs.length<=24:=by
      have:=nd_len (n:=n.toNat) (l:=hs) (hp.imp fun z=>by omega) fun x hx=>by have:=((hm x).mp hx).1;omega
      omega
     refine⟨_,rfl,D,rfl,⟨_,SqL.of hD3⟩,[.ref wa,.ref rl,.int v],rfl,fun D2 hD2=>?_⟩
     refine zBx (a:=D) (xs:=hs.map V.int) (fun i ys H5=>i<=hs.length/\(∃(as:List Addr)(es:List En),ys=as.map V.ref/\zD9 H5 as es/\es.map (·.h)=hs.take i/\∀e∈es,zG0 ts n (rkf rks) v e)/\zAW H3 H5/\H5 D2=some (.lst ys)) ⟨zj _,⟨[],[],rfl,⟨rfl,fun i a z=>by simp at z⟩,rfl,by simp⟩,zF hD2,zH⟩ (fun i ys H5 z=>?_) (fun i ys H5 z=>?_) (fun i x ys H5 hx z=>?_) (fun ys H5 z=>?_)
     . exact SqL.of (z.2.2.1 _ _ hD3)
     . obtain⟨_,⟨as,es,rfl,EA,em,_⟩,_⟩:=z
       have:=congrArg List.length em
       rw[zD,zAF] at this
       rw[zD,EA.1]
       exact zd (by omega)
     . obtain⟨_,⟨as,es,rfl,EA,em,he⟩,s5,hD5⟩:=z
       obtain⟨p,hpi,rfl⟩:∃p,hs[i]? = some p/\V.int p=x:=by
        rw[zU] at hx
        cases e:hs[i]? with
        | none=>rw[e] at hx;cases hx
        | some p=>rw[e] at hx;exact⟨p,rfl,zQ hx⟩
       have hpm:=(hm p).mp (zl hpi)
       have s35:=s3.trans s5
       refine⟨⟨rfl,rfl⟩,?_⟩
       refine zFm ?_
       refine⟨_,rfl,_,rfl,_,rfl,_,rfl,wa,rl,ra,rs,M,rks,n,ts,v,p,rfl,W.keep s35,L.same s35,by omega,by omega,v0,v1,hpm.2,fun a e H6 s6 ha ep he'=>?_⟩
       refine⟨s6 _ _ hD5,(zL.mp hpi).1,⟨as++[a],es++[e],by rw[zR];rfl,(EA.keep fun b zs z=>?_).snoc ?_,?_,fun x hx'=>?_⟩,zAy (s5.trans s6) hD2,zH⟩
       . rw[zV (zAJ z hD5 (by intro y;cases y))];exact s6 _ _ z
       . rw[zV (zAJ ha (s6 _ _ hD5) (by intro y;cases y))];exact ha
       . rw[zR,em,zAL,hpi,<-ep];rfl
       . rcases zx.mp hx' with z | z
         . exact he x z
         . have:x=e:=by simpa using z
           subst this;exact he'
     . obtain⟨_,⟨as,es,rfl,EA,em,he⟩,s5,hD5⟩:=z
       rw[zD,zm (zM _)] at em
       have hel:es.length<=24:=by have:=congrArg List.length em;rw[zD] at this;omega
       refine⟨D2,_,rfl,.inl ⟨SqL.of hD5,fun l hl=>?_⟩⟩
       refine k l es _ ((s3.trans s5).trans (zF hl)) ⟨as,zH,EA.keep fun b zs z=>zF hl _ _ z,by omega⟩ ⟨?_,he,fun h h0 h1 z=>?_,hel⟩
       . have:=hp
         rw[<-em,zAU] at this
         exact this
       . have:h∈es.map (·.h):=by rw[em];exact (hm h).mpr ⟨by omega,z⟩
         obtain⟨e,e1,e2⟩:=zAB.mp this
         exact⟨e,e1,e2⟩
theorem zIv:zAA ["web", "order", "rows", "ranks"] ["web", "order"] (defScope zI1):=⟨rfl,rfl,rfl,by decide +kernel,rfl,by decide +kernel,by decide +kernel⟩
theorem ok_byo {f fO fL fB:Addr}{fd' fdO fdL fdB:FuncData}(F:Fun K "by_order" "by_order" zI1 f fd') (FO:Fun K "is_order" "is_order" sOrd fO fdO) (bO:zt K fdO ["web", "thing"] []) (mO:mg "is_order" = some (.ref fO)) (GO:zy P w K mg base CX0 5 fO fdO ["web", "thing"] zKZ)
 (FL:Fun K "lengths" "lengths" zHP fL fdL) (bL:zt K fdL ["web"] []) (mL:mg "lengths" = some (.ref fL)) (GL:zy P w K mg base CX0 5 fL fdL ["web"] (zHE PT))
 (FB:Fun K "label_by_ranks" "label_by_ranks" sLbr fB fdB) (bB:zt K fdB ["web", "rows", "ranks", "place"] []) (mB:mg "label_by_ranks" = some (.ref fB)) (GB:zy P w K mg base CX0 5 fB fdB ["web", "rows", "ranks", "place"] zKa) (mRange:mg "range" = none) (mTuple:mg "tuple" = none) :
 zy P w K mg base CX0 6 f fd' ["web", "order"] (zHH PT):=by
 refine F.ok zIv (fun vs H Q E h=>?_) (fun cdv A outer s H vs Q E hr h=>?_)
 . obtain⟨wa,p,n,ts,os,rfl,_⟩:=h
   rfl
 . obtain⟨wa,p,n,ts,os,rfl,W,hp,O,T,k⟩:=h
   obtain⟨ta,tys,hwa,_,_,G⟩:=id W
   have hn1:=G.n1
   have hn24:=G.n24
   refine⟨_,zO (zBK (zBu (zBd (zg GO hr rfl mO FO.kp bO .nil zAI (zB (pv 0) (zB (pv 1) zK))))) (zX zFG) zAO)
    (zO (zAK (i:=2) zIv.nd rfl (Or.inr rfl) (zg GL hr rfl mL FL.kp bL .nil zAI (zB (pv 0) zK)))
    (zO (zAK (i:=3) zIv.nd rfl (Or.inr rfl) (zBS (own:=["place"]) (cn:=["order"]) (ci:=[1]) rfl (csc rfl rfl) ⟨rfl,rfl,rfl,trivial⟩ rfl
     (zBe rfl mRange (zB (zAC zAR (pv 0) zY (fun _ _=>rfl)) zK)) (fun _ _ _ _=>zz (i:=0) (zBv rfl) rfl (Or.inl rfl)) (fun _ _ _ _=>zBZ)
     (fun _ _ _ _=>pe_bmT PySem.F.slot_tuple_index PySem.F.type_tuple_index zHr (pv 1) (zB (pv 0) zK))))
    (zX (zAD (zAd zAP (by rfl) mTuple (by decide +kernel) (zB (zBS (own:=["place"]) (cn:=["web", "rows", "ranks"]) (ci:=[0,2,3]) rfl (csc rfl rfl) ⟨rfl,rfl,rfl,rfl,rfl,rfl,rfl,rfl,rfl,trivial⟩ rfl
     (zBe rfl mRange (zB (zAC zAR (pv 0) zY (fun _ _=>rfl)) zK)) (fun _ _ _ _=>zz (i:=0) (zBv rfl) rfl (Or.inl rfl)) (fun _ _ _ _=>zBZ)
     (fun _ _ _ _=>zg GB hr rfl mB FB.kp bB .nil zAI (zB (pv 1) (zB (pv 2) (zB (pv 3) (zB (pv 0) zK)))))) zK)))))),?_⟩
   refine⟨_,rfl,_,rfl,wa,p,n,ts,os,rfl,W,hp,O,fun H0 s0=>?_⟩
   refine⟨_,rfl,zCR ?_⟩
   refine⟨_,rfl,wa,n,ts,rfl,W.keep s0,T.same s0,fun rl rs M H1 sm1 T1 hrl RA RR=>?_⟩
   have sm01:SmT H H1:=(SmT.of s0).trans sm1
   have hwa1:H1 wa=some (.tup [.int n,.ref ta]):=sm01.get hwa (by intro ps z;cases z)
   have hp1:H1 p=some (.tup (os.map V.int)):=sm01.get hp (by intro ps z;cases z)
   have W1:zAe H1 wa n ts:=W.smT sm01
   refine⟨_,rfl,wa,_,_,_,rfl,rfl,SqT.of hwa1,rfl,n,rfl,by omega,by omega,[.ref p],rfl,fun D hD=>?_⟩
   refine zBh (lo:=0) (n:=n.toNat) (fun q ys H3=>q<=n.toNat/\(∃rk:List Int,ys=rk.map V.int/\rk.length=q/\∀(j:Nat)(x:Int),rk[j]? = some x->0<=x/\os[x.toNat]? = some (j:Int))/\H3=upd H1 D (.lst ys)) ⟨zj _,⟨[],rfl,rfl,fun j x z=>by simp at z⟩,rfl⟩ (fun q ys H3 z=>?_) (fun q ys H3 hq z=>?_) (fun ys H3 z=>?_)
   . obtain⟨_,⟨rk,rfl,hl,_⟩,_⟩:=z
     rw[zD]
     exact zd (by omega)
   . obtain⟨_,⟨rk,rfl,hl,hrk⟩,rfl⟩:=z
     rw[zBW]
     obtain⟨i,hi,ei⟩:=zAT (O.mem (p:=(q:Int)) (by omega) (by omega))
     have hoi:os[i]? = some (q:Int):=by rw[zC hi,ei]
     have hp3:=zF (o:=.lst (rk.map V.int)) hD _ _ hp1
     refine⟨⟨rfl,rfl⟩,?_⟩
     refine zFm ?_
     refine⟨_,rfl,⟨p,_,rfl,hp3⟩,_,rfl,p,os,i,q,rfl,rfl,SqT.of hp3,hoi,fun j hj e=>?_,zH,hq,⟨rk++[(i:Int)],by rw[zR];rfl,by rw[zN,hl];rfl,fun j x hx=>?_⟩,zBm⟩
     . obtain⟨hj',ej⟩:=zL.mp e
       exact zAh.mp (List.nodup_iff_pairwise_ne.mp O.nd) j i hj' hi hj (by rw[ej,ei])
     . by_cases c:j<rk.length
       . rw[zu c] at hx
         exact hrk j x hx
       . have hj:j=q:=by
          have:=(zL.mp hx).1
          rw[zN] at this
          simp at this;omega
         subst hj
         rw[zo (by omega),hl,Nat.sub_self] at hx
         have:(i:Int)=x:=by simpa using hx
         subst this
         exact⟨by omega,hoi⟩
   . obtain⟨_,⟨rk,rfl,hl,hrk⟩,rfl⟩:=z
     have sD:zAW H1 (upd H1 D (.lst (rk.map V.int))):=zF hD
     have hDr:(upd H1 D (.lst (rk.map V.int))) D=some (.lst (rk.map V.int)):=zH
     generalize upd H1 D (.lst (rk.map V.int))=H4 at sD hDr ⊢
     have L:zId H4 rl D rs M rk n ts:=⟨sD _ _ hrl,RA.same sD,RR,hDr,hl,G⟩
     have W4:=W1.keep sD
     refine⟨_,rfl,wa,_,_,_,rfl,rfl,SqT.of (sD _ _ hwa1),rfl,n,rfl,by omega,by omega,[.ref wa,.ref rl,.ref D],rfl,fun D2 hD2=>?_⟩
     refine zBh (lo:=0) (n:=n.toNat) (fun q ys H5=>q<=n.toNat/\(∃(as:List Addr)(ess:List (List En)),ys=as.map V.ref/\as.length=q/\ess.length=q/\(∀(i:Nat)(a:Addr),as[i]? = some a->∃es,ess[i]? = some es/\zDM H5 a es)/\∀(i:Nat)(es:List En),ess[i]? = some es->zEv ts n (rkf rk) i es)/\zAW H4 H5/\H5 D2=some (.lst ys)) ⟨zj _,⟨[],[],rfl,rfl,rfl,fun i a z=>by simp at z,fun i a z=>by simp at z⟩,zF hD2,zH⟩ (fun q ys H5 z=>?_) (fun q ys H5 hq z=>?_) (fun ys H5 z=>?_)
     . obtain⟨_,⟨as,ess,rfl,h1,_⟩,_⟩:=z
       rw[zD]
       exact zd (by omega)
     . obtain⟨_,⟨as,ess,rfl,h1,h2,h3,h4⟩,s5,hD5⟩:=z
       rw[zBW]
       refine⟨⟨rfl,rfl⟩,?_⟩
       refine zFm ?_
       refine⟨_,rfl,_,rfl,_,rfl,_,rfl,wa,rl,D,rs,M,rk,n,ts,q,rfl,W4.keep s5,L.same s5,by omega,by omega,fun a es H6 s6 la lo=>?_⟩
       refine⟨s6 _ _ hD5,hq,⟨as++[a],ess++[es],by rw[zR];rfl,by rw[zN,h1];rfl,by rw[zN,h2];rfl,fun i b hb=>?_,fun i es' he=>?_⟩,zAy (s5.trans s6) hD2,zH⟩
       . have keep:∀c zs,H6 c=some (.tup zs)->(upd H6 D2 (.lst (as.map V.ref++[.ref a]))) c=some (.tup zs):=fun c zs z=>by rw[zV (zAJ z (s6 _ _ hD5) (by intro y;cases y))];exact z
         by_cases c:i<as.length
         . rw[zu c] at hb
           obtain⟨es',e1,e2⟩:=h3 i b hb
           exact⟨es',by rw[zu (by omega)];exact e1,(e2.same s6).keep keep⟩
         . have hi:i=q:=by
            have:=(zL.mp hb).1
            rw[zN] at this
            simp at this;omega
           subst hi
           rw[zo (by omega),h1,Nat.sub_self] at hb
           have:a=b:=by simpa using hb
           subst this
           exact⟨es,by rw[zo (by omega),h2,Nat.sub_self];rfl,la.keep keep⟩
       . by_cases c:i<ess.length
         . rw[zu c] at he
           exact h4 i es' he
         . have hi:i=q:=by
            have:=(zL.mp he).1
            rw[zN] at this
            simp at this;omega
           subst hi
           rw[zo (by omega),h2,Nat.sub_self] at he
           have:es=es':=by simpa using he
           subst this
           exact lo
     . obtain⟨_,⟨as,ess,rfl,h1,h2,h3,h4⟩,s5,hD5⟩:=z
       refine⟨D2,_,rfl,.inl ⟨SqL.of hD5,fun l hl'=>?_⟩⟩
       have s6:zAW H1 (upd H5 l (.tup (as.map V.ref))):=(sD.trans s5).trans (zF hl')
       refine k l ess (rkf rk) _ (sm01.trans (SmT.of s6)) (T1.same s6) ⟨as,zH,by omega,fun i a ha=>?_⟩ (fun p h0 h1'=>?_) ⟨h2,h4⟩ ?bound
       case bound=>
        intro es hes e he
        obtain⟨i,hi,ei⟩:=zAT hes
        have EO:=(h4 i es (by rw[zC hi,ei])).ent e he
        exact zKu RR (by omega) (by omega) EO.rng.1 EO.rng.2 EO.len
       . obtain⟨es,e1,e2⟩:=h3 i a ha
         exact⟨es,e1,e2.same (zF hl')⟩
       . have hlt:p.toNat<rk.length:=by omega
         have e:rk[p.toNat]? = some (rkf rk p):=by
          unfold rkf
          rw[zE,zC hlt];rfl
         obtain⟨a,b⟩:=hrk _ _ e
         exact⟨a,by rw[b,Int.toNat_of_nonneg h0]⟩
end
end K65
namespace K65
open PySem L2 WM
theorem zIc.uniq {P:Int->Prop}:∀{a b:Option Int},zIc P a->zIc P b->a=b
 | none,none,_,_=>rfl
 | none,some m,h,h'=>absurd h'.1 (h m)
 | some m,none,h,h'=>absurd h.1 (h' m)
 | some m,some k,h,h'=>congrArg some (Int.le_antisymm (h.2 k h'.1) (h'.2 m h.1))
theorem zG0.uniq {ts:List T3}{n v:Int}{rk:Int->Int}{e e':En}(x:zG0 ts n rk v e)(y:zG0 ts n rk v e')(h:e.h=e'.h):e=e':=by
 obtain⟨h1,l1,u1,d1⟩:=e
 obtain⟨h2,l2,u2,d2⟩:=e'
 have hh:h1=h2:=h
 subst hh
 have e1:l1=l2:=WM.IsD.uniq x.len y.len
 have e2:u1=u2:=zIc.uniq x.up y.up
 have e3:d1=d2:=zIc.uniq x.dn y.dn
 rw[e1,e2,e3]
theorem zHU:∀{a b:List En},Hub a->Hub b->(∀e,e∈a↔e∈b)->a=b
 | [],[],_,_,_=>rfl
 | [],y::b,_,_,h=>absurd ((h y).mpr ze) (by simp)
 | x::a,[],_,_,h=>absurd ((h x).mp ze) (by simp)
 | x::a,y::b,ha,hb,h=>by
  obtain⟨hx,ha'⟩:=zAw.mp ha
  obtain⟨hy,hb'⟩:=zAw.mp hb
  have exy:x=y:=by
   rcases za.mp ((h x).mp ze) with e | m
   . exact e
   . rcases za.mp ((h y).mpr ze) with e | m'
     . exact e.symm
     . have:=hy x m
       have:=hx y m'
       omega
  subst exy
  rw[zHU ha' hb' fun e=>⟨fun m=>?_,fun m=>?_⟩]
  . rcases za.mp ((h e).mp (zf _ m)) with z | z
    . subst z
      exact absurd (hx e m) (by omega)
    . exact z
  . rcases za.mp ((h e).mpr (zf _ m)) with z | z
    . subst z
      exact absurd (hy e m) (by omega)
    . exact z
theorem zEv.uniq {ts:List T3}{n v:Int}{rk:Int->Int}{es es':List En}(x:zEv ts n rk v es)(y:zEv ts n rk v es'):es=es':=by
 refine zHU x.hub y.hub fun e=>⟨fun m=>?_,fun m=>?_⟩
 . have E:=x.ent e m
   obtain⟨e',m',h'⟩:=y.all e.h E.rng.1 E.rng.2 E.hub
   rw[E.uniq (y.ent e' m') h'.symm]
   exact m'
 . have E:=y.ent e m
   obtain⟨e',m',h'⟩:=x.all e.h E.rng.1 E.rng.2 E.hub
   rw[E.uniq (x.ent e' m') h'.symm]
   exact m'
theorem zKM.eq {n:Int}{os:List Int}{rk rk':Int->Int}(nd:os.Nodup)(a:zKM n os rk)(b:zKM n os rk'){p:Int}(h0:0<=p)(h1:p<n):rk p=rk' p:=by
 obtain⟨a0,a1⟩:=a p h0 h1
 obtain⟨b0,b1⟩:=b p h0 h1
 obtain⟨i1,e1⟩:=zL.mp a1
 obtain⟨i2,e2⟩:=zL.mp b1
 have:=(List.getElem_inj nd).mp (e1.trans e2.symm)
 omega
theorem zDw.uniq {ts:List T3}{n:Int}{os:List Int}{rk rk':Int->Int}{ess ess':List (List En)}(G:GW n ts)(nd:os.Nodup)(a:zKM n os rk)(b:zKM n os rk')(x:zDw ts n rk ess)(y:zDw ts n rk' ess'):ess=ess':=by
 apply List.ext_getElem (x.1.trans y.1.symm)
 intro i h1 h2
 exact (x.2 i _ (zC h1)).uniq ((y.2 i _ (zC h2)).congr G fun p p0 p1=>b.eq nd a p0 p1)
end K65
namespace K65
open PySem L2 WM
theorem zFT:∀(l:List Int)(k:Nat),(l.map V.int).eraseIdx k=(l.eraseIdx k).map V.int
 | [],_=>rfl
 | _::_,0=>rfl
 | x::r,k+1=>by
  show V.int x::(r.map V.int).eraseIdx k=V.int x::(r.eraseIdx k).map V.int
  rw[zFT r k]
theorem zET:∀{l:List Int}{k:Nat}(h:k<l.length),(l[k]::l.eraseIdx k).Perm l
 | [],_,h=>absurd h (Nat.not_lt_zero _)
 | _::_,0,_=>List.Perm.refl _
 | x::r,k+1,h=>by
  have hk:k<r.length:=by simpa using h
  show (r[k]::x::r.eraseIdx k).Perm (x::r)
  exact (List.Perm.swap x r[k] _).trans ((zET hk).cons x)
noncomputable def zJq:Sp:=fun vs H Q _=>∃(t:Addr)(N:Nat)(n:Int),vs=[.ref t,.int n]/\zAf H t N/\N<900000/\0<=n/\n<=24 /\
 ∀(pa:Addr)(os:List Int)(H':Hp),H pa=none->H' pa=some (.tup (os.map V.int))->os.Perm (lowTo n.toNat)->zAf H' t (N+24)->Sm t H H'->Q (.ref pa) H'
structure OW (H:Hp)(t p lf D:Addr)(n:Nat)(N:Nat)(row left:List Int)(H2:Hp):Prop where
 pm:(row++left).Perm (lowTo n)
 lf:H2 lf=some (.lst (left.map V.int))
 ls:H2 D=some (.lst (row.map V.int))
 tp:zBV H2 t p (N+row.length)
 sm:Sm t H H2
theorem OW.on {H H2 H3:Hp}{t p lf D:Addr}{n N:Nat}{row left:List Int}(h:OW H t p lf D n N row left H2)(s:zAW H2 H3):OW H t p lf D n N row left H3:=⟨h.pm,s _ _ h.lf,s _ _ h.ls,h.tp.same s,h.sm.trans (Sm.of s)⟩
section
variable {P:Program}{w:World}{K:PySem.W.Frag}{mg:Str->Option Value}{base:Heap}
theorem zHK:zAA ["_law_feed_here", "_law_many", "_law_left", "_law_found"] ["_law_feed_here", "_law_many"] (defScope zIx):=⟨rfl,rfl,rfl,by decide +kernel,rfl,by decide +kernel,by decide +kernel⟩
theorem zLL {f fD:Addr}{fd fdD:FuncData}(F:Fun K "_law_order" "_law_order" zIx f fd) (FD:Fun K "_law_take" "_law_take" zDy fD fdD) (bD:zt K fdD ["_law_feed_here", "_law_many"] []) (mD:mg "_law_take" = some (.ref fD)) (mLen:mg "len" = none)
 (mRange:mg "range" = none) (mList:mg "list" = none) (mTuple:mg "tuple" = none):zy P w K mg base CX0 2 f fd ["_law_feed_here", "_law_many"] zJq:=by
 have GD:zy P w K mg base CX0 1 fD fdD ["_law_feed_here", "_law_many"] zC1:=zCh FD mLen
 refine F.ok zHK (fun vs H Q E h=>?_) (fun cdv A outer s H vs Q E hr h=>?_)
 . obtain⟨t,N,n,rfl,_⟩:=h
   rfl
 . obtain⟨t,N,many,rfl,TT,hN,hm0,hm24,k⟩:=h
   obtain⟨p,T1⟩:=TT
   have hu0:=hr.units0
   refine⟨_,zO (zAK (i:=2) zHK.nd rfl (Or.inl rfl) (zHa rfl rfl mList rfl mRange (zB (pv 1) zK)))
    (zO (zAK (i:=3) zHK.nd rfl (Or.inl rfl) (zBF zK))
    (zO (zGN PassesOwn.never (zAG (op_neE hu0) (pv 2) (zBF zK) (zAN _))
     (zX (zBp (zC4 PySem.F.plainAttrs_list PySem.F.slot_list_append PySem.F.type_list_append zBw (pv 3)
      (zB (zC4 PySem.F.plainAttrs_list PySem.F.slot_list_pop PySem.F.type_list_pop zGU (pv 2)
       (zB (zg GD hr rfl mD FD.kp bD .nil zAI (zB (pv 0) (zB (zn zAS (by rfl) mLen PySem.boot_len (zB (pv 2) zK)) zK))) zK)) zK)))))
    (zX (zAD (zAd zAP (by rfl) mTuple (by decide +kernel) (zB (pv 3) zK)))))),?_⟩
   refine⟨_,rfl,many,rfl,by omega,by omega,fun lf hlf=>?_⟩
   have nlt:lf≠t:=(T1.ne hlf).1
   have nlp:lf≠p:=(T1.ne hlf).2
   refine⟨zj _,fun D hD=>?_⟩
   have hD1:H D=none:=zAk (zF hlf) hD
   have nDt:D≠t:=(T1.ne hD1).1
   have nDp:D≠p:=(T1.ne hD1).2
   have nDl:D≠lf:=fun z=>by rw[z,zH] at hD;cases hD
   have W0:OW H t p lf D many.toNat N [] (lowTo many.toNat) (upd (upd H lf (.lst ((lowTo many.toNat).map V.int))) D (.lst [])):=
    ⟨List.Perm.refl _,zF hD _ _ zH,zH,(T1.laid hlf).laid hD,(Sm.laid hlf).trans (Sm.laid hD)⟩
   generalize upd (upd H lf (.lst ((lowTo many.toNat).map V.int))) D (.lst [])=H2 at W0 ⊢
   refine⟨fun m σ H3=>∃(row left:List Int),σ=[some (.ref t),some (.int many),some (.ref lf),some (.ref D)]/\m=left.length/\OW H t p lf D many.toNat N row left H3,⟨_,[],lowTo many.toNat,rfl,rfl,W0⟩,?_⟩
   rintro m σ H3 ⟨row,left,rfl,rfl,W⟩
   have hll:row.length+left.length=many.toNat:=by
    have:=W.pm.length_eq
    rw[zN,zCn] at this
    exact this
   refine⟨_,rfl,by show 0<=sizeLine;decide,fun e0 he0=>?_⟩
   have W1:=W.on (zF (o:=.lst []) he0)
   have h00:(upd H3 e0 (.lst [])) e0=some (.lst []):=zH
   generalize upd H3 e0 (.lst [])=H4 at W1 h00 ⊢
   refine⟨lf,e0,_,rfl,rfl,SqL.of W1.lf,SqL.of h00,_,rfl,?_⟩
   refine zDL (fun hc=>?_) (fun hc=>?_)
   . have hl0:0<left.length:=by
      cases left with
      | nil=>cases hc
      | cons _ _=>exact Nat.succ_pos _
     refine⟨fun σ' H'=>∃(row' left':List Int),σ'=[some (.ref t),some (.int many),some (.ref lf),some (.ref D)]/\left'.length<left.length/\OW H t p lf D many.toNat N row' left' H',fun σ' H' ⟨row',left',e,hlt,W'⟩=>⟨_,hlt,row',left',e,rfl,W'⟩,?_⟩
     refine⟨_,rfl,.inl ⟨rfl,_,SqL.of W1.ls⟩,_,rfl,.inl ⟨rfl,_,SqL.of W1.lf⟩,?_⟩
     refine⟨_,rfl,_,rfl,lf,_,rfl,.inl (SqL.of W1.lf),t,p,_,_,rfl,W1.tp,by omega,by rw[zD];omega,by rw[zD];omega,fun rr H5 h0 h1 T5 e5=>?_⟩
     rw[zD] at h1
     have hlt:rr.toNat<left.length:=by omega
     refine⟨lf,left.map V.int,rr,rr.toNat,.int left[rr.toNat],rfl,rfl,by rw[e5 lf nlt];exact W1.lf,by omega,by omega,PySem.StrLaws.seqIndex_nonneg h0 (by rw[zD];omega),by rw[zU,zC hlt];rfl,?_⟩
     rw[zFT left rr.toNat]
     refine⟨D,_,_,rfl,rfl,by rw[zV nDl,e5 D nDt];exact W1.ls,by rw[zD];exact zd (by omega),?_⟩
     refine⟨row++[left[rr.toNat]],left.eraseIdx rr.toNat,rfl,by rw[List.length_eraseIdx,if_pos hlt];omega,?_⟩
     refine⟨?_,by rw[zV nDl.symm,zH],by rw[zR];exact zH,?_,((W1.sm.trans (zB7 e5)).chg hlf).chg hD1⟩
     . refine List.Perm.trans ?_ W1.pm
       rw[List.append_assoc]
       exact (zET hlt).append_left row
     . rw[zN]
       exact ((T5.upd nlt nlp).upd nDt nDp).mono (by simp;omega)
   have hleft:left=[]:=by
    cases left with
    | nil=>rfl
    | cons a r=>exact absurd (show (!(List.map V.int (a::r)).isEmpty)=true from rfl) hc
   subst hleft
   have hrl:row.length=many.toNat:=by simpa using hll
   have hpm:row.Perm (lowTo many.toNat):=by have:=W1.pm;rwa [zr] at this
   refine⟨_,rfl,D,_,rfl,.inl ⟨SqL.of W1.ls,fun pa hpa=>?_⟩⟩
   have npt:pa≠t:=(W1.tp.ne hpa).1
   have hpa0:H pa=none:=by
    cases q:H pa with
    | none=>rfl
    | some o=>rw[W1.sm _ _ npt q] at hpa;cases hpa
   exact k pa row _ hpa0 zH hpm ⟨p,(W1.tp.laid hpa).mono (by omega)⟩ (W1.sm.trans (Sm.laid hpa))
end
end K65
namespace K65
open PySem L2 WM
noncomputable def spSame:Sp:=fun vs H Q _=>∃a b:Option Int,vs=[oV a,oV b]/\∀H',zAW H H'->Q (.bl (decide (a=b))) H'
theorem tyO {K:PySem.W.Frag}{H:Hp}(a:Option Int):∃t,zFn K H (oV a) t/\PySem.W.kitOne K t (.type "tuple")=some false/\PySem.W.kitOne K t (.type "list")=some false/\PySem.W.kitOne K t (.type "bool")=some false/\PySem.W.kitAny K t [.type "tuple",.type "list"]=some false:=by
 cases a with
 | none=>exact⟨_,.non,rfl,rfl,rfl,rfl⟩
 | some i=>exact⟨_,.int i,rfl,rfl,rfl,rfl⟩
theorem dec_oV {a b:Option Int}:decide (oV a=oV b)=decide (a=b):=by
 by_cases h:a=b
 . rw[zZ h,zZ (congrArg oV h)]
 . rw[zb h,zb fun z=>h ?_]
   cases a with
   | none=>cases b with
    | none=>rfl
    | some b=>cases z
   | some a=>cases b with
    | none=>cases z
    | some b=>rw[V.int.inj z]
theorem zKr (a b:Option Int):scal (oV a) (oV b)=true:=by
 cases a <;> cases b <;> rfl
section
variable {P:Program}{w:World}{K:PySem.W.Frag}{mg:Str->Option Value}{base:Heap}
theorem zJ0:zAA ["_law_found", "_law_due"] ["_law_found", "_law_due"] (defScope zFv):=⟨rfl,rfl,rfl,by decide +kernel,rfl,by decide +kernel,by decide +kernel⟩
theorem zHl {f:Addr}{fd':FuncData}(F:Fun K "_law_same" "_law_same" zFv f fd') (mIsi:mg "isinstance" = none) (mTuple:mg "tuple" = none) (mList:mg "list" = none) (mBool:mg "bool" = none):zy P w K mg base CX0 1 f fd' ["_law_found", "_law_due"] spSame:=by
 refine F.ok zJ0 (fun vs H Q E h=>?_) (fun cdv A outer s H vs Q E hr h=>?_)
 . obtain⟨a,b,rfl,_⟩:=h
   rfl
 . obtain⟨a,b,rfl,k⟩:=h
   refine⟨_,zO (zBK (PW.pt (zFD (zAG zHi (zn zAn (by rfl) mIsi (by decide +kernel) (zB (pv 1) (zB (zBn (T := "tuple") (by rfl) mTuple (by decide +kernel)) zK))) (zn zAn (by rfl) mIsi (by decide +kernel) (zB (pv 0) (zB (zBn (T := "tuple") (by rfl) mTuple (by decide +kernel)) zK))) (zAN _))
    (zEJ (zAG zHi (zn zAn (by rfl) mIsi (by decide +kernel) (zB (pv 1) (zB (zBn (T := "list") (by rfl) mList (by decide +kernel)) zK))) (zn zAn (by rfl) mIsi (by decide +kernel) (zB (pv 0) (zB (zBn (T := "list") (by rfl) mList (by decide +kernel)) zK))) (zAN _))))) (zX (zAD zCC)) zAO)
    (zO (zBK (zBu (zBd (zn zCw (by rfl) mIsi (by decide +kernel) (zB (pv 1) (zB (zAY (zB (zBn (T := "tuple") (by rfl) mTuple (by decide +kernel)) (zB (zBn (T := "list") (by rfl) mList (by decide +kernel)) zK))) zK)))))
     (zX (zAD (zDY (zBr zCD (zn zAn (by rfl) mIsi (by decide +kernel) (zB (pv 0) (zB (zBn (T := "bool") (by rfl) mBool (by decide +kernel)) zK))) (zn zAn (by rfl) mIsi (by decide +kernel) (zB (pv 1) (zB (zBn (T := "bool") (by rfl) mBool (by decide +kernel)) zK))) (zAN _))
      (zDX (zBr zCD (pv 0) (pv 1) (zAN _)))))) zAO)
    (zO zFG (zX zFG))),?_⟩
   obtain⟨ta,ya,a1,a2,a3,_⟩:=tyO (K:=K) (H:=H) a
   obtain⟨tb,yb,b1,b2,b3,_⟩:=tyO (K:=K) (H:=H) b
   refine⟨_,rfl,_,_,tb,false,rfl,yb,b1,_,rfl,_,_,ta,false,rfl,ya,a1,rfl,_,rfl,ifF rfl ?_⟩
   refine⟨_,rfl,_,_,tb,false,rfl,yb,b2,_,rfl,_,_,ta,false,rfl,ya,a2,rfl,_,rfl,ifF rfl ?_⟩
   refine⟨_,rfl,by show 2<=sizeLine;decide,fun p hp=>?_⟩
   obtain⟨ta',ya',_,_,a3',_⟩:=tyO (K:=K) (H:=upd H p (.tup [.ty "tuple",.ty "list"])) a
   obtain⟨tb',yb',_,_,b3',b4'⟩:=tyO (K:=K) (H:=upd H p (.tup [.ty "tuple",.ty "list"])) b
   refine⟨_,p,["tuple", "list"],tb',false,rfl,zH,yb',b4',_,rfl,zCz ?_⟩
   refine⟨_,rfl,_,_,ta',false,rfl,ya',a3',_,rfl,_,_,tb',false,rfl,yb',b3',rfl,_,rfl,ifT rfl ?_⟩
   refine⟨_,rfl,_,rfl,zKr a b,?_⟩
   rw[dec_oV]
   exact k _ (zF hp)
end
noncomputable def SM (H:Hp):Nat->V->V->Prop
 | 0,a,b=>∃o:Option Int,a=oV o/\b=oV o
 | h+1,a,b=>(∃o:Option Int,a=oV o/\b=oV o)\/∃(p q:Addr)(xs ys:List V),a = .ref p/\b = .ref q/\H p=some (.tup xs)/\H q=some (.tup ys)/\xs.length=ys.length/\xs.length<=1000/\∀(i:Nat)(x y:V),xs[i]? = some x->ys[i]? = some y->SM H h x y
theorem SM.keep {H H':Hp}(s:zAW H H'):∀{h:Nat}{a b:V},SM H h a b->SM H' h a b
 | 0,_,_,h=>h
 | _+1,_,_,.inl h=>.inl h
 | _+1,_,_,.inr ⟨p,q,xs,ys,e1,e2,e3,e4,e5,e6,e7⟩=>.inr ⟨p,q,xs,ys,e1,e2,s _ _ e3,s _ _ e4,e5,e6,fun i x y hx hy=>(e7 i x y hx hy).keep s⟩
noncomputable def spSm (h:Nat):Sp:=fun vs H Q _=>∃a b:V,vs=[a,b]/\SM H h a b/\∀H',zAW H H'->Q (.bl true) H'
noncomputable def spTm (h:Nat):Sp:=fun vs H Q _=>∃a b:V,vs=[a,b]/\(∃(p q:Addr)(xs ys:List V),a = .ref p/\b = .ref q/\H p=some (.tup xs)/\H q=some (.tup ys)/\xs.length=ys.length/\xs.length<=1000/\∀(i:Nat)(x y:V),xs[i]? = some x->ys[i]? = some y->SM H h x y)/\∀H',zAW H H'->Q (.bl true) H'
theorem zIP {K:PySem.W.Frag}{a b:Addr}{xs ys:List V}{own:Nat}{g:TG}{ti:TT}{te:TE}{cv:List V}{D:Addr}{H1:Hp}{Q:VK}(hxy:xs.length=ys.length)(Pv:Nat->List V->Hp->Prop)(h0:Pv 0 [] (upd H1 D (.lst [])))(hl:∀i zs H,Pv i zs H->SqT K H a xs/\SqT K H b ys)(hz:∀i zs H,Pv i zs H->zs.length<sizeLine)
 (hs:∀i x y zs H T,xs[i]? = some x->ys[i]? = some y->Pv i zs H->H T=none->g (.ref T) (List.replicate own none++cv.map some) (upd H T (.tup [x,y])) fun σ2 H2=>(σ2.length=own+cv.length/\σ2.drop own=cv.map some) /\
  ti σ2 H2 fun b H3=>if b=true then te σ2 H3 fun y H4=>H4 D=some (.lst zs)/\Pv (i+1) (zs++[y]) (upd H4 D (.lst (zs++[y]))) else Pv (i+1) zs H3)
 (hd:∀zs H,Pv xs.length zs H->Q (.ref D) H):zFk (ItzT K a b) own cv g ti te D H1 Q:=by
 refine⟨fun i m zs H=>m=xs.length-i/\i<=xs.length/\Pv i zs H,⟨xs.length,rfl,zj _,h0⟩,?_⟩
 rintro i m zs H ⟨rfl,hi,p⟩
 obtain⟨q1,q2⟩:=hl i zs H p
 by_cases c:i<xs.length
 . refine .inr ⟨⟨xs,ys,xs[i],ys[i],q1,q2,zC c,zC (by omega)⟩,hz i zs H p,Pv (i+1),fun zs' H' p'=>⟨xs.length-(i+1),by omega,rfl,c,p'⟩,fun x H' y=>?_⟩
   obtain⟨T,u,v,rfl,hT,rfl,hu,hv⟩:=y
   exact hs i u v zs H T (hu xs q1) (hv ys q2) p hT
 . have e:i=xs.length:=by omega
   subst e
   exact .inl ⟨⟨xs,q1,zM _⟩,hd zs H p⟩
theorem zDt:∀n,(List.replicate n (V.bl true)).all zD3=true/\inV (.bl false) (List.replicate n (V.bl true))=false
 | 0=>⟨rfl,rfl⟩
 | n+1=>by
  obtain⟨a,b⟩:=zDt n
  rw[zA3]
  exact⟨by rw[List.all_cons,a];rfl,by unfold inV at b ⊢;rw[List.any_cons,b];rfl⟩
section
variable {P:Program}{w:World}{K:PySem.W.Frag}{mg:Str->Option Value}{base:Heap}
theorem zy.either {k:Nat}{f:Addr}{fd:FuncData}{ps:List Str}{CX:CXT}{sp sp':Sp}(F:zy P w K mg base CX k f fd ps sp)(F':zy P w K mg base CX k f fd ps sp'):zy P w K mg base CX k f fd ps (fun vs H Q E=>sp vs H Q E\/sp' vs H Q E):=
 ⟨fun vs H Q E h=>h.elim (F.len vs H Q E) (F'.len vs H Q E),fun A outer s H args us vs Q E hr he hb hv hs=>hs.elim (F.run A outer s H args us vs Q E hr he hb hv) (F'.run A outer s H args us vs Q E hr he hb hv)⟩
theorem zJL {h:Nat}{f:Addr}{fd':FuncData}(F:Fun K "_law_same" "_law_same" zFv f fd') (bF:zt K fd' ["_law_found", "_law_due"] []) (mF:mg "_law_same" = some (.ref f)) (mIsi:mg "isinstance" = none) (mTuple:mg "tuple" = none) (mList:mg "list" = none) (mLen:mg "len" = none) (mZip:mg "zip" = none)
 (G:zy P w K mg base CX0 (h+1) f fd' ["_law_found", "_law_due"] (spSm h)):zy P w K mg base CX0 (h+2) f fd' ["_law_found", "_law_due"] (spTm h):=by
 refine F.ok zJ0 (fun vs H Q E h=>?_) (fun cdv A outer s H vs Q E hr h=>?_)
 . obtain⟨a,b,rfl,_⟩:=h
   rfl
 . obtain⟨a,b,rfl,⟨p,q,xs,ys,rfl,rfl,hp,hq,hl,h24,al⟩,k⟩:=h
   refine⟨_,zO (zBK (PW.pt (zFD (zAG zHi (zn zAn (by rfl) mIsi (by decide +kernel) (zB (pv 1) (zB (zBn (T := "tuple") (by rfl) mTuple (by decide +kernel)) zK))) (zn zAn (by rfl) mIsi (by decide +kernel) (zB (pv 0) (zB (zBn (T := "tuple") (by rfl) mTuple (by decide +kernel)) zK))) (zAN _))
    (zEJ (zAG zHi (zn zAn (by rfl) mIsi (by decide +kernel) (zB (pv 1) (zB (zBn (T := "list") (by rfl) mList (by decide +kernel)) zK))) (zn zAn (by rfl) mIsi (by decide +kernel) (zB (pv 0) (zB (zBn (T := "list") (by rfl) mList (by decide +kernel)) zK))) (zAN _))))) (zX (zAD zCC)) zAO)
    (zO (zBK (zBu (zBd (zn zCw (by rfl) mIsi (by decide +kernel) (zB (pv 1) (zB (zAY (zB (zBn (T := "tuple") (by rfl) mTuple (by decide +kernel)) (zB (zBn (T := "list") (by rfl) mList (by decide +kernel)) zK))) zK))))) (zX zFG) zAO)
    (zO (zBK (zAG zHi (zn zAS (by rfl) mLen PySem.boot_len (zB (pv 0) zK)) (zn zAS (by rfl) mLen PySem.boot_len (zB (pv 1) zK)) (zAN _)) (zX (zAD zCC)) zAO)
    (zX (zAD (zBr zDD zCC (zBS (own:=["_law_one", "_law_other"]) (cn:=[]) (ci:=[]) rfl (csc rfl rfl) trivial rfl (zK2 rfl mZip (zB (pv 0) (zB (pv 1) zK)))
     (fun _ _ _ _=>zHX (n:=2) rfl (zAz (zz (i:=0) (zBv rfl) rfl (Or.inl rfl)) (zAz (zz (i:=1) (zBv rfl) rfl (Or.inl rfl)) zCJ))) (fun _ _ _ _=>zBZ)
     (fun _ _ _ _=>zg G hr rfl mF F.kp bF .nil zAI (zB (pv 0) (zB (pv 1) zK)))) (by with_unfolding_all rfl)))))),?_⟩
   refine⟨_,rfl,_,_,_,true,rfl,.tup hq,rfl,_,rfl,_,_,_,true,rfl,.tup hp,rfl,rfl,_,rfl,ifF rfl ?_⟩
   refine⟨_,rfl,_,_,_,false,rfl,.tup hq,rfl,_,rfl,_,_,_,false,rfl,.tup hp,rfl,rfl,_,rfl,ifF rfl ?_⟩
   refine⟨_,rfl,by show 2<=sizeLine;decide,fun t ht=>?_⟩
   have s1:=zF (o:=.tup [.ty "tuple",.ty "list"]) ht
   refine⟨_,t,["tuple", "list"],_,true,rfl,zH,.tup (s1 _ _ hq),rfl,_,rfl,zCR ?_⟩
   have hp1:=s1 _ _ hp
   have hq1:=s1 _ _ hq
   generalize upd H t (.tup [.ty "tuple",.ty "list"])=H1 at s1 hp1 hq1 ⊢
   refine⟨_,rfl,p,xs,rfl,.inr (SqT.of hp1),_,rfl,q,ys,rfl,.inr (SqT.of hq1),rfl,_,rfl,?_⟩
   refine ifF (by rw[hl];simp) ?_
   refine⟨_,rfl,_,rfl,p,q,rfl,⟨xs,SqT.of hp1⟩,⟨ys,SqT.of hq1⟩,[],rfl,fun D hD=>?_⟩
   refine zIP (xs:=xs) (ys:=ys) hl (fun i zs H5=>i<=xs.length/\zs=List.replicate i (V.bl true)/\zAW H1 H5/\H5 D=some (.lst zs)) ⟨zj _,rfl,zF hD,zH⟩ (fun i zs H5 z=>⟨SqT.of (z.2.2.1 _ _ hp1),SqT.of (z.2.2.1 _ _ hq1)⟩) (fun i zs H5 z=>?_) (fun i x y zs H5 T hx hy z hT=>?_) (fun zs H5 z=>?_)
   . obtain⟨hi,rfl,_⟩:=z
     rw[zAq]
     exact zd (by omega)
   . obtain⟨hi,rfl,s5,hD5⟩:=z
     have sT:=zF (o:=.tup [x,y]) hT
     refine⟨T,_,rfl,SqT.of zH,rfl,_,_,rfl,_,_,rfl,rfl,⟨rfl,rfl⟩,?_⟩
     refine zFm ?_
     refine⟨_,rfl,_,rfl,x,y,rfl,((al i x y hx hy).keep s1).keep (s5.trans sT),fun H6 s6=>?_⟩
     refine⟨s6 _ _ (sT _ _ hD5),(zL.mp hx).1,?_,zAy ((s5.trans sT).trans s6) hD,zH⟩
     rw[List.replicate_succ']
   . obtain⟨_,rfl,s5,hD5⟩:=z
     refine⟨D,_,rfl,.inl (SqL.of hD5),rfl,(zDt _).1,?_⟩
     rw[(zDt _).2]
     exact k _ (s1.trans s5)
theorem zGS {f:Addr}{fd':FuncData}(F:Fun K "_law_same" "_law_same" zFv f fd') (bF:zt K fd' ["_law_found", "_law_due"] []) (mF:mg "_law_same" = some (.ref f)) (mIsi:mg "isinstance" = none) (mTuple:mg "tuple" = none) (mList:mg "list" = none) (mBool:mg "bool" = none) (mLen:mg "len" = none) (mZip:mg "zip" = none) :
 ∀h,zy P w K mg base CX0 (h+1) f fd' ["_law_found", "_law_due"] (spSm h)
 | 0=>(zHl F mIsi mTuple mList mBool).imp fun vs H Q E ⟨a,b,e,⟨o,e1,e2⟩,k⟩=>⟨o,o,by rw[e,e1,e2],fun H' s=>by rw[zZ rfl];exact k H' s⟩
 | h+1=>(zy.either ((zHl F mIsi mTuple mList mBool).mono (by omega)) (zJL F bF mF mIsi mTuple mList mLen mZip (zGS F bF mF mIsi mTuple mList mBool mLen mZip h))).imp fun vs H Q E ⟨a,b,e,m,k⟩=>by
  rcases m with ⟨o,e1,e2⟩ | m
  . exact .inl ⟨o,o,by rw[e,e1,e2],fun H' s=>by rw[zZ rfl];exact k H' s⟩
  . exact .inr ⟨a,b,e,m,k⟩
end
end K65
namespace K65
open PySem L2 WM
theorem zHV {X:Cx}{st:Stmt}{u u':TS}(h:PS X st u)(m:∀D σ H,u' D σ H->u D σ H):PS X st u':=fun pins s σ H D I q=>h pins s σ H D I (m D σ H q)
noncomputable def zEW (ts:List T3):Prop:=zD5 (ts.map tl)
theorem tl_inj {s t:T3}(h:tl s=tl t):s=t:=by
 obtain⟨a,b,c⟩:=s
 obtain⟨a',b',c'⟩:=t
 unfold tl at h
 simp only[List.cons.injEq,and_true] at h
 obtain⟨rfl,rfl,rfl⟩:=h
 rfl
theorem zEI:∀{a b:List (List Int)},zD5 a->zD5 b->a.Perm b->a=b
 | [],b,_,_,h=>(List.nil_perm.mp h).symm
 | x::xs,[],_,_,h=>by have:=h.length_eq;simp at this
 | x::xs,y::ys,ha,hb,h=>by
  have e:x=y:=by
   apply zAQ
   intro ne
   have hx:x∈ys:=by
    rcases za.mp (h.mem_iff.mp ze) with z | z
    . exact absurd z ne
    . exact z
   have hy:y∈xs:=by
    rcases za.mp (h.mem_iff.mpr ze) with z | z
    . exact absurd z.symm ne
    . exact z
   exact ne (zCk x y ((zAw.mp hb).1 x hx) ((zAw.mp ha).1 y hy))
  subst e
  rw[zEI (zAw.mp ha).2 (zAw.mp hb).2 h.cons_inv]
theorem zEW.uniq {s t:List T3}(a:zEW s)(b:zEW t)(h:s.Perm t):s=t:=by
 have e:=zEI a b (h.map tl)
 have inj:∀{s t:List T3},s.map tl=t.map tl->s=t:=by
  intro s
  induction s with
  | nil=>intro t e;cases t with
   | nil=>rfl
   | cons _ _=>cases e
  | cons x xs ih=>
   intro t e
   cases t with
   | nil=>cases e
   | cons y ys=>
    rw[zv,zv] at e
    injection e with e1 e2
    rw[tl_inj e1,ih e2]
 exact inj e
noncomputable def isP (a b:Int)(t:T3):Bool:=decide ([t.1,t.2.1]=[a,b])
theorem zDg {a b:Int}{t:T3}:isP a b t=true↔t.1=a/\t.2.1=b:=by unfold isP;simp
noncomputable def zDq (a b:Int)(ts:List T3):List T3:=ts.filter fun t=>!isP a b t
noncomputable def zIi (a b:Int):Option Int->List T3
 | none=>[]
 | some l=>[(a,b,l)]
noncomputable def zCE (a b:Int)(ts:List T3):Option Int:=((ts.filter (isP a b)).map (·.2.2)).head?
theorem zEW.but {a b:Int}{ts:List T3}(h:zEW ts):zEW (zDq a b ts):=by
 unfold zEW zD5 zDq at *
 rw[zAU] at *
 exact h.filter _
theorem zDp (a b:Int)(ts:List T3):(zDq a b ts).length<=ts.length:=zAr _ _
theorem zEi {a b:Int}:∀{ts:List T3},(ts.Pairwise fun s t=>¬ (s.1=t.1/\s.2.1=t.2.1))->ts.filter (isP a b)=zIi a b (zCE a b ts)
 | [],_=>rfl
 | t::ts,h=>by
  obtain⟨h1,h2⟩:=zAw.mp h
  have ih:=zEi (a:=a) (b:=b) h2
  unfold zCE at ih ⊢
  by_cases c:isP a b t=true
  . have c':=zDg.mp c
    have no:ts.filter (isP a b)=[]:=by
     apply List.filter_eq_nil_iff.mpr
     intro x hx z
     have z':=zDg.mp z
     exact h1 x hx ⟨c'.1.trans z'.1.symm,c'.2.trans z'.2.symm⟩
    rw[zBI c,no]
    obtain⟨x,y,l⟩:=t
    obtain⟨rfl,rfl⟩:=c'
    rfl
  . rw[zBJ c]
    exact ih
theorem zEL {α:Type}(p:α->Bool):∀ts:List α,ts.Perm (ts.filter (fun t=>!p t)++ts.filter p)
 | []=>List.Perm.refl _
 | t::ts=>by
  have ih:=zEL p ts
  by_cases c:p t=true
  . rw[zBJ (by rw[c];simp),zBI c]
    exact (ih.cons t).trans List.perm_middle.symm
  . rw[zBI (by simpa using c),zBJ c]
    exact ih.cons t
theorem zJg {a b:Int}{ts:List T3}(h:ts.Pairwise fun s t=>¬ (s.1=t.1/\s.2.1=t.2.1)):ts.Perm (zDq a b ts++zIi a b (zCE a b ts)):=by
 rw[<-zEi h]
 exact zEL (isP a b) ts
structure Aft (a b:Int)(lo:Option Int)(ts ts':List T3):Prop where
 pm:ts'.Perm (zDq a b ts++zIi a b lo)
 sr:zEW ts'
theorem Aft.uniq {a b:Int}{lo:Option Int}{ts t1 t2:List T3}(x:Aft a b lo ts t1)(y:Aft a b lo ts t2):t1=t2:=x.sr.uniq y.sr (x.pm.trans y.pm.symm)
theorem Aft.strike {a b:Int}{ts:List T3}(h:zEW ts):Aft a b none ts (zDq a b ts):=⟨by rw[show zIi a b none=[] from rfl,zr],h.but⟩
theorem Aft.gw {n a b:Int}{lo:Option Int}{ts t1:List T3}(G:GW n ts)(x:Aft a b lo ts t1)(h0:0<=a)(h1:a<b)(h2:b<n)(hl:∀l,lo=some l->1<=l/\l<=99)(h60:(zDq a b ts).length<=60):GW n t1:=by
 refine⟨G.n1,G.n24,?_,fun t ht=>?_,?_⟩
 . rw[x.pm.length_eq,zN]
   cases lo with
   | none=>show (zDq a b ts).length+0<64;omega
   | some l=>show (zDq a b ts).length+1<64;omega
 . rcases zx.mp (x.pm.mem_iff.mp ht) with q | q
   . exact G.rng t (zAx.mp q).1
   . cases lo with
     | none=>cases q
     | some l=>
      rw[zi.mp q]
      exact⟨h0,h1,h2,hl l rfl⟩
 . refine (List.Perm.pairwise_iff (R:=fun s t:T3=>¬ (s.1=t.1/\s.2.1=t.2.1)) (fun h e=>h ⟨e.1.symm,e.2.symm⟩) x.pm).mpr ?_
   refine List.pairwise_append.mpr ⟨G.dis.filter _,?_,fun s hs t ht e=>?_⟩
   . cases lo with
     | none=>exact zBb
     | some l=>exact List.pairwise_singleton _ _
   . cases lo with
     | none=>cases ht
     | some l=>
      rw[zi.mp ht] at e
      have:=(zAx.mp hs).2
      rw[zDg.mpr e] at this
      cases this
theorem zKQ:∀a b c d:Fin 9,a<b->c<d->b.val*(b.val-1)/2+a.val=d.val*(d.val-1)/2+c.val->a=c/\b=d:=by decide +kernel
theorem tri_lt:∀a b:Fin 9,a<b->b.val*(b.val-1)/2+a.val<36:=by decide +kernel
theorem GW.few {n:Int}{ts:List T3}(G:GW n ts)(h9:n<=9):ts.length<=36:=by
 have f:∀t:T3,t∈ts->∃a b:Fin 9,a<b/\(a.val:Int)=t.1/\(b.val:Int)=t.2.1:=fun t ht=>by
  obtain⟨r1,r2,r3,_⟩:=G.rng t ht
  exact⟨⟨t.1.toNat,by omega⟩,⟨t.2.1.toNat,by omega⟩,by show t.1.toNat<t.2.1.toNat;omega,by show ((t.1.toNat:Nat):Int)=_;omega,by show ((t.2.1.toNat:Nat):Int)=_;omega⟩
 have nd:(ts.map fun t:T3=>((t.2.1.toNat*(t.2.1.toNat-1)/2+t.1.toNat:Nat):Int)).Nodup:=by
  rw[List.Nodup,zAU]
  refine G.dis.imp_of_mem fun {s t} hs ht hne e=>?_
  obtain⟨a,b,ab,e1,e2⟩:=f s hs
  obtain⟨c,d,cd,e3,e4⟩:=f t ht
  have z1:s.1.toNat=a.val:=by omega
  have z2:s.2.1.toNat=b.val:=by omega
  have z3:t.1.toNat=c.val:=by omega
  have z4:t.2.1.toNat=d.val:=by omega
  rw[z1,z2,z3,z4] at e
  obtain⟨p,q⟩:=zKQ a b c d ab cd (Int.ofNat.inj e)
  subst p q
  exact hne ⟨by omega,by omega⟩
 have:=nd_len (n:=36) nd fun x hx=>by
  obtain⟨t,ht,rfl⟩:=zAB.mp hx
  obtain⟨a,b,ab,e1,e2⟩:=f t ht
  have z1:t.1.toNat=a.val:=by omega
  have z2:t.2.1.toNat=b.val:=by omega
  have:=tri_lt a b ab
  rw[z1,z2]
  omega
 rw[zD] at this
 omega
noncomputable def loP (x y:Int):Int:=if y<x then y else x
noncomputable def hiP (x y:Int):Int:=if y > x then y else x
theorem lohi {x y n:Int}(hx:0<=x/\x<n)(hy:0<=y/\y<n)(ne:x≠y):0<=loP x y/\loP x y<hiP x y/\hiP x y<n:=by
 unfold loP hiP
 split <;> split <;> omega
theorem zCx {n x y:Int}{ts:List T3}(G:GW n ts)(ne:x≠y):(∃l,Adj ts x y l)↔(zCE (loP x y) (hiP x y) ts).isSome=true:=by
 have e:=zEi (a:=loP x y) (b:=hiP x y) G.dis
 constructor
 . rintro ⟨l,h⟩
   have:(loP x y,hiP x y,l)∈ts.filter (isP (loP x y) (hiP x y)):=by
    refine zAx.mpr ⟨?_,zDg.mpr ⟨rfl,rfl⟩⟩
    unfold loP hiP
    rcases h with h | h
    . have:=(G.rng _ h).2.1
      dsimp only at this
      rw[if_neg (by omega),if_pos (by omega)];exact h
    . have:=(G.rng _ h).2.1
      dsimp only at this
      rw[if_pos (by omega),if_neg (by omega)];exact h
   cases z:zCE (loP x y) (hiP x y) ts with
   | none=>rw[z] at e;rw[e] at this;cases this
   | some _=>rfl
 . intro h
   obtain⟨l,z⟩:=zBD.mp h
   rw[z] at e
   have:(loP x y,hiP x y,l)∈ts:=(zAx.mp (by rw[e];exact zi.mpr rfl)).1
   refine⟨l,?_⟩
   unfold loP hiP at this
   by_cases c:y<x
   . rw[if_pos c,if_neg (by omega)] at this;exact .inr this
   . rw[if_neg c,if_pos (by omega)] at this;exact .inl this
end K65
namespace K65
open PySem L2 WM
noncomputable def spPlI:Sp:=fun vs H Q _=>∃n i:Int,vs=[.int n,.int i]/\0<=i/\i<=n-1/\Q (.bl true) H
section
variable {X:Cx}
noncomputable def rCatV:R2:=fun x y H Q=>∃(a b:Addr)(xs ys:List V),x = .ref a/\y = .ref b/\H a=some (.tup xs)/\H b=some (.tup ys)/\xs.length+ys.length<=sizeLine/\∀(p:Addr)(H':Hp),zAW H H'->H' p=some (.tup (xs++ys))->Q (.ref p) H'
theorem zCM:OpR X (binaryOp .Add) rCatV:=fun pins s σ H x y v u Q I rx ry h=>by
 obtain⟨a,b,xs,ys,rfl,rfl,ha,hb,hz,q⟩:=h
 refine zLE pins s σ H _ _ v u Q I rx ry ⟨a,b,xs,ys,rfl,rfl,SqT.of ha,SqT.of hb,hz,fun e=>?_,fun _ e=>?_,fun _ _ p hp=>q p _ (zF hp) zH⟩
 . subst e;exact q b H (zAW.refl _) hb
 . subst e;exact q a H (zAW.refl _) (by rw[zr];exact ha)
noncomputable def rSlV:V->Option Int->Option Int->Hp->VK->Prop:=fun x lo hi H Q=>∃(a:Addr)(xs:List V),x = .ref a/\H a=some (.tup xs)/\∀(p:Addr)(H':Hp),zAW H H'->H' p=some (.tup (zC0 xs lo hi))->Q (.ref p) H'
theorem zBz:SlR X rSlV:=fun pins s σ H x v vl vu lo hi sl Q I rx hs pl pu h=>by
 obtain⟨a,xs,rfl,ha,q⟩:=h
 refine zKl pins s σ H _ v vl vu lo hi sl Q I rx hs pl pu ⟨a,xs,rfl,SqT.of ha,fun e=>?_,fun _ p hp=>q p _ (zF hp) zH⟩
 refine q a H (zAW.refl _) ?_
 have:zC0 xs lo hi=xs:=by
  unfold zC0
  rw[e.1,e.2,List.drop_zero,Nat.sub_zero,zm (zM _)]
 rw[this]
 exact ha
end
noncomputable def zKf:Sp:=fun vs H Q _=>∃l:Int,vs=[.int l]/\1<=l/\l<=99/\Q (.bl true) H
noncomputable def zED:Sp:=fun vs H Q _=>∃(wa:Addr)(n:Int)(ts:List T3)(x y:Int),vs=[.ref wa,.int x,.int y]/\zAe H wa n ts/\(0<=x/\x<n)/\(0<=y/\y<n)/\x≠y /\
 ∀(p:Addr),H p=none->Q (.ref p) (upd H p (.tup [.int (loP x y),.int (hiP x y)]))
noncomputable def zKh:Sp:=fun vs H Q _=>∃(wa p:Addr)(n:Int)(ts:List T3)(a b:Int),vs=[.ref wa,.ref p]/\zAe H wa n ts/\H p=some (.tup [.int a,.int b]) /\
 ∀(D:Addr)(ys:List V)(H':Hp),zAW H H'->H D=none->H' D=some (.lst ys)->zw H' ys ((zDq a b ts).map tl)->Q (.ref D) H'
noncomputable def zHC:Sp:=fun vs H Q _=>∃(wa:Addr)(n:Int)(ts:List T3)(x y l:Int),vs=[.ref wa,.int x,.int y,.int l]/\zAe H wa n ts/\(0<=x/\x<n)/\(0<=y/\y<n)/\x≠y/\(1<=l/\l<=99)/\((zCE (loP x y) (hiP x y) ts).isSome=true\/ts.length<60)/\ts.length<=60 /\
 ∀(wb:Addr)(ts':List T3)(H':Hp),zAW H H'->H wb=none->zAe H' wb n ts'->Aft (loP x y) (hiP x y) (some l) ts ts'->Q (.ref wb) H'
noncomputable def zHB:Sp:=fun vs H Q _=>∃(wa:Addr)(n:Int)(ts:List T3)(x y:Int),vs=[.ref wa,.int x,.int y]/\zAe H wa n ts/\zEW ts/\(0<=x/\x<n)/\(0<=y/\y<n)/\x≠y/\(zCE (loP x y) (hiP x y) ts).isSome=true/\ts.length<=60 /\
 ∀(wb:Addr)(ts':List T3)(H':Hp),zAW H H'->H wb=none->zAe H' wb n ts'->Aft (loP x y) (hiP x y) none ts ts'->Q (.ref wb) H'
theorem zE4 {ts:List T3}{ms:List (List Int)}(hp:ms.Perm (ts.map tl)):∃ts':List T3,ts'.map tl=ms/\ts'.Perm ts:=by
 refine⟨ms.map fun k:List Int=>((k.getD 0 0,k.getD 1 0,k.getD 2 0):T3),?_,?_⟩
 . rw[List.map_map]
   conv=>rhs;rw[<-List.map_id ms]
   refine zBQ fun k hk=>?_
   obtain⟨t',_,rfl⟩:=zAB.mp (hp.mem_iff.mp hk)
   rfl
 . have:=hp.map fun k:List Int=>((k.getD 0 0,k.getD 1 0,k.getD 2 0):T3)
   rw[List.map_map] at this
   have e:ts.map ((fun k:List Int=>((k.getD 0 0,k.getD 1 0,k.getD 2 0):T3))∘tl)=ts:=by
    conv=>rhs;rw[<-List.map_id ts]
    exact zBQ fun t' _=>rfl
   rw[e] at this
   exact this
theorem cut2 (t:T3):zC0 ((tl t).map V.int) none (some 2)=[.int t.1,.int t.2.1]:=rfl
theorem zES {ts:List T3}{i:Nat}{k:T3}{f:T3->Bool}(h:ts[i]? = some k):(ts.take (i+1)).filter f=(ts.take i).filter f++(if f k=true then [k] else []):=by
 rw[zAL,h,List.filter_append]
 show _++List.filter f [k]=_
 rw[zBU]
 rfl
section
variable {P:Program}{w:World}{K:PySem.W.Frag}{mg:Str->Option Value}{base:Heap}
theorem scIsL:zAA ["thing"] ["thing"] (defScope sIsL):=⟨rfl,rfl,rfl,by decide +kernel,rfl,by decide +kernel,by decide +kernel⟩
noncomputable def zGI:Sp:=fun vs H Q _=>∃(v:V)(d:PyData),vs=[v]/\zAZ H v d/\Q (.bl (zAM d 1 99)) H
theorem zLP {f fW fN:Addr}{fd' fdW fdN:FuncData}{tk:Tok}(F:Fun K "is_long" "is_long" sIsL f fd') (FW:Fun K "is_within" "is_within" sWi fW fdW) (bW:zt K fdW ["thing", "least", "most"] []) (mW:mg "is_within" = some (.ref fW)) (FN:Fun K "is_number" "is_number" zKt fN fdN) (bN:zt K fdN ["thing"] []) (mN:mg "is_number" = some (.ref fN)) (mIsi:mg "isinstance" = none) (mInt:mg "int" = none) (mBool:mg "bool" = none) (mML:mg "MOST_LONG" = some (.int 99 tk)) :
 zy P w K mg base CX0 3 f fd' ["thing"] zGI:=by
 have GW':zy P w K mg base CX0 2 fW fdW ["thing", "least", "most"] spWi:=ok_wi FW FN bN mN mIsi mInt mBool
 refine F.ok scIsL (fun vs H Q E h=>?_) (fun cdv A outer s H vs Q E hr h=>?_)
 . obtain⟨v,d,rfl,_⟩:=h
   rfl
 . obtain⟨v,d,rfl,S,k⟩:=h
   refine⟨_,zX (zAD (zg GW' hr rfl mW FW.kp bW .nil zAI (zB (pv 0) (zB zY (zB (zAm (v:=.int 99) rfl mML ⟨tk,rfl⟩) zK))))),?_⟩
   exact⟨_,rfl,v,d,1,99,rfl,S,k⟩
theorem zHo {k:Nat}{f:Addr}{fd':FuncData}(F:zy P w K mg base CX0 k f fd' ["thing"] zGI):zy P w K mg base CX0 k f fd' ["thing"] zKf:=F.imp fun vs H Q E h=>by
 obtain⟨l,rfl,h1,h2,q⟩:=h
 refine⟨.int l,.int l,rfl,.int l,?_⟩
 rw[show zAM (.int l) 1 99=true from by simp[zAM,h1,h2]]
 exact q
theorem zHm {k:Nat}{f:Addr}{fd':FuncData}(F:zy P w K mg base CX0 k f fd' ["n", "thing"] spPl):zy P w K mg base CX0 k f fd' ["n", "thing"] spPlI:=F.imp fun vs H Q E h=>by
 obtain⟨n,i,rfl,h1,h2,q⟩:=h
 refine⟨n,.int i,.int i,rfl,.int i,?_⟩
 rw[show zAM (.int i) 0 (n-1)=true from by simp[zAM];omega]
 exact q
theorem zJ1:zAA ["web", "one", "other"] ["web", "one", "other"] (defScope zEe):=⟨rfl,rfl,rfl,by decide +kernel,rfl,by decide +kernel,by decide +kernel⟩
theorem zLJ {f fP fW fN:Addr}{fd' fdP fdW fdN:FuncData}(F:Fun K "pair_of" "pair_of" zEe f fd') (FP:Fun K "is_place" "is_place" sPl fP fdP) (bP:zt K fdP ["n", "thing"] []) (mP:mg "is_place" = some (.ref fP)) (GP:zy P w K mg base CX0 3 fP fdP ["n", "thing"] spPlI) (mMin:mg "min" = none) (mMax:mg "max" = none) :
 zy P w K mg base CX0 4 f fd' ["web", "one", "other"] zED:=by
 refine F.ok zJ1 (fun vs H Q E h=>?_) (fun cdv A outer s H vs Q E hr h=>?_)
 . obtain⟨wa,n,ts,x,y,rfl,_⟩:=h
   rfl
 . obtain⟨wa,n,ts,x,y,rfl,W,hx,hy,ne,k⟩:=h
   obtain⟨ta,tys,hwa,_,_,G⟩:=id W
   refine⟨_,zO (zBK (PW.pt (zFD (zBu (zBd (zg GP hr rfl mP FP.kp bP .nil zAI (zB (zAC zAR (pv 0) zY (fun _ _=>rfl)) (zB (pv 1) zK)))))
    (zFD (zBu (zBd (zg GP hr rfl mP FP.kp bP .nil zAI (zB (zAC zAR (pv 0) zY (fun _ _=>rfl)) (zB (pv 2) zK)))))
    (zEJ (zAG zCD (pv 1) (pv 2) (zAN _)))))) (zX zFG) zAO)
    (zX (zAD (zAY (zB (zn (zCt rfl) (by rfl) mMin (by decide +kernel) (zB (pv 1) (zB (pv 2) zK))) (zB (zn (zDo rfl) (by rfl) mMax (by decide +kernel) (zB (pv 1) (zB (pv 2) zK))) zK))))),?_⟩
   refine⟨_,rfl,wa,_,_,_,rfl,rfl,SqT.of hwa,rfl,_,rfl,n,x,rfl,hx.1,by omega,true,rfl,zCR ?_⟩
   refine⟨_,rfl,wa,_,_,_,rfl,rfl,SqT.of hwa,rfl,_,rfl,n,y,rfl,hy.1,by omega,true,rfl,zCR ?_⟩
   refine⟨_,rfl,_,rfl,rfl,_,rfl,ifF (zb fun z=>ne (V.int.inj z)) ?_⟩
   exact⟨_,rfl,_,rfl,x,y,rfl,_,rfl,_,rfl,x,y,rfl,by show 2<=sizeLine;decide,fun p hp=>k p hp⟩
theorem scBut:zAA ["web", "pair"] ["web", "pair"] (defScope sBut):=⟨rfl,rfl,rfl,by decide +kernel,rfl,by decide +kernel,by decide +kernel⟩
theorem zJ8 {f:Addr}{fd':FuncData}(F:Fun K "ties_but" "ties_but" sBut f fd'):zy P w K mg base CX0 1 f fd' ["web", "pair"] zKh:=by
 refine F.ok scBut (fun vs H Q E h=>?_) (fun cdv A outer s H vs Q E hr h=>?_)
 . obtain⟨wa,p,n,ts,a,b,rfl,_⟩:=h
   rfl
 . obtain⟨wa,p,n,ts,a,b,rfl,W,hp,k⟩:=h
   obtain⟨ta,tys,hwa,hta,TA,G⟩:=id W
   have hu0:=hr.units0
   have hlT:=TA.length
   rw[zD] at hlT
   have h64:=G.len
   refine⟨_,zX (zAD (zBS (own:=["tie"]) (cn:=["pair"]) (ci:=[1]) rfl (csc rfl rfl) ⟨rfl,rfl,rfl,trivial⟩ rfl (zDB (zAC zAR (pv 0) zY (fun _ _=>rfl))) (fun _ _ _ _=>zz (i:=0) (zBv rfl) rfl (Or.inl rfl))
    (fun _ _ _ _=>zCI (zAG (zGQ hu0) (zBg zBz (pv 0) zB0 (zBq zY)) (pv 1) (zAN _))) (fun _ _ _ _=>pv 0))),?_⟩
   refine⟨_,rfl,wa,_,_,.ref ta,rfl,rfl,SqT.of hwa,rfl,ta,rfl,⟨_,SqT.of hta⟩,[.ref p],rfl,fun D hD=>?_⟩
   refine zB8 (a:=ta) (xs:=tys) (fun i ys H4=>zw H4 ys ((zDq a b (ts.take i)).map tl)/\zAW H H4/\H4 D=some (.lst ys)) ⟨by rw[List.take_zero];exact trivial,zF hD,zH⟩ (fun i ys H4 h=>?_) (fun i ys H4 h=>?_) (fun i v ys H4 hv h=>?_) (fun ys H4 h=>?_)
   . exact SqT.of (h.2.1 _ _ hta)
   . have h1:=h.1.length
     have h2:=zDp a b (ts.take i)
     rw[zAF] at h2
     rw[zD] at h1
     exact zd (by omega)
   . obtain⟨T4,s4,hD4⟩:=h
     obtain⟨ya,kk,rfl,hkk,hya,_⟩:=TA.get hv
     rw[zU] at hkk
     obtain⟨t,ht,rfl⟩:∃t,ts[i]? = some t/\tl t=kk:=by
      cases e:ts[i]? with
      | none=>rw[e] at hkk;cases hkk
      | some t=>rw[e] at hkk;exact⟨t,rfl,zQ hkk⟩
     have hya4:=s4 _ _ hya
     refine⟨⟨rfl,rfl⟩,?_⟩
     refine⟨_,rfl,_,rfl,ya,_,rfl,hya4,fun q H5 s5 hq=>?_⟩
     rw[cut2] at hq
     refine⟨_,rfl,q,p,[t.1,t.2.1],[a,b],rfl,rfl,SqT.of hq,SqT.of (s5 _ _ (s4 _ _ hp)),_,rfl,?_⟩
     have hD5:=s5 _ _ hD4
     have T5:zw H5 ys ((zDq a b (ts.take i)).map tl):=T4.keep fun b zs e=>s5 _ _ e
     have e:zDq a b (ts.take (i+1))=zDq a b (ts.take i)++(if (!isP a b t)=true then [t] else []):=zES ht
     refine zDL (fun c=>?_) (fun c=>?_)
     . refine⟨_,rfl,hD5,?_,zAy (s4.trans s5) hD,zH⟩
       rw[e,if_pos (by exact c),zR]
       refine (T5.keep fun b zs e=>?_).snoc ⟨ya,rfl,?_,by simp[tl]⟩
       . rw[zV (zAJ e hD5 (by intro z;cases z))];exact e
       . rw[zV (zAJ (s5 _ _ hya4) hD5 (by intro z;cases z))];exact s5 _ _ hya4
     . refine⟨?_,s4.trans s5,hD5⟩
       rw[e,if_neg (by exact c),zr]
       exact T5
   . obtain⟨T4,s4,hD4⟩:=h
     rw[hlT,zm (zM _)] at T4
     exact k D ys H4 s4 hD hD4 T4
theorem zGK:zAA ["web", "one", "other", "long", "pair"] ["web", "one", "other", "long"] (defScope zFt):=⟨rfl,rfl,rfl,by decide +kernel,rfl,by decide +kernel,by decide +kernel⟩
theorem zLG {f fP fL fO fB:Addr}{fd' fdP fdL fdO fdB:FuncData}{tk:Tok}(F:Fun K "with_tie" "with_tie" zFt f fd') (FP:Fun K "pair_of" "pair_of" zEe fP fdP) (bP:zt K fdP ["web", "one", "other"] []) (mP:mg "pair_of" = some (.ref fP)) (GP:zy P w K mg base CX0 4 fP fdP ["web", "one", "other"] zED)
 (FL:Fun K "is_long" "is_long" sIsL fL fdL) (bL:zt K fdL ["thing"] []) (mL:mg "is_long" = some (.ref fL)) (GL:zy P w K mg base CX0 4 fL fdL ["thing"] zKf)
 (FO:Fun K "long_of" "long_of" zFC fO fdO) (bO:zt K fdO ["web", "one", "other"] []) (mO:mg "long_of" = some (.ref fO)) (GO:zy P w K mg base CX0 4 fO fdO ["web", "one", "other"] zEE)
 (FB:Fun K "ties_but" "ties_but" sBut fB fdB) (bB:zt K fdB ["web", "pair"] []) (mB:mg "ties_but" = some (.ref fB)) (mMT:mg "MOST_TIES" = some (.int 60 tk)) (mLen:mg "len" = none) (mTuple:mg "tuple" = none) (mSorted:mg "sorted" = none) :
 zy P w K mg base CX0 5 f fd' ["web", "one", "other", "long"] zHC:=by
 have GB:zy P w K mg base CX0 4 fB fdB ["web", "pair"] zKh:=(zJ8 FB).mono (by decide)
 refine F.ok zGK (fun vs H Q E h=>?_) (fun cdv A outer s H vs Q E hr h=>?_)
 . obtain⟨wa,n,ts,x,y,l,rfl,_⟩:=h
   rfl
 . obtain⟨wa,n,ts,x,y,l,rfl,W,hx,hy,ne,hl,h60,hle,k⟩:=h
   obtain⟨ta,tys,hwa,hta,TA,G⟩:=id W
   have hlT:=TA.length
   rw[zD] at hlT
   obtain⟨a0,ab,bn⟩:=lohi hx hy ne
   refine⟨_,zO (zAK (i:=4) zGK.nd rfl (Or.inl rfl) (zg GP hr rfl mP FP.kp bP .nil zAI (zB (pv 0) (zB (pv 1) (zB (pv 2) zK)))))
    (zO (zBK (zBu (zBd (zg GL hr rfl mL FL.kp bL .nil zAI (zB (pv 3) zK)))) (zX zFG) zAO)
    (zO (zHV (u':=fun (D:zEy) σ H3=>∃p:Addr,σ=[some (.ref wa),some (.int x),some (.int y),some (.int l),some (.ref p)]/\zAe H3 wa n ts/\∀H',zAW H3 H'->D.nx σ H') (zBK (PW.pt (zFE (zAG zCT (zg GO hr rfl mO FO.kp bO .nil zAI (zB (pv 0) (zB (pv 1) (zB (pv 2) zK)))) zBX (zAN _)) (zDU (zAG zLC (zn zAS (by rfl) mLen PySem.boot_len (zB (zAC zAR (pv 0) zY (fun _ _=>rfl)) zK)) (zAm (v:=.int 60) rfl mMT ⟨tk,rfl⟩) (zAN _))))) (zX zFG) zAO) (fun D σ H3 z=>by
     obtain⟨p,rfl,W3,z⟩:=z
     refine⟨_,rfl,_,rfl,_,rfl,wa,n,ts,x,y,rfl,W3,fun r H4 s4 hr4=>?_⟩
     obtain⟨ta',tys',hwa',hta',TA',G'⟩:=W3.keep s4
     have hl':=TA'.length
     rw[zD] at hl'
     refine⟨rfl,_,rfl,?_⟩
     rcases hr4 with ⟨l',ha,rfl⟩ | ⟨hno,rfl⟩
     . exact zCR (zCR (z H4 s4))
     . refine zCz ?_
       refine⟨_,rfl,wa,_,_,.ref ta',rfl,rfl,SqT.of hwa',rfl,ta',_,rfl,.inr (SqT.of hta'),_,_,rfl,rfl,_,rfl,ifF (zb ?_) (z H4 s4)⟩
       rcases h60 with q | q
       . obtain⟨l',ha⟩:=(zCx G ne).mpr q
         exact absurd ha (hno l')
       . rw[hl'];omega))
    (zX (zAD (zAY (zB (zAC zAR (pv 0) zY (fun _ _=>rfl)) (zB (zAd zAP (by rfl) mTuple (by decide +kernel) (zB (zn zB9 (by rfl) mSorted (by decide +kernel) (zB
     (zAc zGR (zg GB hr rfl mB FB.kp bB .nil zAI (zB (pv 0) (zB (pv 4) zK))) (zBF (zB (zAc zCM (pv 4) (zAY (zB (pv 3) zK))) zK))) zK)) zK)) zK))))))),?_⟩
   refine⟨_,rfl,_,rfl,_,rfl,wa,n,ts,x,y,rfl,W,hx,hy,ne,fun p hp=>?_⟩
   have s1:=zF (o:=.tup [.int (loP x y),.int (hiP x y)]) hp
   have hp1:(upd H p (.tup [.int (loP x y),.int (hiP x y)])) p=some (.tup [.int (loP x y),.int (hiP x y)]):=zH
   generalize upd H p (.tup [.int (loP x y),.int (hiP x y)])=H1 at s1 hp1 ⊢
   refine⟨_,rfl,l,rfl,hl.1,hl.2,true,rfl,zCR ?_⟩
   refine⟨p,rfl,W.keep s1,fun H2 s2=>?_⟩
   have s02:=s1.trans s2
   have W2:=W.keep s02
   have hp2:=s2 _ _ hp1
   refine⟨_,rfl,wa,_,_,.int n,rfl,rfl,SqT.of (s02 _ _ hwa),rfl,?_⟩
   refine⟨_,rfl,_,rfl,wa,p,n,ts,_,_,rfl,W2,hp2,fun D ys H3 s3 hD0 hD3 T3=>?_⟩
   refine⟨_,rfl,_,rfl,by show 1<=sizeLine;decide,fun q hq=>?_⟩
   have s4:=zF (o:=.tup [.int l]) hq
   refine⟨p,q,_,_,rfl,rfl,s4 _ _ (s3 _ _ hp2),zH,by show 3<=sizeLine;decide,fun c H5 s5 hc=>?_⟩
   refine⟨by show 1<=sizeLine;decide,fun L hL=>?_⟩
   have s6:=zF (o:=.lst [.ref c]) hL
   have s36:=s4.trans (s5.trans s6)
   have hly:=T3.length
   have hbl:=zDp (loP x y) (hiP x y) ts
   rw[zD] at hly
   refine⟨D,L,_,_,rfl,rfl,s36 _ _ hD3,zH,zAE (zd (by show ys.length+1<=100000;omega)),fun D2 hD2=>?_⟩
   have s7:=zF (o:=.lst (ys++[.ref c])) hD2
   have T7:zw (upd (upd H5 L (.lst [.ref c])) D2 (.lst (ys++[.ref c]))) (ys++[.ref c]) ((zDq (loP x y) (hiP x y) ts++zIi (loP x y) (hiP x y) (some l)).map tl):=by
    rw[zR]
    exact (T3.keep fun b zs e=>s7 _ _ (s36 _ _ e)).snoc ⟨c,rfl,s7 _ _ (s6 _ _ hc),by simp[tl]⟩
   refine⟨D2,_,_,rfl,SqL.of zH,T7,by rw[zD,zN];show (zDq (loP x y) (hiP x y) ts).length+1<64;omega,fun l2 us ms hl2 TA2 hpm hris=>?_⟩
   refine⟨l2,_,rfl,.inl ⟨SqL.of zH,fun ta2 hta2=>?_⟩⟩
   refine⟨by show 2<=sizeLine;decide,fun wb hwb=>?_⟩
   have s8:=(zF (o:=.lst us) hl2).trans (zF (o:=.tup us) hta2)
   have s9:=s8.trans (zF (o:=.tup [.int n,.ref ta2]) hwb)
   have s29:=(s02.trans s3).trans (s36.trans (s7.trans s8))
   obtain⟨ts',ets,pm'⟩:=zE4 hpm
   have A:Aft (loP x y) (hiP x y) (some l) ts ts':=⟨pm',by unfold zEW;rw[ets];exact hris⟩
   refine k wb ts' _ ((s02.trans s3).trans (s36.trans (s7.trans s9))) (zAk s29 hwb) ⟨ta2,us,zH,zF hwb _ _ zH,?_,A.gw G a0 ab bn (fun l' e=>by cases e;exact hl) (by omega)⟩ A
   rw[ets]
   exact TA2.keep fun b zs e=>s9 _ _ e
theorem zGJ:zAA ["web", "one", "other", "pair"] ["web", "one", "other"] (defScope zFs):=⟨rfl,rfl,rfl,by decide +kernel,rfl,by decide +kernel,by decide +kernel⟩
theorem zLF {f fP fO fB:Addr}{fd' fdP fdO fdB:FuncData}(F:Fun K "without_tie" "without_tie" zFs f fd') (FP:Fun K "pair_of" "pair_of" zEe fP fdP) (bP:zt K fdP ["web", "one", "other"] []) (mP:mg "pair_of" = some (.ref fP)) (GP:zy P w K mg base CX0 4 fP fdP ["web", "one", "other"] zED)
 (FO:Fun K "long_of" "long_of" zFC fO fdO) (bO:zt K fdO ["web", "one", "other"] []) (mO:mg "long_of" = some (.ref fO)) (GO:zy P w K mg base CX0 4 fO fdO ["web", "one", "other"] zEE)
 (FB:Fun K "ties_but" "ties_but" sBut fB fdB) (bB:zt K fdB ["web", "pair"] []) (mB:mg "ties_but" = some (.ref fB)) (mTuple:mg "tuple" = none) :
 zy P w K mg base CX0 5 f fd' ["web", "one", "other"] zHB:=by
 have GB:zy P w K mg base CX0 4 fB fdB ["web", "pair"] zKh:=(zJ8 FB).mono (by decide)
 refine F.ok zGJ (fun vs H Q E h=>?_) (fun cdv A outer s H vs Q E hr h=>?_)
 . obtain⟨wa,n,ts,x,y,rfl,_⟩:=h
   rfl
 . obtain⟨wa,n,ts,x,y,rfl,W,hS,hx,hy,ne,hsome,hle,k⟩:=h
   obtain⟨ta,tys,hwa,hta,TA,G⟩:=id W
   obtain⟨a0,ab,bn⟩:=lohi hx hy ne
   refine⟨_,zO (zAK (i:=3) zGJ.nd rfl (Or.inl rfl) (zg GP hr rfl mP FP.kp bP .nil zAI (zB (pv 0) (zB (pv 1) (zB (pv 2) zK)))))
    (zO (zBK (zAG zCT (zg GO hr rfl mO FO.kp bO .nil zAI (zB (pv 0) (zB (pv 1) (zB (pv 2) zK)))) zBX (zAN _)) (zX zFG) zAO)
    (zX (zAD (zAY (zB (zAC zAR (pv 0) zY (fun _ _=>rfl)) (zB (zAd zAP (by rfl) mTuple (by decide +kernel) (zB (zg GB hr rfl mB FB.kp bB .nil zAI (zB (pv 0) (zB (pv 3) zK))) zK)) zK)))))),?_⟩
   refine⟨_,rfl,_,rfl,_,rfl,wa,n,ts,x,y,rfl,W,hx,hy,ne,fun p hp=>?_⟩
   have s1:=zF (o:=.tup [.int (loP x y),.int (hiP x y)]) hp
   have hp1:(upd H p (.tup [.int (loP x y),.int (hiP x y)])) p=some (.tup [.int (loP x y),.int (hiP x y)]):=zH
   generalize upd H p (.tup [.int (loP x y),.int (hiP x y)])=H1 at s1 hp1 ⊢
   refine⟨_,rfl,_,rfl,_,rfl,wa,n,ts,x,y,rfl,W.keep s1,fun r H2 s2 hr2=>?_⟩
   have s02:=s1.trans s2
   obtain⟨l',ha,rfl⟩:∃l,Adj ts x y l/\r = .int l:=by
    rcases hr2 with z | ⟨hno,_⟩
    . exact z
    . obtain⟨l',ha⟩:=(zCx G ne).mpr hsome
      exact absurd ha (hno l')
   refine⟨rfl,_,rfl,zCR ?_⟩
   refine⟨_,rfl,wa,_,_,.int n,rfl,rfl,SqT.of (s02 _ _ hwa),rfl,?_⟩
   refine⟨_,rfl,_,rfl,wa,p,n,ts,_,_,rfl,W.keep s02,s2 _ _ hp1,fun D ys H3 s3 hD0 hD3 T3=>?_⟩
   refine⟨D,_,rfl,.inl ⟨SqL.of hD3,fun ta2 hta2=>?_⟩⟩
   refine⟨by show 2<=sizeLine;decide,fun wb hwb=>?_⟩
   have s8:=zF (o:=.tup ys) hta2
   have s9:=s8.trans (zF (o:=.tup [.int n,.ref ta2]) hwb)
   have hbl:=zDp (loP x y) (hiP x y) ts
   have A:Aft (loP x y) (hiP x y) none ts (zDq (loP x y) (hiP x y) ts):=Aft.strike hS
   exact k wb _ _ ((s02.trans s3).trans s9) (zAk ((s02.trans s3).trans s8) hwb) ⟨ta2,ys,zH,zF hwb _ _ zH,T3.keep fun b zs e=>s9 _ _ e,A.gw G a0 ab bn (fun l' e=>by cases e) (by omega)⟩ A
end
end K65
namespace K65
open PySem L2 WM
noncomputable def SmK (kp:Addr)(H H':Hp):Prop:=∀b o,b≠kp->H b=some o->(∃ps,o = .tbl ps)\/H' b=some o
theorem SmK.of {kp:Addr}{H H':Hp}(h:zAW H H'):SmK kp H H':=fun b o _ e=>.inr (h b o e)
theorem SmK.ofT {kp:Addr}{H H':Hp}(h:SmT H H'):SmK kp H H':=fun b o _ e=>h b o e
theorem SmK.trans {kp:Addr}{H H1 H2:Hp}(a:SmK kp H H1)(b:SmK kp H1 H2):SmK kp H H2:=fun c o n e=>by
 rcases a c o n e with z | z
 . exact .inl z
 . exact b c o n z
theorem SmK.get {kp:Addr}{H H':Hp}(s:SmK kp H H'){b:Addr}{o:HO}(n:b≠kp)(e:H b=some o)(h:∀ps,o ≠ .tbl ps):H' b=some o:=by
 rcases s b o n e with ⟨ps,z⟩ | z
 . exact absurd z (h ps)
 . exact z
theorem SmK.chg {kp:Addr}{H H':Hp}{o:HO}(s:SmK kp H H'):SmK kp H (upd H' kp o):=fun b u n e=>by rw[zV n];exact s b u n e
theorem zJm {H:Hp}{kp PT C dx:Addr}{pos:Pos}{q:Str}{fs:List (Str×V)}{o:HO}(T:zB5 H PT pos q)(h:H kp=some (.ins C dx fs)):zB5 (upd H kp o) PT pos q:=by
 refine T.keep (fun u e=>?_) fun c φ e=>?_
 . obtain⟨ps,hps,_⟩:=T
   rw[zV (zAJ hps h (by intro z;cases z))];exact e
 . rw[zV (zAJ e h (by intro z;cases z))];exact e
noncomputable def fsK (la wa oa:Addr):List (Str×V):=[("labels",.ref la),("web",.ref wa),("order",.ref oa)]
structure zBB (H:Hp)(C kp dx la wa oa:Addr)(n:Int)(ts:List T3)(os:List Int)(ess:List (List En)):Prop where
 ins:H kp=some (.ins C dx (fsK la wa oa))
 web:zAe H wa n ts
 ord:H oa=some (.tup (os.map V.int))
 lab:zCV H la ess
 lof:∃rk,zKM n os rk/\zDw ts n rk ess
 od:zGB n os
 sr:zEW ts
theorem zBB.keep {H H':Hp}{C kp dx la wa oa:Addr}{n:Int}{ts:List T3}{os:List Int}{ess:List (List En)}(h:zBB H C kp dx la wa oa n ts os ess)(k1:H' kp=H kp)(k2:∀b ys,H b=some (.tup ys)->H' b=some (.tup ys)):zBB H' C kp dx la wa oa n ts os ess:=
 ⟨k1.trans h.ins,h.web.keepT k2,k2 _ _ h.ord,h.lab.keep k2,h.lof,h.od,h.sr⟩
theorem zBB.same {H H':Hp}{C kp dx la wa oa:Addr}{n:Int}{ts:List T3}{os:List Int}{ess:List (List En)}(h:zBB H C kp dx la wa oa n ts os ess)(s:zAW H H'):zBB H' C kp dx la wa oa n ts os ess:=
 h.keep ((s _ _ h.ins).trans h.ins.symm) fun b ys e=>s _ _ e
theorem zBB.tupK {H:Hp}{C kp dx la wa oa b:Addr}{n:Int}{ts:List T3}{os:List Int}{ess:List (List En)}{ys:List V}(h:zBB H C kp dx la wa oa n ts os ess)(e:H b=some (.tup ys)):b≠kp:=zAJ e h.ins (by intro z;cases z)
noncomputable def enL (e:En):List (Option Int):=[some e.h,some e.l,e.u,e.d]
noncomputable def zHz (es:List En):List (List (Option Int)):=es.map enL
theorem zDM.tab {K:PySem.W.Frag}{H:Hp}{p:Addr}{es:List En}(h:zDM H p es):TabT K H p (zHz es):=by
 obtain⟨as,h1,h2,_⟩:=h
 refine⟨as,SqT.of h1,by unfold zHz;rw[zD];exact h2.1,fun i r row hr hrow=>?_⟩
 obtain⟨e,he,hH⟩:=h2.2 i r hr
 unfold zHz at hrow
 rw[zU,he] at hrow
 have e1:enL e=row:=zQ hrow
 rw[<-e1]
 exact hH
noncomputable def dif (n:Nat)(ess ess':List (List En)):List Int:=(lowTo n).filter fun i=>!decide (zHz (ess.getD i.toNat [])=zHz (ess'.getD i.toNat []))
theorem zJc (n:Nat)(ess ess':List (List En)):dif n ess ess'=dif n ess' ess:=by
 unfold dif
 congr 1
 funext i
 congr 1
 by_cases h:zHz (ess.getD i.toNat [])=zHz (ess'.getD i.toNat [])
 . rw[zZ h,zZ h.symm]
 . rw[zb h,zb fun z=>h z.symm]
theorem zGt (m:Nat):lowTo (m+1)=lowTo m++[(m:Int)]:=by
 unfold lowTo
 rw[List.range_succ,zR];rfl
theorem zCV.at_ {H:Hp}{l:Addr}{ess:List (List En)}(h:zCV H l ess){i:Nat}(hi:i<ess.length):∃(as:List Addr)(a:Addr),H l=some (.tup (as.map V.ref))/\(as.map V.ref)[i]? = some (.ref a)/\zDM H a (ess.getD i []):=by
 obtain⟨as,h1,h2,h3⟩:=h
 have hl:i<as.length:=by omega
 obtain⟨es,e1,e2⟩:=h3 i as[i] (zC hl)
 refine⟨as,as[i],h1,by rw[zU,zC hl];rfl,?_⟩
 rw[zE,e1]
 exact e2
structure KC (K:PySem.W.Frag)(mg:Str->Option Value)(C fI fP fS fT fW fL:Addr):Prop where
 mC:mg "Keeper" = some (.ref C)
 mI:Mk K C fI
 cl:Cls K C
 nl:zCB K C "labels"
 nw:zCB K C "web"
 no:zCB K C "order"
 mP:zKN K C "put" fP
 mS:zKN K C "strike" fS
 mT:zKN K C "turn_to" fT
 mW:zKN K C "web_now" fW
 mL:zKN K C "labels_now" fL
noncomputable def spKI (C PT:Addr):Sp:=fun vs H Q _=>∃(kp dx wa oa:Addr)(n:Int)(ts:List T3)(os:List Int),vs=[.ref kp,.ref wa,.ref oa]/\H kp=some (.ins C dx [])/\zAe H wa n ts/\zEW ts/\H oa=some (.tup (os.map V.int))/\zGB n os/\Tb H PT /\
 ∀(la:Addr)(ess:List (List En))(H':Hp),SmK kp H H'->Tb H' PT->zBB H' C kp dx la wa oa n ts os ess->Q .non H'
noncomputable def spKW (C:Addr):Sp:=fun vs H Q _=>∃(kp dx la wa oa:Addr)(n:Int)(ts:List T3)(os:List Int)(ess:List (List En)),vs=[.ref kp]/\zBB H C kp dx la wa oa n ts os ess/\Q (.ref wa) H
noncomputable def spKL (C:Addr):Sp:=fun vs H Q _=>∃(kp dx la wa oa:Addr)(n:Int)(ts:List T3)(os:List Int)(ess:List (List En)),vs=[.ref kp]/\zBB H C kp dx la wa oa n ts os ess/\Q (.ref la) H
noncomputable def spKT (C PT:Addr):Sp:=fun vs H Q _=>∃(kp dx la wa oa wb:Addr)(n:Int)(ts ts2:List T3)(os:List Int)(ess:List (List En)),vs=[.ref kp,.ref wb]/\zBB H C kp dx la wa oa n ts os ess/\zAe H wb n ts2/\zEW ts2/\Tb H PT /\
 ∀(pa la':Addr)(ess':List (List En))(H':Hp),SmK kp H H'->Tb H' PT->zBB H' C kp dx la' wb oa n ts2 os ess'->H' pa=some (.tup ((dif n.toNat ess ess').map V.int))->Q (.ref pa) H'
noncomputable def zLu (C PT kp dx oa:Addr)(n x y:Int)(lo:Option Int)(ts:List T3)(os:List Int)(ess:List (List En))(H:Hp)(Q:VK):Prop:=
 ∀(pa la' wb:Addr)(ts2:List T3)(ess':List (List En))(H':Hp),SmK kp H H'->Tb H' PT->zBB H' C kp dx la' wb oa n ts2 os ess'->Aft (loP x y) (hiP x y) lo ts ts2->H' pa=some (.tup ((dif n.toNat ess ess').map V.int))->Q (.ref pa) H'
noncomputable def spKP (C PT:Addr):Sp:=fun vs H Q _=>∃(kp dx la wa oa:Addr)(n x y l:Int)(ts:List T3)(os:List Int)(ess:List (List En)),vs=[.ref kp,.int x,.int y,.int l]/\zBB H C kp dx la wa oa n ts os ess/\(0<=x/\x<n)/\(0<=y/\y<n)/\x≠y/\(1<=l/\l<=99)/\((zCE (loP x y) (hiP x y) ts).isSome=true\/ts.length<60)/\ts.length<=60/\Tb H PT/\zLu C PT kp dx oa n x y (some l) ts os ess H Q
noncomputable def spKS (C PT:Addr):Sp:=fun vs H Q _=>∃(kp dx la wa oa:Addr)(n x y:Int)(ts:List T3)(os:List Int)(ess:List (List En)),vs=[.ref kp,.int x,.int y]/\zBB H C kp dx la wa oa n ts os ess/\(0<=x/\x<n)/\(0<=y/\y<n)/\x≠y/\(zCE (loP x y) (hiP x y) ts).isSome=true/\ts.length<=60/\Tb H PT/\zLu C PT kp dx oa n x y none ts os ess H Q
theorem put1 (la:V):zC2 "labels" la []=([("labels",la)]:List (Str×V)):=rfl
theorem put2 (la wa:V):zC2 "web" wa [("labels",la)]=([("labels",la),("web",wa)]:List (Str×V)):=by
 unfold zC2;rw[if_neg (by decide)];rfl
theorem put3 (la wa oa:V):zC2 "order" oa [("labels",la),("web",wa)]=([("labels",la),("web",wa),("order",oa)]:List (Str×V)):=by
 unfold zC2;rw[if_neg (by decide)];unfold zC2;rw[if_neg (by decide)];rfl
theorem put4 (la wa oa la':V):zC2 "labels" la' [("labels",la),("web",wa),("order",oa)]=([("labels",la'),("web",wa),("order",oa)]:List (Str×V)):=by
 unfold zC2;rw[if_pos rfl]
theorem put5 (la wa oa wb:V):zC2 "web" wb [("labels",la),("web",wa),("order",oa)]=([("labels",la),("web",wb),("order",oa)]:List (Str×V)):=by
 unfold zC2;rw[if_neg (by decide)];unfold zC2;rw[if_pos rfl]
section
variable {P:Program}{w:World}{K:PySem.W.Frag}{mg:Str->Option Value}{base:Heap}{C fI fP fS fT fW fL PT:Addr}
theorem scKW:zAA ["self"] ["self"] (defScope sKW):=⟨rfl,rfl,rfl,by decide +kernel,rfl,by decide +kernel,by decide +kernel⟩
theorem ok_KW {f:Addr}{fd':FuncData}(T:KC K mg C fI fP fS fT fW fL)(F:Fun K "web_now" "Keeper.web_now" sKW f fd'):zy P w K mg base CX0 1 f fd' ["self"] (spKW C):=by
 refine F.ok scKW (fun vs H Q E h=>?_) (fun cdv A outer s H vs Q E hr h=>?_)
 . obtain⟨kp,dx,la,wa,oa,n,ts,os,ess,rfl,_⟩:=h
   rfl
 . obtain⟨kp,dx,la,wa,oa,n,ts,os,ess,rfl,k,q⟩:=h
   refine⟨_,zX (zAD (zCg (pv 0) rfl)),?_⟩
   exact⟨_,rfl,kp,C,dx,_,_,rfl,k.ins,T.cl,T.nw,rfl,q⟩
theorem scKL:zAA ["self"] ["self"] (defScope sKL):=⟨rfl,rfl,rfl,by decide +kernel,rfl,by decide +kernel,by decide +kernel⟩
theorem ok_KL {f:Addr}{fd':FuncData}(T:KC K mg C fI fP fS fT fW fL)(F:Fun K "labels_now" "Keeper.labels_now" sKL f fd'):zy P w K mg base CX0 1 f fd' ["self"] (spKL C):=by
 refine F.ok scKL (fun vs H Q E h=>?_) (fun cdv A outer s H vs Q E hr h=>?_)
 . obtain⟨kp,dx,la,wa,oa,n,ts,os,ess,rfl,_⟩:=h
   rfl
 . obtain⟨kp,dx,la,wa,oa,n,ts,os,ess,rfl,k,q⟩:=h
   refine⟨_,zX (zAD (zCg (pv 0) rfl)),?_⟩
   exact⟨_,rfl,kp,C,dx,_,_,rfl,k.ins,T.cl,T.nl,rfl,q⟩
theorem scKI:zAA ["self", "web", "order"] ["self", "web", "order"] (defScope sKI):=⟨rfl,rfl,rfl,by decide +kernel,rfl,by decide +kernel,by decide +kernel⟩
theorem ok_KI {f fB:Addr}{fd' fdB:FuncData}(T:KC K mg C fI fP fS fT fW fL)(F:Fun K "__init__" "Keeper.__init__" sKI f fd') (FB:Fun K "by_order" "by_order" zI1 fB fdB) (bB:zt K fdB ["web", "order"] []) (mB:mg "by_order" = some (.ref fB)) (GB:zy P w K mg base CX0 6 fB fdB ["web", "order"] (zHH PT)) :
 zy P w K mg base CX0 7 f fd' ["self", "web", "order"] (spKI C PT):=by
 refine F.ok scKI (fun vs H Q E h=>?_) (fun cdv A outer s H vs Q E hr h=>?_)
 . obtain⟨kp,dx,wa,oa,n,ts,os,rfl,_⟩:=h
   rfl
 . obtain⟨kp,dx,wa,oa,n,ts,os,rfl,hkp,W,sr,hoa,O,TT,q⟩:=h
   refine⟨_,zO (zEK (pv 0) (zg GB hr rfl mB FB.kp bB .nil zAI (zB (pv 1) (zB (pv 2) zK))) rfl)
    (zO (zEK (pv 0) (pv 1) rfl) (zX (zEK (pv 0) (pv 2) rfl))),?_⟩
   refine⟨_,rfl,_,rfl,wa,oa,n,ts,os,rfl,W,hoa,O,TT,fun la ess rk H1 s1 T1 L1 R1 LO _=>?_⟩
   have hkp1:H1 kp=some (.ins C dx []):=s1.get hkp (by intro ps z;cases z)
   refine⟨_,rfl,kp,C,dx,_,rfl,hkp1,T.cl,T.nl,by show 0<1000;decide,?_⟩
   rw[put1]
   refine⟨_,rfl,_,rfl,kp,C,dx,_,rfl,zH,T.cl,T.nw,by show 1<1000;decide,?_⟩
   rw[put2,zBm]
   refine⟨_,rfl,_,rfl,kp,C,dx,_,rfl,zH,T.cl,T.no,by show 2<1000;decide,?_⟩
   rw[put3,zBm]
   have tk:∀b ys,H1 b=some (.tup ys)->(upd H1 kp (.ins C dx (fsK la wa oa))) b=some (.tup ys):=fun b ys e=>by rw[zV (zAJ e hkp1 (by intro z;cases z))];exact e
   refine q la ess _ (SmK.ofT s1).chg (zJm T1 hkp1) ⟨zH,(W.keepT fun b ys e=>s1.get e (by intro ps z;cases z)).keepT tk,tk _ _ (s1.get hoa (by intro ps z;cases z)),L1.keep tk,⟨rk,R1,LO⟩,O,sr⟩
theorem scKT:zAA ["self", "web", "ahead"] ["self", "web"] (defScope sKT):=⟨rfl,rfl,rfl,by decide +kernel,rfl,by decide +kernel,by decide +kernel⟩
theorem ok_KT {f fB:Addr}{fd' fdB:FuncData}(T:KC K mg C fI fP fS fT fW fL)(F:Fun K "turn_to" "Keeper.turn_to" sKT f fd') (FB:Fun K "by_order" "by_order" zI1 fB fdB) (bB:zt K fdB ["web", "order"] []) (mB:mg "by_order" = some (.ref fB)) (GB:zy P w K mg base CX0 6 fB fdB ["web", "order"] (zHH PT))
 (mRange:mg "range" = none) (mTuple:mg "tuple" = none):zy P w K mg base CX0 7 f fd' ["self", "web"] (spKT C PT):=by
 refine F.ok scKT (fun vs H Q E h=>?_) (fun cdv A outer s H vs Q E hr h=>?_)
 . obtain⟨kp,dx,la,wa,oa,wb,n,ts,ts2,os,ess,rfl,_⟩:=h
   rfl
 . obtain⟨kp,dx,la,wa,oa,wb,n,ts,ts2,os,ess,rfl,k,W2,sr2,TT,q⟩:=h
   have hu1:(A.deeper (PyProof.Rows.envOfC (Str.ofString "Keeper.turn_to") (defScope sKT) s.heap.objs.size f cdv)).units+1<cLine:=by have:=hr.un;omega
   obtain⟨ta,tys,hwb,_,_,G⟩:=id W2
   have hn1:=G.n1
   have hn24:=G.n24
   refine⟨_,zO (zAK (i:=2) scKT.nd rfl (Or.inr rfl) (zCg (pv 0) rfl))
    (zO (zEK (pv 0) (zg GB hr rfl mB FB.kp bB .nil zAI (zB (pv 1) (zB (zCg (pv 0) rfl) zK))) rfl)
    (zO (zEK (pv 0) (pv 1) rfl)
    (zX (zAD (zAd zAP (by rfl) mTuple (by decide +kernel) (zB (zBS (own:=["place"]) (cn:=["self", "ahead"]) (ci:=[0,2]) rfl (csc rfl rfl) ⟨rfl,rfl,rfl,rfl,rfl,rfl,trivial⟩ rfl
     (zBe rfl mRange (zB (zAC zAR (pv 1) zY (fun _ _=>rfl)) zK)) (fun _ _ _ _=>zz (i:=0) (zBv rfl) rfl (Or.inl rfl))
     (fun _ _ _ _=>zCI (zAG (zJI hu1) (zAC zCN (zK5 (pv 1) rfl) (pv 0) (fun _ _=>rfl)) (zAC zCN (pv 2) (pv 0) (fun _ _=>rfl)) (zAN _))) (fun _ _ _ _=>pv 0)) zK)))))),?_⟩
   refine⟨_,rfl,kp,C,dx,_,_,rfl,k.ins,T.cl,T.nl,rfl,?_⟩
   refine⟨_,rfl,_,rfl,kp,C,dx,_,.ref oa,rfl,k.ins,T.cl,T.no,rfl,wb,oa,n,ts2,os,rfl,W2,k.ord,k.od,TT,fun la2 ess2 rk2 H1 s1 T1 L1 R1 LO _=>?_⟩
   have hkp1:H1 kp=some (.ins C dx (fsK la wa oa)):=s1.get k.ins (by intro ps z;cases z)
   refine⟨_,rfl,kp,C,dx,_,rfl,hkp1,T.cl,T.nl,by show 3<1000;decide,?_⟩
   unfold fsK at hkp1 ⊢
   rw[put4]
   refine⟨_,rfl,_,rfl,kp,C,dx,_,rfl,zH,T.cl,T.nw,by show 3<1000;decide,?_⟩
   rw[put5,zBm]
   have tk1:∀b ys,H b=some (.tup ys)->H1 b=some (.tup ys):=fun b ys e=>s1.get e (by intro ps z;cases z)
   have tk:∀b ys,H1 b=some (.tup ys)->(upd H1 kp (.ins C dx (fsK la2 wb oa))) b=some (.tup ys):=fun b ys e=>by rw[zV (zAJ e hkp1 (by intro z;cases z))];exact e
   have K2:zBB (upd H1 kp (.ins C dx (fsK la2 wb oa))) C kp dx la2 wb oa n ts2 os ess2:=⟨zH,(W2.keepT tk1).keepT tk,tk _ _ (tk1 _ _ k.ord),L1.keep tk,⟨rk2,R1,LO⟩,k.od,sr2⟩
   have La:zCV (upd H1 kp (.ins C dx (fsK la2 wb oa))) la ess:=(k.lab.keep tk1).keep tk
   have sm2:SmK kp H (upd H1 kp (.ins C dx (fsK la2 wb oa))):=(SmK.ofT s1).chg
   have T2:Tb (upd H1 kp (.ins C dx (fsK la2 wb oa))) PT:=zJm T1 hkp1
   have hwb2:=tk _ _ (tk1 _ _ hwb)
   rw[show ([("labels",V.ref la2),("web",V.ref wb),("order",V.ref oa)]:List (Str×V))=fsK la2 wb oa from rfl]
   generalize upd H1 kp (.ins C dx (fsK la2 wb oa))=H2 at K2 La sm2 T2 hwb2 ⊢
   refine⟨_,rfl,wb,_,_,_,rfl,rfl,SqT.of hwb2,rfl,n,rfl,by omega,by omega,[.ref kp,.ref la],rfl,fun D hD=>?_⟩
   obtain⟨rk1,_,LOa⟩:=k.lof
   have l1:ess.length=n.toNat:=LOa.1
   have l2:ess2.length=n.toNat:=LO.1
   refine zBh (lo:=0) (n:=n.toNat) (fun j ys H4=>j<=n.toNat/\ys=(dif j ess2 ess).map V.int/\H4=upd H2 D (.lst ys)) ⟨zj _,rfl,rfl⟩ (fun j ys H4 z=>?_) (fun j ys H4 hj z=>?_) (fun ys H4 z=>?_)
   . obtain⟨hj,rfl,_⟩:=z
     have h2:=zAr (fun i:Int=>!decide (zHz (ess2.getD i.toNat [])=zHz (ess.getD i.toNat []))) (lowTo j)
     rw[zCn] at h2
     rw[zD]
     exact zd (by unfold dif;omega)
   . obtain⟨_,rfl,rfl⟩:=z
     rw[zBW]
     have sD:=zF (o:=.lst ((dif j ess2 ess).map V.int)) hD
     obtain⟨as2,b2,e1,e2,e3⟩:=K2.lab.at_ (i:=j) (by omega)
     obtain⟨as1,b1,f1,f2,f3⟩:=La.at_ (i:=j) (by omega)
     refine⟨⟨rfl,rfl⟩,?_⟩
     refine⟨_,rfl,kp,C,dx,_,.ref la2,rfl,sD _ _ K2.ins,T.cl,T.nl,rfl,_,rfl,la2,_,_,.ref b2,rfl,rfl,SqT.of (sD _ _ e1),zDr e2,?_⟩
     refine⟨_,rfl,_,rfl,la,_,_,.ref b1,rfl,rfl,SqT.of (sD _ _ f1),zDr f2,?_⟩
     refine⟨b2,b1,_,_,rfl,rfl,(e3.same sD).tab,(f3.same sD).tab,_,rfl,?_⟩
     have ed:dif (j+1) ess2 ess=dif j ess2 ess++(if (!decide (zHz (ess2.getD j [])=zHz (ess.getD j [])))=true then [(j:Int)] else []):=by
      unfold dif
      rw[zGt,List.filter_append]
      congr 1
      rw[zBU,zBc,List.filter_nil]
     refine zDL (fun c=>?_) (fun c=>?_)
     . refine⟨_,rfl,zH,hj,?_,zBm⟩
       rw[ed,if_pos (by exact c),zR];rfl
     . refine⟨hj,?_,rfl⟩
       rw[ed,if_neg (by exact c),zr]
   . obtain⟨_,rfl,rfl⟩:=z
     have sD:=zF (o:=.lst ((dif n.toNat ess2 ess).map V.int)) hD
     refine⟨D,_,rfl,.inl ⟨SqL.of zH,fun pa hpa=>?_⟩⟩
     have s3:=sD.trans (zF (o:=.tup ((dif n.toNat ess2 ess).map V.int)) hpa)
     refine q pa la2 ess2 _ (sm2.trans (SmK.of s3)) (T2.same s3) (K2.same s3) ?_
     rw[zJc,zH]
theorem scKP:zAA ["self", "one", "other", "long"] ["self", "one", "other", "long"] (defScope sKP):=⟨rfl,rfl,rfl,by decide +kernel,rfl,by decide +kernel,by decide +kernel⟩
theorem ok_KP {f fX:Addr}{fd' fdX fdT:FuncData}(T:KC K mg C fI fP fS fT fW fL)(F:Fun K "put" "Keeper.put" sKP f fd') (FX:Fun K "with_tie" "with_tie" zFt fX fdX) (bX:zt K fdX ["web", "one", "other", "long"] []) (mX:mg "with_tie" = some (.ref fX)) (GX:zy P w K mg base CX0 7 fX fdX ["web", "one", "other", "long"] zHC)
 (bT:zt K fdT ["self", "web"] []) (GT:zy P w K mg base CX0 7 fT fdT ["self", "web"] (spKT C PT)):zy P w K mg base CX0 8 f fd' ["self", "one", "other", "long"] (spKP C PT):=by
 refine F.ok scKP (fun vs H Q E h=>?_) (fun cdv A outer s H vs Q E hr h=>?_)
 . obtain⟨kp,dx,la,wa,oa,n,x,y,l,ts,os,ess,rfl,_⟩:=h
   rfl
 . obtain⟨kp,dx,la,wa,oa,n,x,y,l,ts,os,ess,rfl,k,hx,hy,ne,hl,h60,hle,TT,q⟩:=h
   refine⟨_,zX (zAD (zCK (pv 0) T.cl T.mT GT hr bT .nil zAI (zB (zg GX hr rfl mX FX.kp bX .nil zAI (zB (zCg (pv 0) rfl) (zB (pv 1) (zB (pv 2) (zB (pv 3) zK))))) zK))),?_⟩
   refine⟨_,rfl,kp,dx,_,rfl,k.ins,rfl,?_⟩
   refine⟨_,rfl,kp,C,dx,_,.ref wa,rfl,k.ins,T.cl,T.nw,rfl,_,rfl,_,rfl,_,rfl,wa,n,ts,x,y,l,rfl,k.web,hx,hy,ne,hl,h60,hle,fun wb ts' H1 s1 _ W1 A1=>?_⟩
   refine⟨kp,dx,la,wa,oa,wb,n,ts,ts',os,ess,rfl,k.same s1,W1,A1.sr,TT.same s1,fun pa la' ess' H2 s2 T2 K2 hpa=>?_⟩
   exact q pa la' wb ts' ess' H2 ((SmK.of s1).trans s2) T2 K2 A1 hpa
theorem scKS:zAA ["self", "one", "other"] ["self", "one", "other"] (defScope sKS):=⟨rfl,rfl,rfl,by decide +kernel,rfl,by decide +kernel,by decide +kernel⟩
theorem ok_KS {f fX:Addr}{fd' fdX fdT:FuncData}(T:KC K mg C fI fP fS fT fW fL)(F:Fun K "strike" "Keeper.strike" sKS f fd') (FX:Fun K "without_tie" "without_tie" zFs fX fdX) (bX:zt K fdX ["web", "one", "other"] []) (mX:mg "without_tie" = some (.ref fX)) (GX:zy P w K mg base CX0 7 fX fdX ["web", "one", "other"] zHB)
 (bT:zt K fdT ["self", "web"] []) (GT:zy P w K mg base CX0 7 fT fdT ["self", "web"] (spKT C PT)):zy P w K mg base CX0 8 f fd' ["self", "one", "other"] (spKS C PT):=by
 refine F.ok scKS (fun vs H Q E h=>?_) (fun cdv A outer s H vs Q E hr h=>?_)
 . obtain⟨kp,dx,la,wa,oa,n,x,y,ts,os,ess,rfl,_⟩:=h
   rfl
 . obtain⟨kp,dx,la,wa,oa,n,x,y,ts,os,ess,rfl,k,hx,hy,ne,hsm,hle,TT,q⟩:=h
   refine⟨_,zX (zAD (zCK (pv 0) T.cl T.mT GT hr bT .nil zAI (zB (zg GX hr rfl mX FX.kp bX .nil zAI (zB (zCg (pv 0) rfl) (zB (pv 1) (zB (pv 2) zK)))) zK))),?_⟩
   refine⟨_,rfl,kp,dx,_,rfl,k.ins,rfl,?_⟩
   refine⟨_,rfl,kp,C,dx,_,.ref wa,rfl,k.ins,T.cl,T.nw,rfl,_,rfl,_,rfl,wa,n,ts,x,y,rfl,k.web,k.sr,hx,hy,ne,hsm,hle,fun wb ts' H1 s1 _ W1 A1=>?_⟩
   refine⟨kp,dx,la,wa,oa,wb,n,ts,ts',os,ess,rfl,k.same s1,W1,A1.sr,TT.same s1,fun pa la' ess' H2 s2 T2 K2 hpa=>?_⟩
   exact q pa la' wb ts' ess' H2 ((SmK.of s1).trans s2) T2 K2 A1 hpa
end
end K65
namespace K65
open PySem L2 WM
theorem pss_as {X:Cx}{st:List Stmt}{u u':TS}(h:PSs X st u)(m:∀D σ H,u' D σ H->u D σ H):PSs X st u':=fun pins s σ H D I q=>h pins s σ H D I (m D σ H q)
structure zCW (n:Int)(ts:List T3)(x y:Int)(lo:Option Int):Prop where
 hx:0<=x/\x<n
 hy:0<=y/\y<n
 ne:x≠y
 lg:∀l,lo=some l->1<=l/\l<=99
 st:lo=none->(zCE (loP x y) (hiP x y) ts).isSome=true
theorem zHw {x y:Int}(h:x≠y):loP x y=loP y x/\hiP x y=hiP y x:=by
 unfold loP hiP
 constructor <;> (split <;> split <;> omega)
theorem zCW.swap {n x y:Int}{ts:List T3}{lo:Option Int}(h:zCW n ts x y lo):zCW n ts y x lo:=by
 refine⟨h.hy,h.hx,h.ne.symm,h.lg,fun e=>?_⟩
 rw[<-(zHw h.ne).1,<-(zHw h.ne).2]
 exact h.st e
noncomputable def zJv:Sp:=fun vs H Q _=>∃(t wa:Addr)(N:Nat)(n:Int)(ts:List T3),vs=[.ref t,.ref wa]/\zAf H t N/\N<800000/\zAe H wa n ts/\2<=n /\
 ∀(da:Addr)(x y:Int)(lo:Option Int)(H':Hp),H' da=some (.tup [.int x,.int y,oV lo])->zCW n ts x y lo->zAf H' t (N+6)->Sm t H H'->Q (.ref da) H'
noncomputable def spAft:Sp:=fun vs H Q _=>∃(wa da:Addr)(n:Int)(ts:List T3)(x y:Int)(lo:Option Int),vs=[.ref wa,.ref da]/\zAe H wa n ts/\H da=some (.tup [.int x,.int y,oV lo])/\zCW n ts x y lo/\ts.length<=60 /\
 ∀(wb:Addr)(ts':List T3)(H':Hp),zAW H H'->H wb=none->zAe H' wb n ts'->Aft (loP x y) (hiP x y) lo ts ts'->Q (.ref wb) H'
noncomputable def zJu (C PT:Addr):Sp:=fun vs H Q _=>∃(kp dx la wa oa da:Addr)(n x y:Int)(lo:Option Int)(ts:List T3)(os:List Int)(ess:List (List En)),vs=[.ref kp,.ref da]/\zBB H C kp dx la wa oa n ts os ess/\H da=some (.tup [.int x,.int y,oV lo])/\zCW n ts x y lo/\((zCE (loP x y) (hiP x y) ts).isSome=true\/ts.length<60)/\ts.length<=60/\Tb H PT/\zLu C PT kp dx oa n x y lo ts os ess H Q
section
variable {P:Program}{w:World}{K:PySem.W.Frag}{mg:Str->Option Value}{base:Heap}
theorem zCS:zAA ["_law_feed_here", "_law_web_here", "_law_many", "_law_ties", "_law_one", "_law_other", "_law_long"] ["_law_feed_here", "_law_web_here"] (defScope zI0):=⟨rfl,rfl,rfl,by decide +kernel,rfl,by decide +kernel,by decide +kernel⟩
theorem zLU {f fD:Addr}{fd fdD:FuncData}(F:Fun K "_law_deed" "_law_deed" zI0 f fd) (FD:Fun K "_law_take" "_law_take" zDy fD fdD) (bD:zt K fdD ["_law_feed_here", "_law_many"] []) (mD:mg "_law_take" = some (.ref fD)) (mLen:mg "len" = none) :
 zy P w K mg base CX0 2 f fd ["_law_feed_here", "_law_web_here"] zJv:=by
 have GD:zy P w K mg base CX0 1 fD fdD ["_law_feed_here", "_law_many"] zC1:=zCh FD mLen
 refine F.ok zCS (fun vs H Q E h=>?_) (fun cdv A outer s H vs Q E hr h=>?_)
 . obtain⟨t,wa,N,n,ts,rfl,_⟩:=h
   rfl
 . obtain⟨t,wa,N,n,ts,rfl,TT,hN,W,hn2,k⟩:=h
   obtain⟨p,T⟩:=TT
   have hu0:=hr.units0
   obtain⟨ta,tys,hwa,hta,TA,G⟩:=id W
   have hn24:=G.n24
   have hlT:=TA.length
   rw[zD] at hlT
   have h64:=G.len
   refine⟨_,zO (zDA (pv 1) (zDW rfl (zAz (zz (i:=2) zCS.nd rfl (Or.inl rfl)) (zAz (zz (i:=3) zCS.nd rfl (Or.inl rfl)) zCJ))))
    (zO (zHV (u':=fun (D:zEy) σ H3=>σ=[some (.ref t),some (.ref wa),some (.int n),some (.ref ta),none,none,none]/\zBV H3 t p N/\zAe H3 wa n ts/\H3 ta=some (.tup tys)/\zw H3 tys (ts.map tl) /\
     ∀(x y:Int)(lo:Option Int)(H':Hp),zCW n ts x y lo->zBV H' t p (N+4)->Sm t H3 H'->D.nx [some (.ref t),some (.ref wa),some (.int n),some (.ref ta),some (.int x),some (.int y),some (oV lo)] H')
     (zBK (PW.pt (zFE (zAG (zK8 hu0) (pv 3) (zAY zK) (zAN _)) (zDU (zAG zCD (zg GD hr rfl mD FD.kp bD .nil zAI (zB (pv 0) (zBM zK))) zY (zAN _)))))
      (zO (zDA (zAC zAR (pv 3) (zg GD hr rfl mD FD.kp bD .nil zAI (zB (pv 0) (zB (zn zAS (by rfl) mLen PySem.boot_len (zB (pv 3) zK)) zK))) (fun _ _=>rfl)) (zDW rfl (zAz (zz (i:=4) zCS.nd rfl (Or.inl rfl)) (zAz (zz (i:=5) zCS.nd rfl (Or.inl rfl)) (zAz (zz (i:=6) zCS.nd rfl (Or.inl rfl)) zCJ)))))
       (zX (zAK (i:=6) zCS.nd rfl (Or.inl rfl) zBX)))
      (pss_as (u':=fun (D:zEy) σ H4=>σ=[some (.ref t),some (.ref wa),some (.int n),some (.ref ta),none,none,none]/\zBV H4 t p (N+1)/\∀(x y:Int)(lo:Option Int)(H':Hp),zCW n ts x y lo->zBV H' t p (N+4)->Sm t H4 H'->D.nx [some (.ref t),some (.ref wa),some (.int n),some (.ref ta),some (.int x),some (.int y),some (oV lo)] H')
      (zO (zAK (i:=4) zCS.nd rfl (Or.inl rfl) (zg GD hr rfl mD FD.kp bD .nil zAI (zB (pv 0) (zB (pv 2) zK))))
      (zO (zAK (i:=5) zCS.nd rfl (Or.inl rfl) (zAc zCL (zAc zBo (zAc zBo (pv 4) zY) (zg GD hr rfl mD FD.kp bD .nil zAI (zB (pv 0) (zB (zAc zHe (pv 2) zY) zK)))) (pv 2)))
      (zX (zAK (i:=6) zCS.nd rfl (Or.inl rfl) (zAC zAV (zBF (zHc (.cons (.cons (.cons (.cons (.cons (.cons .nil)))))))) (zg GD hr rfl mD FD.kp bD .nil zAI (zB (pv 0) (zBM zK))) (fun _ _=>rfl)))))) (fun D σ H4 z=>by
       obtain⟨rfl,T4,z⟩:=z
       refine⟨_,rfl,_,rfl,t,p,_,n,rfl,T4,by omega,by omega,by omega,fun x H5 x0 x1 T5 he5=>?_⟩
       refine⟨_,rfl,_,_,rfl,rfl,_,rfl,_,rfl,_,_,rfl,rfl,t,p,_,n-1,rfl,T5,by omega,by omega,by omega,fun r H6 r0 r1 T6 he6=>?_⟩
       refine⟨_,_,rfl,rfl,_,rfl,_,_,rfl,rfl,by show 0<n;omega,?_⟩
       refine⟨by show 6<=sizeLine;decide,fun l6 hl6=>?_⟩
       have sl:=zF (o:=.lst (([1,1,2,4,98,99]:List Int).map V.int)) hl6
       refine⟨_,rfl,t,p,_,6,rfl,T6.same sl,by omega,by decide,by decide,fun r2 H7 c0 c1 T7 he7=>?_⟩
       have nl:l6≠t:=(T6.ne hl6).1
       obtain⟨lg,hlg,hat⟩:=zEm (L:=[1,1,2,4,98,99]) c0 c1
       have hlb:1<=lg/\lg<=99:=by
        have:∀m∈([1,1,2,4,98,99]:List Int),1<=m/\m<=99:=by decide
        exact this lg hlg
       refine⟨l6,_,_,_,rfl,rfl,SqL.of (by rw[he7 l6 nl];exact zH),hat,?_⟩
       have hy:=zCj (a:=x+1+r) (m:=n) (by omega)
       refine z x ((x+1+r)%n) (some lg) H7 ⟨⟨x0,x1⟩,hy,fun e=>?_,fun l e=>by cases e;exact hlb,fun e=>by cases e⟩ (T7.mono (by omega)) ((zB7 he5).trans ((zB7 he6).trans ((Sm.of sl).trans (zB7 he7))))
       have q:=Int.emod_add_mul_ediv (x+1+r) n
       have q2:(x+1+r)/n=0\/(x+1+r)/n=1:=by
        have a1:0<=(x+1+r)/n:=Int.ediv_nonneg (by omega) (by omega)
        have a2:(x+1+r)/n<2:=Int.ediv_lt_of_lt_mul (by omega) (by omega)
        omega
       rcases q2 with z2 | z2
       . rw[z2] at q;omega
       . rw[z2] at q;omega))) (fun D σ H3 z=>by
      obtain⟨rfl,T3,W3,hta3,TA3,z⟩:=z
      refine⟨_,rfl,by show 0<=sizeLine;decide,fun e0 he0=>?_⟩
      have s0:=zF (o:=.tup []) he0
      refine⟨ta,e0,_,rfl,rfl,SqT.of (s0 _ _ hta3),SqT.of zH,_,rfl,?_⟩
      refine zDL (fun c=>?_) (fun c=>?_)
      . refine⟨_,rfl,t,p,_,3,rfl,T3.same s0,by omega,by decide,by decide,fun r H4 r0 r1 T4 he4=>?_⟩
        refine⟨rfl,_,rfl,?_⟩
        have s4:Sm t H3 H4:=(Sm.of s0).trans (zB7 he4)
        refine zDL (fun c2=>?_) (fun c2=>?_)
        . have ntup:∀b zs,H3 b=some (.tup zs)->H4 b=some (.tup zs):=fun b zs e=>s4 _ _ (T3.neT e) e
          have hta4:=ntup _ _ hta3
          have hpos:0<tys.length:=by
           cases tys with
           | nil=>cases c
           | cons _ _=>exact Nat.succ_pos _
          refine⟨_,rfl,_,rfl,_,rfl,ta,_,rfl,.inr (SqT.of hta4),t,p,_,_,rfl,T4,by omega,by omega,by omega,fun r2 H5 b0 b1 T5 he5=>?_⟩
          have s5:=s4.trans (zB7 he5)
          have hta5:H5 ta=some (.tup tys):=s5 _ _ (T3.neT hta3) hta3
          have hr2:r2.toNat<tys.length:=by omega
          obtain⟨ya,kk,e1,hkk,hya,_⟩:=TA3.get (i:=r2.toNat) (x:=tys[r2.toNat]) (by simp[hr2])
          rw[zU] at hkk
          obtain⟨t3,ht3,rfl⟩:∃t3,ts[r2.toNat]? = some t3/\tl t3=kk:=by
           cases e:ts[r2.toNat]? with
           | none=>rw[e] at hkk;cases hkk
           | some t3=>rw[e] at hkk;exact⟨t3,rfl,zQ hkk⟩
          have hya5:=s5 _ _ (T3.neT hya) hya
          refine⟨ta,_,_,.ref ya,rfl,rfl,SqT.of hta5,zBf b0 (by rw[zC hr2,e1]),?_⟩
          refine⟨ya,_,rfl,SqT.of hya5,rfl,_,_,rfl,_,_,rfl,_,_,rfl,rfl,?_⟩
          have hm:=zl ht3
          obtain⟨g0,g1,g2,g3,g4⟩:=G.rng t3 hm
          refine z t3.1 t3.2.1 none H5 ⟨⟨g0,by omega⟩,⟨by omega,g2⟩,by omega,(fun l e=>by cases e),fun _=>(zCx G (by omega)).mp ⟨t3.2.2,.inl hm⟩⟩ (T5.mono (by omega)) s5
        . exact⟨rfl,T4,fun x y lo H' dk T' s'=>z x y lo H' dk T' (s4.trans s')⟩
      . exact⟨rfl,(T3.same s0).mono (by omega),fun x y lo H' dk T' s'=>z x y lo H' dk T' ((Sm.of s0).trans s')⟩
      ))
    (zX (zAD (zGP (zAG zCD (zg GD hr rfl mD FD.kp bD .nil zAI (zB (pv 0) (zBM zK))) zY (zAN _)) (zAY (zB (pv 4) (zB (pv 5) (zB (pv 6) zK)))) (zAY (zB (pv 5) (zB (pv 4) (zB (pv 6) zK)))))))),?_⟩
   refine⟨_,rfl,wa,_,rfl,SqT.of hwa,rfl,_,_,rfl,_,_,rfl,rfl,?_⟩
   refine⟨rfl,T,W,hta,TA,fun x y lo H1 dk T1 s1=>?_⟩
   refine⟨_,rfl,t,p,_,2,rfl,T1,by omega,by decide,by decide,fun r H2 a0 b0 T2 he2=>?_⟩
   have s2:=s1.trans (zB7 he2)
   refine⟨rfl,_,rfl,?_⟩
   refine zDL (fun c=>?_) (fun c=>?_)
   . refine⟨_,rfl,_,rfl,_,rfl,by show 3<=sizeLine;decide,fun da hda=>?_⟩
     exact k da x y lo _ zH dk ⟨p,(T2.laid hda).mono (by omega)⟩ (s2.trans (Sm.laid hda))
   . refine⟨_,rfl,_,rfl,_,rfl,by show 3<=sizeLine;decide,fun da hda=>?_⟩
     exact k da y x lo _ zH dk.swap ⟨p,(T2.laid hda).mono (by omega)⟩ (s2.trans (Sm.laid hda))
theorem zGj:zAA ["_law_web_here", "_law_deed_here", "_law_one", "_law_other", "_law_long", "_law_pair", "_law_ties"] ["_law_web_here", "_law_deed_here"] (defScope sAft):=⟨rfl,rfl,rfl,by decide +kernel,rfl,by decide +kernel,by decide +kernel⟩
theorem ok_aft {f:Addr}{fd:FuncData}(F:Fun K "_law_after" "_law_after" sAft f fd) (mMin:mg "min" = none) (mMax:mg "max" = none) (mTuple:mg "tuple" = none) (mSorted:mg "sorted" = none):zy P w K mg base CX0 1 f fd ["_law_web_here", "_law_deed_here"] spAft:=by
 refine F.ok zGj (fun vs H Q E h=>?_) (fun cdv A outer s H vs Q E hr h=>?_)
 . obtain⟨wa,da,n,ts,x,y,lo,rfl,_⟩:=h
   rfl
 . obtain⟨wa,da,n,ts,x,y,lo,rfl,W,hda,dk,hle,k⟩:=h
   obtain⟨ta,tys,hwa,hta,TA,G⟩:=id W
   have hu0:=hr.units0
   have hlT:=TA.length
   rw[zD] at hlT
   have h64:=G.len
   obtain⟨a0,ab,bn⟩:=lohi dk.hx dk.hy dk.ne
   have hbl:=zDp (loP x y) (hiP x y) ts
   refine⟨_,zO (zDA (pv 1) (zDW rfl (zAz (zz (i:=2) zGj.nd rfl (Or.inl rfl)) (zAz (zz (i:=3) zGj.nd rfl (Or.inl rfl)) (zAz (zz (i:=4) zGj.nd rfl (Or.inl rfl)) zCJ)))))
    (zO (zAK (i:=5) zGj.nd rfl (Or.inr rfl) (zAY (zB (zn (zCt rfl) (by rfl) mMin (by decide +kernel) (zB (pv 2) (zB (pv 3) zK))) (zB (zn (zDo rfl) (by rfl) mMax (by decide +kernel) (zB (pv 2) (zB (pv 3) zK))) zK))))
    (zO (zC3 (i:=6) (own:=["_law_tie"]) (cn:=["_law_pair"]) (ci:=[5]) zGj.nd rfl (Or.inl rfl) rfl (csc rfl rfl) ⟨rfl,rfl,rfl,trivial⟩ rfl (zDB (zAC zAR (pv 0) zY (fun _ _=>rfl))) (fun _ _ _ _=>zz (i:=0) (zBv rfl) rfl (Or.inl rfl))
     (fun _ _ _ _=>zCI (zAG (zGQ hu0) (zBg zBz (pv 0) zB0 (zBq zY)) (pv 1) (zAN _))) (fun _ _ _ _=>pv 0))
    (zO (zHV (u':=fun (D:zEy) σ H3=>∃(p L:Addr)(ys:List V),σ=[some (.ref wa),some (.ref da),some (.int x),some (.int y),some (oV lo),some (.ref p),some (.ref L)]/\H3 p=some (.tup [.int (loP x y),.int (hiP x y)])/\H L=none/\zAW H H3/\H3 L=some (.lst ys)/\zw H3 ys ((zDq (loP x y) (hiP x y) ts).map tl) /\
     ∀(ys':List V)(H':Hp),zAW H H'->H' L=some (.lst ys')->zw H' ys' ((zDq (loP x y) (hiP x y) ts++zIi (loP x y) (hiP x y) lo).map tl)->D.nx σ H')
     (zBK (zAG zHg (pv 4) zBX (zAN _)) (zX (zBp (zC4 PySem.F.plainAttrs_list PySem.F.slot_list_append PySem.F.type_list_append zBw (pv 6) (zB (zAc zCM (pv 5) (zAY (zB (pv 4) zK))) zK)))) zAO) (fun D σ H3 z=>by
      obtain⟨p,L,ys,rfl,hp,hL0,s3,hL3,T3,z⟩:=z
      refine⟨_,rfl,rfl,_,rfl,?_⟩
      rw[zEM]
      cases lo with
      | none=>exact zCR (z ys H3 s3 hL3 (by rw[show zIi (loP x y) (hiP x y) none=[] from rfl,zr];exact T3))
      | some l=>
       refine zCz ?_
       refine⟨_,rfl,.inl ⟨rfl,_,SqL.of hL3⟩,_,rfl,_,rfl,by show 1<=sizeLine;decide,fun q hq=>?_⟩
       have s4:=zF (o:=.tup [oV (some l)]) hq
       refine⟨p,q,_,_,rfl,rfl,s4 _ _ hp,zH,by show 3<=sizeLine;decide,fun c H5 s5 hc=>?_⟩
       have hL5:=s5 _ _ (s4 _ _ hL3)
       have hly:=T3.length
       rw[zD] at hly
       refine⟨L,_,_,rfl,rfl,hL5,zd (by omega),?_⟩
       refine z (ys++[.ref c]) _ (zAy (s3.trans (s4.trans s5)) hL0) zH ?_
       rw[zR]
       refine (T3.keep fun b zs e=>?_).snoc ⟨c,rfl,?_,by simp[tl]⟩
       . have e5:=s5 _ _ (s4 _ _ e)
         rw[zV (zAJ e5 hL5 (by intro z;cases z))];exact e5
       . rw[zV (zAJ hc hL5 (by intro z;cases z))];exact hc))
    (zX (zAD (zAY (zB (zAC zAR (pv 0) zY (fun _ _=>rfl)) (zB (zAd zAP (by rfl) mTuple (by decide +kernel) (zB (zn zB9 (by rfl) mSorted (by decide +kernel) (zB (pv 6) zK)) zK)) zK)))))))),?_⟩
   refine⟨_,rfl,da,_,rfl,SqT.of hda,rfl,_,_,rfl,_,_,rfl,_,_,rfl,rfl,?_⟩
   refine⟨_,rfl,_,rfl,x,y,rfl,_,rfl,_,rfl,x,y,rfl,by show 2<=sizeLine;decide,fun p hp=>?_⟩
   have s1:=zF (o:=.tup [.int (loP x y),.int (hiP x y)]) hp
   have hp1:(upd H p (.tup [.int (loP x y),.int (hiP x y)])) p=some (.tup [.int (loP x y),.int (hiP x y)]):=zH
   rw[show (HO.tup [V.int (if y<x then y else x),V.int (if y > x then y else x)])=HO.tup [.int (loP x y),.int (hiP x y)] from rfl]
   generalize upd H p (.tup [.int (loP x y),.int (hiP x y)])=H1 at s1 hp1 ⊢
   have hwa1:=s1 _ _ hwa
   have hta1:=s1 _ _ hta
   refine⟨_,rfl,wa,_,_,.ref ta,rfl,rfl,SqT.of hwa1,rfl,ta,rfl,⟨_,SqT.of hta1⟩,[.ref p],rfl,fun D hD=>?_⟩
   refine zB8 (a:=ta) (xs:=tys) (fun i ys H4=>zw H4 ys ((zDq (loP x y) (hiP x y) (ts.take i)).map tl)/\zAW H1 H4/\H4 D=some (.lst ys)) ⟨by rw[List.take_zero];exact trivial,zF hD,zH⟩ (fun i ys H4 h=>?_) (fun i ys H4 h=>?_) (fun i v ys H4 hv h=>?_) (fun ys H4 h=>?_)
   . exact SqT.of (h.2.1 _ _ hta1)
   . have h1:=h.1.length
     have h2:=zDp (loP x y) (hiP x y) (ts.take i)
     rw[zAF] at h2
     rw[zD] at h1
     exact zd (by omega)
   . obtain⟨T4,s4,hD4⟩:=h
     obtain⟨ya,kk,rfl,hkk,hya,_⟩:=TA.get hv
     rw[zU] at hkk
     obtain⟨t,ht,rfl⟩:∃t,ts[i]? = some t/\tl t=kk:=by
      cases e:ts[i]? with
      | none=>rw[e] at hkk;cases hkk
      | some t=>rw[e] at hkk;exact⟨t,rfl,zQ hkk⟩
     have hya4:=s4 _ _ (s1 _ _ hya)
     refine⟨⟨rfl,rfl⟩,?_⟩
     refine⟨_,rfl,_,rfl,ya,_,rfl,hya4,fun q H5 s5 hq=>?_⟩
     rw[cut2] at hq
     refine⟨_,rfl,q,p,[t.1,t.2.1],[loP x y,hiP x y],rfl,rfl,SqT.of hq,SqT.of (s5 _ _ (s4 _ _ hp1)),_,rfl,?_⟩
     have hD5:=s5 _ _ hD4
     have T5:zw H5 ys ((zDq (loP x y) (hiP x y) (ts.take i)).map tl):=T4.keep fun b zs e=>s5 _ _ e
     have e:zDq (loP x y) (hiP x y) (ts.take (i+1))=zDq (loP x y) (hiP x y) (ts.take i)++(if (!isP (loP x y) (hiP x y) t)=true then [t] else []):=zES ht
     refine zDL (fun c=>?_) (fun c=>?_)
     . refine⟨_,rfl,hD5,?_,zAy (s4.trans s5) hD,zH⟩
       rw[e,if_pos (by exact c),zR]
       refine (T5.keep fun b zs e=>?_).snoc ⟨ya,rfl,?_,by simp[tl]⟩
       . rw[zV (zAJ e hD5 (by intro z;cases z))];exact e
       . rw[zV (zAJ (s5 _ _ hya4) hD5 (by intro z;cases z))];exact s5 _ _ hya4
     . refine⟨?_,s4.trans s5,hD5⟩
       rw[e,if_neg (by exact c),zr]
       exact T5
   obtain⟨T4,s4,hD4⟩:=h
   rw[hlT,zm (zM _)] at T4
   have s14:=s1.trans s4
   refine⟨p,D,ys,rfl,s4 _ _ hp1,zAk s1 hD,s14,hD4,T4,fun ys' H5 s5 hD5 T5=>?_⟩
   have hadd:(zIi (loP x y) (hiP x y) lo).length<=1:=by cases lo <;> simp[zIi]
   refine⟨_,rfl,wa,_,_,.int n,rfl,rfl,SqT.of (s5 _ _ hwa),rfl,?_⟩
   refine⟨_,rfl,D,_,_,rfl,SqL.of hD5,T5,by rw[zD,zN];omega,fun l2 us ms hl2 TA2 hpm hris=>?_⟩
   refine⟨l2,_,rfl,.inl ⟨SqL.of zH,fun ta2 hta2=>?_⟩⟩
   refine⟨by show 2<=sizeLine;decide,fun wb hwb=>?_⟩
   have s8:=(zF (o:=.lst us) hl2).trans (zF (o:=.tup us) hta2)
   have s9:=s8.trans (zF (o:=.tup [.int n,.ref ta2]) hwb)
   obtain⟨ts',ets,pm'⟩:=zE4 hpm
   have A:Aft (loP x y) (hiP x y) lo ts ts':=⟨pm',by unfold zEW;rw[ets];exact hris⟩
   refine k wb ts' _ (s5.trans s9) (zAk (s5.trans s8) hwb) ⟨ta2,us,zH,zF hwb _ _ zH,?_,A.gw G a0 ab bn dk.lg (by omega)⟩ A
   rw[ets]
   exact TA2.keep fun b zs e=>s9 _ _ e
theorem zJ2:zAA ["_law_keeper", "_law_deed_here"] ["_law_keeper", "_law_deed_here"] (defScope zGk):=⟨rfl,rfl,rfl,by decide +kernel,rfl,by decide +kernel,by decide +kernel⟩
theorem zLT {C fI fP fS fT fW fL PT f:Addr}{fd' fdP fdS:FuncData}(T:KC K mg C fI fP fS fT fW fL)(F:Fun K "_law_done" "_law_done" zGk f fd') (bP:zt K fdP ["self", "one", "other", "long"] []) (GP:zy P w K mg base CX0 8 fP fdP ["self", "one", "other", "long"] (spKP C PT))
 (bS:zt K fdS ["self", "one", "other"] []) (GS:zy P w K mg base CX0 8 fS fdS ["self", "one", "other"] (spKS C PT)):zy P w K mg base CX0 9 f fd' ["_law_keeper", "_law_deed_here"] (zJu C PT):=by
 refine F.ok zJ2 (fun vs H Q E h=>?_) (fun cdv A outer s H vs Q E hr h=>?_)
 . obtain⟨kp,dx,la,wa,oa,da,n,x,y,lo,ts,os,ess,rfl,_⟩:=h
   rfl
 . obtain⟨kp,dx,la,wa,oa,da,n,x,y,lo,ts,os,ess,rfl,k,hda,dk,hlt,h60,TT,q⟩:=h
   refine⟨_,zO (zBK (zAG zCT (zAC zAR (pv 1) zY (fun _ _=>rfl)) zBX (zAN _))
    (zX (zAD (zCK (pv 0) T.cl T.mS GS hr bS .nil zAI (zB (zAC zAR (pv 1) zY (fun _ _=>rfl)) (zB (zAC zAR (pv 1) zY (fun _ _=>rfl)) zK))))) zAO)
    (zX (zAD (zCK (pv 0) T.cl T.mP GP hr bP .nil zAI (zB (zAC zAR (pv 1) zY (fun _ _=>rfl)) (zB (zAC zAR (pv 1) zY (fun _ _=>rfl)) (zB (zAC zAR (pv 1) zY (fun _ _=>rfl)) zK)))))),?_⟩
   have sq:=SqT.of (K:=K) hda
   refine⟨_,rfl,da,_,_,oV lo,rfl,rfl,sq,rfl,rfl,_,rfl,?_⟩
   cases lo with
   | none=>
    refine zCz ?_
    refine⟨_,rfl,kp,dx,_,rfl,k.ins,rfl,?_⟩
    refine⟨_,rfl,da,_,_,.int x,rfl,rfl,sq,rfl,_,rfl,da,_,_,.int y,rfl,rfl,sq,rfl,?_⟩
    exact⟨kp,dx,la,wa,oa,n,x,y,ts,os,ess,rfl,k,dk.hx,dk.hy,dk.ne,dk.st rfl,by omega,TT,q⟩
   | some l=>
    refine zCR ?_
    refine⟨_,rfl,kp,dx,_,rfl,k.ins,rfl,?_⟩
    refine⟨_,rfl,da,_,_,.int x,rfl,rfl,sq,rfl,_,rfl,da,_,_,.int y,rfl,rfl,sq,rfl,_,rfl,da,_,_,.int l,rfl,rfl,sq,rfl,?_⟩
    exact⟨kp,dx,la,wa,oa,n,x,y,l,ts,os,ess,rfl,k,dk.hx,dk.hy,dk.ne,dk.lg l rfl,hlt,h60,TT,q⟩
end
end K65
namespace K65
open PySem L2 WM
section
variable {P:Program}{w:World}{K:PySem.W.Frag}{mg:Str->Option Value}{base:Heap}
theorem zy.toX {k:Nat}{f:Addr}{fd:FuncData}{ps:List Str}{sp:Sp}(F:zy P w K mg base CX0 k f fd ps sp):zy P w K mg base (CXO P w) k f fd ps sp:=
 ⟨F.len,fun A outer s H args us vs Q E hr he hb hv hs=>PySem.codeAny_mono (F.run A outer s H args us vs Q E hr he hb hv hs) fun r s' hq=>by
  cases r with
  | error e=>exact hq.elim
  | ok fl=>cases fl <;> exact hq⟩
theorem zFF {X:Cx}{st:List Stmt}:PSs X st (fun _ _ _=>False):=fun _ _ _ _ _ _ h=>h.elim
theorem zFw {N:List Str}{qual:Str}{scope:Scope}{f:Addr}{cd:Value}{A:Around}{outer:List Env}{s0:Shared}{H0:Hp}{E:XK}:zDI (CXO P w) (zGa (CXO P w) P w K mg base N qual scope f cd A outer s0 H0 E) E:=fun _ _ _ _ _ _ I h=>zHb I h fun _ _ _ z=>z
end
noncomputable def Two (n x y:Int):Prop:=(0<=x/\x<n)/\(0<=y/\y<n)/\x≠y
noncomputable def BadP (n:Int)(d1 d2:PyData):Prop:=¬ ∃x y,d1 = .int x/\d2 = .int y/\Two n x y
theorem zCZ {n:Int}{d:PyData}:zAM d 0 (n-1)=true↔∃x,d = .int x/\0<=x/\x<n:=by
 constructor
 . intro h
   obtain⟨i,e,a,b⟩:=zEB h
   exact⟨i,e,a,by omega⟩
 . rintro ⟨x,rfl,a,b⟩
   simp[zAM]
   omega
theorem sh_i {H:Hp}{v:V}{x:Int}(h:zAZ H v (.int x)):v = .int x:=by cases h;rfl
noncomputable def zEa (c:Addr):Sp:=fun vs H _ E=>∃(wa:Addr)(n:Int)(ts:List T3)(v1 v2:V)(d1 d2:PyData),vs=[.ref wa,v1,v2]/\zAe H wa n ts/\zAZ H v1 d1/\zAZ H v2 d2/\BadP n d1 d2/\∀H',zAW H H'->E (.ref c) none H'
noncomputable def BadW (n:Int)(ts:List T3)(d1 d2 dl:PyData):Prop:=BadP n d1 d2\/∃x y,d1 = .int x/\d2 = .int y/\Two n x y/\(zAM dl 1 99=false\/(zCE (loP x y) (hiP x y) ts=none/\60<=ts.length))
noncomputable def BadS (n:Int)(ts:List T3)(d1 d2:PyData):Prop:=BadP n d1 d2\/∃x y,d1 = .int x/\d2 = .int y/\Two n x y/\zCE (loP x y) (hiP x y) ts=none
noncomputable def zFq (c:Addr):Sp:=fun vs H _ E=>∃(wa:Addr)(n:Int)(ts:List T3)(v1 v2 vl:V)(d1 d2 dl:PyData),vs=[.ref wa,v1,v2,vl]/\zAe H wa n ts/\zAZ H v1 d1/\zAZ H v2 d2/\zAZ H vl dl/\BadW n ts d1 d2 dl/\∀H',zAW H H'->E (.ref c) none H'
noncomputable def zFp (c:Addr):Sp:=fun vs H _ E=>∃(wa:Addr)(n:Int)(ts:List T3)(v1 v2:V)(d1 d2:PyData),vs=[.ref wa,v1,v2]/\zAe H wa n ts/\zAZ H v1 d1/\zAZ H v2 d2/\BadS n ts d1 d2/\∀H',zAW H H'->E (.ref c) none H'
section
variable {P:Program}{w:World}{K:PySem.W.Frag}{mg:Str->Option Value}{base:Heap}
theorem zJM {f fP c:Addr}{fd' fdP:FuncData}(F:Fun K "pair_of" "pair_of" zEe f fd') (FP:Fun K "is_place" "is_place" sPl fP fdP) (bP:zt K fdP ["n", "thing"] []) (mP:mg "is_place" = some (.ref fP)) (GP:zy P w K mg base CX0 3 fP fdP ["n", "thing"] spPl)
 (mC:mg "NoTie" = some (.ref c)) (qC:PySem.W.excIn K c bmV "ValueError.__new__" = true):zy P w K mg base (CXO P w) 4 f fd' ["web", "one", "other"] (zEa c):=by
 refine F.okX zJ1 (fun vs H Q E h=>?_) (fun cdv A outer s H vs Q E hr h=>?_)
 . obtain⟨wa,n,ts,v1,v2,d1,d2,rfl,_⟩:=h
   rfl
 . obtain⟨wa,n,ts,v1,v2,d1,d2,rfl,W,S1,S2,no,k⟩:=h
   obtain⟨ta,tys,hwa,_,_,G⟩:=id W
   refine⟨_,zO (zBK (PW.pt (zFD (zBu (zBd (zg GP hr rfl mP FP.kp bP .nil zAI (zB (zAC zAR (pv 0) zY (fun _ _=>rfl)) (zB (pv 1) zK)))))
    (zFD (zBu (zBd (zg GP hr rfl mP FP.kp bP .nil zAI (zB (zAC zAR (pv 0) zY (fun _ _=>rfl)) (zB (pv 2) zK)))))
    (zEJ (zAG zCD (pv 1) (pv 2) (zAN _)))))) (zX (zCe (E:=E) rfl mC qC rfl (zB zDC zK) (fun pins σ H s h' ea vs I mx hE=>zCH I mx hE) (hl:=fun σ H Q h=>⟨zM 1,h⟩))) zAO) zFF,?_⟩
   refine⟨_,rfl,wa,_,_,_,rfl,rfl,SqT.of hwa,rfl,_,rfl,n,v1,d1,rfl,S1,?_⟩
   cases e1:zAM d1 0 (n-1) with
   | false=>exact⟨false,rfl,zCz (zCz (k H (zAW.refl _)))⟩
   | true=>
    refine⟨true,rfl,zCR ?_⟩
    refine⟨_,rfl,wa,_,_,_,rfl,rfl,SqT.of hwa,rfl,_,rfl,n,v2,d2,rfl,S2,?_⟩
    cases e2:zAM d2 0 (n-1) with
    | false=>exact⟨false,rfl,zCz (zCz (k H (zAW.refl _)))⟩
    | true=>
     refine⟨true,rfl,zCR ?_⟩
     obtain⟨x,rfl,hx⟩:=zCZ.mp e1
     obtain⟨y,rfl,hy⟩:=zCZ.mp e2
     have:=sh_i S1
     subst this
     have:=sh_i S2
     subst this
     have exy:x=y:=zAQ fun z=>no ⟨x,y,rfl,rfl,hx,hy,z⟩
     refine⟨_,rfl,_,rfl,rfl,_,rfl,ifT (zZ (by rw[exy])) ?_⟩
     exact k H (zAW.refl _)
theorem zJK {f fP fL fO c:Addr}{fd' fdP fdL fdO:FuncData}{tk:Tok}(F:Fun K "with_tie" "with_tie" zFt f fd') (FP:Fun K "pair_of" "pair_of" zEe fP fdP) (bP:zt K fdP ["web", "one", "other"] []) (mP:mg "pair_of" = some (.ref fP)) (GP:zy P w K mg base CX0 4 fP fdP ["web", "one", "other"] zED) (GPR:zy P w K mg base (CXO P w) 4 fP fdP ["web", "one", "other"] (zEa c))
 (FL:Fun K "is_long" "is_long" sIsL fL fdL) (bL:zt K fdL ["thing"] []) (mL:mg "is_long" = some (.ref fL)) (GL:zy P w K mg base CX0 4 fL fdL ["thing"] zGI)
 (FO:Fun K "long_of" "long_of" zFC fO fdO) (bO:zt K fdO ["web", "one", "other"] []) (mO:mg "long_of" = some (.ref fO)) (GO:zy P w K mg base CX0 4 fO fdO ["web", "one", "other"] zEE)
 (mC:mg "NoTie" = some (.ref c)) (qC:PySem.W.excIn K c bmV "ValueError.__new__" = true) (mMT:mg "MOST_TIES" = some (.int 60 tk)) (mLen:mg "len" = none):zy P w K mg base (CXO P w) 5 f fd' ["web", "one", "other", "long"] (zFq c):=by
 have G2:=zy.either (zy.toX GP) GPR
 refine F.okX zGK (fun vs H Q E h=>?_) (fun cdv A outer s H vs Q E hr h=>?_)
 . obtain⟨wa,n,ts,v1,v2,vl,d1,d2,dl,rfl,_⟩:=h
   rfl
 . obtain⟨wa,n,ts,v1,v2,vl,d1,d2,dl,rfl,W,S1,S2,S3,bad,k⟩:=h
   obtain⟨ta,tys,hwa,hta,TA,G⟩:=id W
   have hlT:=TA.length
   rw[zD] at hlT
   refine⟨_,zO (zAK (i:=4) zGK.nd rfl (Or.inl rfl) (zg G2 hr rfl mP FP.kp bP .nil zFw (zB (pv 0) (zB (pv 1) (zB (pv 2) zK)))))
    (zO (zBK (zBu (zBd (zg GL hr rfl mL FL.kp bL .nil zAI (zB (pv 3) zK)))) (zX (zCe (E:=E) rfl mC qC rfl (zB zDC zK) (fun pins σ H s h' ea vs I mx hE=>zCH I mx hE) (hl:=fun σ H Q h=>⟨zM 1,h⟩))) zAO)
    (zO (zBK (PW.pt (zFE (zAG zCT (zg GO hr rfl mO FO.kp bO .nil zAI (zB (pv 0) (zB (pv 1) (zB (pv 2) zK)))) zBX (zAN _)) (zDU (zAG zLC (zn zAS (by rfl) mLen PySem.boot_len (zB (zAC zAR (pv 0) zY (fun _ _=>rfl)) zK)) (zAm (v:=.int 60) rfl mMT ⟨tk,rfl⟩) (zAN _)))))
     (zX (zCe (E:=E) rfl mC qC rfl (zB zDC zK) (fun pins σ H s h' ea vs I mx hE=>zCH I mx hE) (hl:=fun σ H Q h=>⟨zM 1,h⟩))) zAO) zFF)),?_⟩
   rcases bad with bad | ⟨x,y,rfl,rfl,tw,bad⟩
   . exact⟨_,rfl,_,rfl,_,rfl,.inr ⟨wa,n,ts,v1,v2,d1,d2,rfl,W,S1,S2,bad,k⟩⟩
   . have:=sh_i S1
     subst this
     have:=sh_i S2
     subst this
     refine⟨_,rfl,_,rfl,_,rfl,.inl ⟨wa,n,ts,x,y,rfl,W,tw.1,tw.2.1,tw.2.2,fun p hp=>?_⟩⟩
     have s1:=zF (o:=.tup [.int (loP x y),.int (hiP x y)]) hp
     generalize upd H p (.tup [.int (loP x y),.int (hiP x y)])=H1 at s1 ⊢
     refine⟨_,rfl,vl,dl,rfl,zA7 s1 S3,?_⟩
     cases e:zAM dl 1 99 with
     | false=>exact⟨false,rfl,zCz (k H1 s1)⟩
     | true=>
      refine⟨true,rfl,zCR ?_⟩
      rcases bad with z | ⟨z1,z2⟩
      . rw[e] at z;cases z
      refine⟨_,rfl,_,rfl,_,rfl,wa,n,ts,x,y,rfl,W.keep s1,fun r H4 s4 hr4=>?_⟩
      have s14:=s1.trans s4
      refine⟨rfl,_,rfl,?_⟩
      rcases hr4 with ⟨l',ha,rfl⟩ | ⟨hno,rfl⟩
      . have:=(zCx G tw.2.2).mp ⟨l',ha⟩
        rw[z1] at this
        cases this
      . refine zCz ?_
        refine⟨_,rfl,wa,_,_,.ref ta,rfl,rfl,SqT.of (s14 _ _ hwa),rfl,ta,_,rfl,.inr (SqT.of (s14 _ _ hta)),_,_,rfl,rfl,_,rfl,ifT (zZ (by rw[hlT];omega)) ?_⟩
        exact k H4 s14
theorem zJJ {f fP fO c:Addr}{fd' fdP fdO:FuncData}(F:Fun K "without_tie" "without_tie" zFs f fd') (FP:Fun K "pair_of" "pair_of" zEe fP fdP) (bP:zt K fdP ["web", "one", "other"] []) (mP:mg "pair_of" = some (.ref fP)) (GP:zy P w K mg base CX0 4 fP fdP ["web", "one", "other"] zED) (GPR:zy P w K mg base (CXO P w) 4 fP fdP ["web", "one", "other"] (zEa c))
 (FO:Fun K "long_of" "long_of" zFC fO fdO) (bO:zt K fdO ["web", "one", "other"] []) (mO:mg "long_of" = some (.ref fO)) (GO:zy P w K mg base CX0 4 fO fdO ["web", "one", "other"] zEE)
 (mC:mg "NoTie" = some (.ref c)) (qC:PySem.W.excIn K c bmV "ValueError.__new__" = true):zy P w K mg base (CXO P w) 5 f fd' ["web", "one", "other"] (zFp c):=by
 have G2:=zy.either (zy.toX GP) GPR
 refine F.okX zGJ (fun vs H Q E h=>?_) (fun cdv A outer s H vs Q E hr h=>?_)
 . obtain⟨wa,n,ts,v1,v2,d1,d2,rfl,_⟩:=h
   rfl
 . obtain⟨wa,n,ts,v1,v2,d1,d2,rfl,W,S1,S2,bad,k⟩:=h
   obtain⟨ta,tys,hwa,hta,TA,G⟩:=id W
   refine⟨_,zO (zAK (i:=3) zGJ.nd rfl (Or.inl rfl) (zg G2 hr rfl mP FP.kp bP .nil zFw (zB (pv 0) (zB (pv 1) (zB (pv 2) zK)))))
    (zO (zBK (zAG zCT (zg GO hr rfl mO FO.kp bO .nil zAI (zB (pv 0) (zB (pv 1) (zB (pv 2) zK)))) zBX (zAN _))
     (zX (zCe (E:=E) rfl mC qC rfl (zB zDC zK) (fun pins σ H s h' ea vs I mx hE=>zCH I mx hE) (hl:=fun σ H Q h=>⟨zM 1,h⟩))) zAO) zFF),?_⟩
   rcases bad with bad | ⟨x,y,rfl,rfl,tw,z1⟩
   . exact⟨_,rfl,_,rfl,_,rfl,.inr ⟨wa,n,ts,v1,v2,d1,d2,rfl,W,S1,S2,bad,k⟩⟩
   . have:=sh_i S1
     subst this
     have:=sh_i S2
     subst this
     refine⟨_,rfl,_,rfl,_,rfl,.inl ⟨wa,n,ts,x,y,rfl,W,tw.1,tw.2.1,tw.2.2,fun p hp=>?_⟩⟩
     have s1:=zF (o:=.tup [.int (loP x y),.int (hiP x y)]) hp
     generalize upd H p (.tup [.int (loP x y),.int (hiP x y)])=H1 at s1 ⊢
     refine⟨_,rfl,_,rfl,_,rfl,wa,n,ts,x,y,rfl,W.keep s1,fun r H4 s4 hr4=>?_⟩
     refine⟨rfl,_,rfl,?_⟩
     rcases hr4 with ⟨l',ha,rfl⟩ | ⟨hno,rfl⟩
     . have:=(zCx G tw.2.2).mp ⟨l',ha⟩
       rw[z1] at this
       cases this
     . exact zCz (k H4 (s1.trans s4))
end
end K65
namespace K65
open PySem L2 WM
noncomputable def zKc (C c:Addr):Sp:=fun vs H _ E=>∃(kp dx la wa oa:Addr)(n:Int)(ts:List T3)(os:List Int)(ess:List (List En))(v1 v2 vl:V)(d1 d2 dl:PyData),vs=[.ref kp,v1,v2,vl]/\zBB H C kp dx la wa oa n ts os ess/\zAZ H v1 d1/\zAZ H v2 d2/\zAZ H vl dl/\BadW n ts d1 d2 dl/\∀H',zAW H H'->E (.ref c) none H'
noncomputable def zKb (C c:Addr):Sp:=fun vs H _ E=>∃(kp dx la wa oa:Addr)(n:Int)(ts:List T3)(os:List Int)(ess:List (List En))(v1 v2:V)(d1 d2:PyData),vs=[.ref kp,v1,v2]/\zBB H C kp dx la wa oa n ts os ess/\zAZ H v1 d1/\zAZ H v2 d2/\BadS n ts d1 d2/\∀H',zAW H H'->E (.ref c) none H'
noncomputable def BadD (n:Int)(ts:List T3)(d1 d2 dl:PyData)(vl:V):Prop:=(vl = .non/\BadS n ts d1 d2)\/(vl ≠ .non/\BadW n ts d1 d2 dl)
noncomputable def zFr (C c:Addr):Sp:=fun vs H _ E=>∃(kp dx la wa oa da:Addr)(n:Int)(ts:List T3)(os:List Int)(ess:List (List En))(v1 v2 vl:V)(d1 d2 dl:PyData),vs=[.ref kp,.ref da]/\zBB H C kp dx la wa oa n ts os ess/\H da=some (.tup [v1,v2,vl])/\zAZ H v1 d1/\zAZ H v2 d2/\zAZ H vl dl/\BadD n ts d1 d2 dl vl/\∀H',zAW H H'->E (.ref c) none H'
noncomputable def zJp (C:Addr):Sp:=fun vs H Q _=>∃(kp dx la wa oa da:Addr)(n:Int)(ts:List T3)(os:List Int)(ess:List (List En))(v1 v2 vl:V)(d1 d2 dl:PyData),vs=[.ref kp,.ref da]/\zBB H C kp dx la wa oa n ts os ess/\H da=some (.tup [v1,v2,vl])/\zAZ H v1 d1/\zAZ H v2 d2/\zAZ H vl dl/\BadD n ts d1 d2 dl vl/\∀H',zAW H H'->Q (.bl true) H'
inductive zJk (X:Cx):List Expr->List Addr->Prop
 | nil:zJk X [] []
 | cons {x:Str}{p:Pos}{c:Addr}{es:List Expr}{cs:List Addr}:PE X (.Name x p) (tC (.ref c))->zJk X es cs->zJk X (.Name x p::es) (c::cs)
theorem zHd {X:Cx}{es:List Expr}{cs:List Addr}(h:zJk X es cs):PA X es (fun _ H Q=>Q (cs.map V.ref) H):=by
 induction h with
 | nil=>exact zK
 | cons he _ ih=>exact zB he ih
structure ErrG (K:PySem.W.Frag)(mg:Str->Option Value)(nm:Str)(ns:List Str)(cW cR:Addr)(cs:List Addr):Prop where
 mW:mg "WayError" = some (.ref cW)
 mR:mg nm=some (.ref cR)
 qW:PySem.W.excIn K cW bmV "ValueError.__new__" = true
 qR:PySem.W.excIn K cR bmV "ValueError.__new__" = true
 sb:L2.subIn K cR cW=true
 ex:zD8 K cR
 ms:ns.map mg=cs.map fun c=>some (.ref c)
 k1:PySem.W.kitAny K (.ref cR) (cs.map Value.ref)=some false
 kR:PySem.W.kitOne K (.ref cR) (.ref cR)=some true
 kV:PySem.W.kitOne K (.ref cR) (.type "ValueError")=some true
noncomputable abbrev nsT:List Str:=["NoLabels", "NoLeast", "NoOrder", "NoPart", "NoPlan", "NoPosts", "NoRing", "NoRow", "NoText", "NoTree", "TooMany"]
noncomputable abbrev nsO:List Str:=["NoLabels", "NoLeast", "NoPart", "NoPlan", "NoPosts", "NoRing", "NoRow", "NoText", "NoTie", "NoTree", "TooMany"]
section
variable {P:Program}{w:World}{K:PySem.W.Frag}{mg:Str->Option Value}{base:Heap}{C fI fP fS fT fW fL PT:Addr}
theorem ok_KPR {f fX c:Addr}{fd' fdX fdT:FuncData}(T:KC K mg C fI fP fS fT fW fL)(F:Fun K "put" "Keeper.put" sKP f fd') (FX:Fun K "with_tie" "with_tie" zFt fX fdX) (bX:zt K fdX ["web", "one", "other", "long"] []) (mX:mg "with_tie" = some (.ref fX)) (GX:zy P w K mg base (CXO P w) 7 fX fdX ["web", "one", "other", "long"] (zFq c))
 (bT:zt K fdT ["self", "web"] []) (GT:zy P w K mg base CX0 7 fT fdT ["self", "web"] (spKT C PT)):zy P w K mg base (CXO P w) 8 f fd' ["self", "one", "other", "long"] (zKc C c):=by
 refine F.okX scKP (fun vs H Q E h=>?_) (fun cdv A outer s H vs Q E hr h=>?_)
 . obtain⟨kp,dx,la,wa,oa,n,ts,os,ess,v1,v2,vl,d1,d2,dl,rfl,_⟩:=h
   rfl
 . obtain⟨kp,dx,la,wa,oa,n,ts,os,ess,v1,v2,vl,d1,d2,dl,rfl,k,S1,S2,S3,bad,q⟩:=h
   refine⟨_,zX (zAD (zCK (pv 0) T.cl T.mT GT hr bT .nil zAI (zB (zg GX hr rfl mX FX.kp bX .nil zFw (zB (zCg (pv 0) rfl) (zB (pv 1) (zB (pv 2) (zB (pv 3) zK))))) zK))),?_⟩
   refine⟨_,rfl,kp,dx,_,rfl,k.ins,rfl,?_⟩
   exact⟨_,rfl,kp,C,dx,_,.ref wa,rfl,k.ins,T.cl,T.nw,rfl,_,rfl,_,rfl,_,rfl,wa,n,ts,v1,v2,vl,d1,d2,dl,rfl,k.web,S1,S2,S3,bad,q⟩
theorem ok_KSR {f fX c:Addr}{fd' fdX fdT:FuncData}(T:KC K mg C fI fP fS fT fW fL)(F:Fun K "strike" "Keeper.strike" sKS f fd') (FX:Fun K "without_tie" "without_tie" zFs fX fdX) (bX:zt K fdX ["web", "one", "other"] []) (mX:mg "without_tie" = some (.ref fX)) (GX:zy P w K mg base (CXO P w) 7 fX fdX ["web", "one", "other"] (zFp c))
 (bT:zt K fdT ["self", "web"] []) (GT:zy P w K mg base CX0 7 fT fdT ["self", "web"] (spKT C PT)):zy P w K mg base (CXO P w) 8 f fd' ["self", "one", "other"] (zKb C c):=by
 refine F.okX scKS (fun vs H Q E h=>?_) (fun cdv A outer s H vs Q E hr h=>?_)
 . obtain⟨kp,dx,la,wa,oa,n,ts,os,ess,v1,v2,d1,d2,rfl,_⟩:=h
   rfl
 . obtain⟨kp,dx,la,wa,oa,n,ts,os,ess,v1,v2,d1,d2,rfl,k,S1,S2,bad,q⟩:=h
   refine⟨_,zX (zAD (zCK (pv 0) T.cl T.mT GT hr bT .nil zAI (zB (zg GX hr rfl mX FX.kp bX .nil zFw (zB (zCg (pv 0) rfl) (zB (pv 1) (zB (pv 2) zK)))) zK))),?_⟩
   refine⟨_,rfl,kp,dx,_,rfl,k.ins,rfl,?_⟩
   exact⟨_,rfl,kp,C,dx,_,.ref wa,rfl,k.ins,T.cl,T.nw,rfl,_,rfl,_,rfl,wa,n,ts,v1,v2,d1,d2,rfl,k.web,S1,S2,bad,q⟩
theorem zJN {f c:Addr}{fd' fdP fdS:FuncData}(T:KC K mg C fI fP fS fT fW fL)(F:Fun K "_law_done" "_law_done" zGk f fd') (bP:zt K fdP ["self", "one", "other", "long"] []) (GP:zy P w K mg base (CXO P w) 8 fP fdP ["self", "one", "other", "long"] (zKc C c))
 (bS:zt K fdS ["self", "one", "other"] []) (GS:zy P w K mg base (CXO P w) 8 fS fdS ["self", "one", "other"] (zKb C c)):zy P w K mg base (CXO P w) 9 f fd' ["_law_keeper", "_law_deed_here"] (zFr C c):=by
 refine F.okX zJ2 (fun vs H Q E h=>?_) (fun cdv A outer s H vs Q E hr h=>?_)
 . obtain⟨kp,dx,la,wa,oa,da,n,ts,os,ess,v1,v2,vl,d1,d2,dl,rfl,_⟩:=h
   rfl
 . obtain⟨kp,dx,la,wa,oa,da,n,ts,os,ess,v1,v2,vl,d1,d2,dl,rfl,k,hda,S1,S2,S3,bad,q⟩:=h
   refine⟨_,zO (zBK (zAG zCT (zAC zAR (pv 1) zY (fun _ _=>rfl)) zBX (zAN _))
    (zX (zAD (zCK (pv 0) T.cl T.mS GS hr bS .nil zFw (zB (zAC zAR (pv 1) zY (fun _ _=>rfl)) (zB (zAC zAR (pv 1) zY (fun _ _=>rfl)) zK))))) zAO)
    (zX (zAD (zCK (pv 0) T.cl T.mP GP hr bP .nil zFw (zB (zAC zAR (pv 1) zY (fun _ _=>rfl)) (zB (zAC zAR (pv 1) zY (fun _ _=>rfl)) (zB (zAC zAR (pv 1) zY (fun _ _=>rfl)) zK)))))),?_⟩
   have sq:=SqT.of (K:=K) hda
   refine⟨_,rfl,da,_,_,vl,rfl,rfl,sq,rfl,rfl,_,rfl,?_⟩
   rcases bad with ⟨z,bad⟩ | ⟨z,bad⟩
   . subst z
     refine zCz ?_
     refine⟨_,rfl,kp,dx,_,rfl,k.ins,rfl,?_⟩
     refine⟨_,rfl,da,_,_,v1,rfl,rfl,sq,rfl,_,rfl,da,_,_,v2,rfl,rfl,sq,rfl,?_⟩
     exact⟨kp,dx,la,wa,oa,n,ts,os,ess,v1,v2,d1,d2,rfl,k,S1,S2,bad,q⟩
   . refine ifF (zb z) ?_
     refine⟨_,rfl,kp,dx,_,rfl,k.ins,rfl,?_⟩
     refine⟨_,rfl,da,_,_,v1,rfl,rfl,sq,rfl,_,rfl,da,_,_,v2,rfl,rfl,sq,rfl,_,rfl,da,_,_,vl,rfl,rfl,sq,rfl,?_⟩
     exact⟨kp,dx,la,wa,oa,n,ts,os,ess,v1,v2,vl,d1,d2,dl,rfl,k,S1,S2,S3,bad,q⟩
theorem zFA:zAA ["_law_keeper", "_law_deed_here", "_law_caught", "e"] ["_law_keeper", "_law_deed_here"] (defScope zIw):=⟨rfl,rfl,rfl,by decide +kernel,rfl,by decide +kernel,by decide +kernel⟩
theorem zLI {f fB cW cR c1 c2 c3 c4 c5 c6 c7 c8 c9 c10 c11:Addr}{fd' fdB:FuncData}(F:Fun K "_law_refused" "_law_refused" zIw f fd') (FB:Fun K "_law_done" "_law_done" zGk fB fdB) (bB:zt K fdB ["_law_keeper", "_law_deed_here"] []) (mB:mg "_law_done" = some (.ref fB))
 (G:zy P w K mg base (CXO P w) 9 fB fdB ["_law_keeper", "_law_deed_here"] (zFr C cR)) (Er:ErrG K mg "NoTie" nsT cW cR [c1,c2,c3,c4,c5,c6,c7,c8,c9,c10,c11]) (mIsi:mg "isinstance" = none) (mVal:mg "ValueError" = none) :
 zy P w K mg base CX0 10 f fd' ["_law_keeper", "_law_deed_here"] (zJp C):=by
 obtain⟨h1,h2,h3,h4,h5,h6,h7,h8,h9,h10,h11⟩:mg "NoLabels" = some (.ref c1)/\mg "NoLeast" = some (.ref c2)/\mg "NoOrder" = some (.ref c3)/\mg "NoPart" = some (.ref c4)/\mg "NoPlan" = some (.ref c5)/\mg "NoPosts" = some (.ref c6)/\mg "NoRing" = some (.ref c7)/\mg "NoRow" = some (.ref c8)/\mg "NoText" = some (.ref c9)/\mg "NoTree" = some (.ref c10)/\mg "TooMany" = some (.ref c11):=by
  have:=Er.ms
  simpa using this
 refine F.ok zFA (fun vs H Q E h=>?_) (fun cdv A outer s H vs Q E hr h=>?_)
 . obtain⟨kp,dx,la,wa,oa,da,n,ts,os,ess,v1,v2,vl,d1,d2,dl,rfl,_⟩:=h
   rfl
 . obtain⟨kp,dx,la,wa,oa,da,n,ts,os,ess,v1,v2,vl,d1,d2,dl,rfl,k,hda,S1,S2,S3,bad,q⟩:=h
   refine⟨_,zO (zAK (i:=2) zFA.nd rfl (Or.inl rfl) zCC)
    (zO (zJ3 (i:=3) zFA.nd rfl rfl rfl rfl rfl rfl Er.mW Er.qW (zKz G hr rfl mB FB.kp bB (zB (pv 0) (zB (pv 1) zK)))
     (fun ea oe c hc=>zO (zAK (i:=2) zFA.nd rfl (Or.inl rfl) (zDY (zn (zDH (zC5 hc)) (by rfl) mIsi (by decide +kernel) (zB (pv 3) (zB (zAm (v:=.ref cR) rfl Er.mR rfl) zK))) (zDX (zn (zCv (zC5 hc)) (by rfl) mIsi (by decide +kernel) (zB (pv 3) (zB (zBn (T := "ValueError") (by rfl) mVal (by decide +kernel)) zK))))))
      (zX (zBK (zBd (zn (zCu (zC5 hc)) (by rfl) mIsi (by decide +kernel) (zB (pv 3) (zB (zAY (zHd (.cons (zAm (v:=.ref c1) rfl h1 rfl) (.cons (zAm (v:=.ref c2) rfl h2 rfl) (.cons (zAm (v:=.ref c3) rfl h3 rfl) (.cons (zAm (v:=.ref c4) rfl h4 rfl) (.cons (zAm (v:=.ref c5) rfl h5 rfl) (.cons (zAm (v:=.ref c6) rfl h6 rfl)
       (.cons (zAm (v:=.ref c7) rfl h7 rfl) (.cons (zAm (v:=.ref c8) rfl h8 rfl) (.cons (zAm (v:=.ref c9) rfl h9 rfl) (.cons (zAm (v:=.ref c10) rfl h10 rfl) (.cons (zAm (v:=.ref c11) rfl h11 rfl) .nil)))))))))))) ) zK)))) (zX (zAK (i:=2) zFA.nd rfl (Or.inl rfl) zCC)) zAO))))
    (zX (zAD (pv 2)))),?_⟩
   refine⟨_,rfl,_,rfl,kp,dx,la,wa,oa,da,n,ts,os,ess,v1,v2,vl,d1,d2,dl,rfl,k,hda,S1,S2,S3,bad,fun H' s'=>?_⟩
   refine⟨cR,rfl,Er.qR,Er.sb,fun ea oe hc hea=>?_⟩
   refine⟨_,rfl,cR,true,Er.ex,rfl,Er.kR,?_⟩
   refine⟨true,rfl,zCz ?_⟩
   refine⟨_,rfl, "ValueError",true,Er.ex,rfl,Er.kV,?_⟩
   refine⟨_,rfl,(by show 11<=sizeLine;decide),fun p hp=>?_⟩
   refine⟨p,[c1,c2,c3,c4,c5,c6,c7,c8,c9,c10,c11],false,Er.ex,rfl,zH,Er.k1,?_⟩
   refine⟨_,rfl,zCR ?_⟩
   exact⟨_,rfl,q _ (s'.trans (zF hp))⟩
end
end K65
namespace K65
open PySem L2 WM
section
variable {P:Program}{w:World}{K:PySem.W.Frag}{mg:Str->Option Value}{base:Heap}
noncomputable def zHG (c:Addr):Sp:=fun vs H _ E=>∃(wa:Addr)(v:V)(d:PyData)(n:Int)(ts:List T3),vs=[.ref wa,v]/\zAe H wa n ts/\zAZ H v d/\¬ zIe n d/\∀H',zAW H H'->E (.ref c) none H'
theorem zLV {f fO c:Addr}{fd' fdO:FuncData}(F:Fun K "by_order" "by_order" zI1 f fd') (FO:Fun K "is_order" "is_order" sOrd fO fdO) (bO:zt K fdO ["web", "thing"] []) (mO:mg "is_order" = some (.ref fO)) (GO:zy P w K mg base CX0 5 fO fdO ["web", "thing"] zGH)
 (mC:mg "NoOrder" = some (.ref c)) (qC:PySem.W.excIn K c bmV "ValueError.__new__" = true):zy P w K mg base (CXO P w) 6 f fd' ["web", "order"] (zHG c):=by
 refine F.okX zIv (fun vs H Q E h=>?_) (fun cdv A outer s H vs Q E hr h=>?_)
 . obtain⟨wa,v,d,n,ts,rfl,_⟩:=h
   rfl
 . obtain⟨wa,v,d,n,ts,rfl,W,S,no,k⟩:=h
   refine⟨_,zO (zBK (zBu (zBd (zg GO hr rfl mO FO.kp bO .nil zAI (zB (pv 0) (zB (pv 1) zK))))) (zX (zCe (E:=E) rfl mC qC rfl (zB zDC zK) (fun pins σ H s h' ea vs I mx hE=>zCH I mx hE) (hl:=fun σ H Q h=>⟨zM 1,h⟩))) zAO) zFF,?_⟩
   refine⟨_,rfl,_,rfl,wa,v,d,n,ts,rfl,W,S,fun b H' hb s'=>?_⟩
   have:b=false:=by
    cases b with
    | false=>rfl
    | true=>exact absurd (hb.mp rfl) no
   subst this
   refine⟨_,rfl,zCz ?_⟩
   exact k H' s'
end
noncomputable def zKd (C c:Addr):Sp:=fun vs H _ E=>∃(kp dx wa:Addr)(v:V)(d:PyData)(n:Int)(ts:List T3),vs=[.ref kp,.ref wa,v]/\H kp=some (.ins C dx [])/\zAe H wa n ts/\zAZ H v d/\¬ zIe n d/\∀H',zAW H H'->E (.ref c) none H'
noncomputable def spNoK:Sp:=fun vs H Q _=>∃(wa:Addr)(v:V)(d:PyData)(n:Int)(ts:List T3),vs=[.ref wa,v]/\zAe H wa n ts/\zAZ H v d/\¬ zIe n d/\∀H',zAW H H'->Q (.bl true) H'
section
open PySem PySem.Spec PySem.W PyProof.Rows
variable {X:Cx}{k:Nat}{f C:Addr}{fd:FuncData}{ps:List Str}{sp:Sp}{x:Str}{p pos epos:Pos}{e:Expr}{es:List Expr}{t:TA}
theorem zKy (M:Mk X.K C f)(F:zy X.prog X.w X.K X.mg X.base (CXO X.prog X.w) k f fd ps sp)(hr:zCF (k+1) X.A)(hg:Gl X x)(hm:X.mg x=some (.ref C))(hb:zt X.K fd ps [])
 (ha:PA X.nox (e::es) t)(hs:swapsWith (.Call (.Name x p) (e::es) [] pos) none epos.line X.env=pure false:=by rfl)(hdb:(x==("__debug__" : Str))=false:=by decide) (he:starEach (e::es) X.env=(false,eval e X.env)::starEach es X.env:=by rfl)(hpl:(backTo pos (starEach es X.env)).any (·.1)=false:=by rfl) :
 PX X [.Expr (.Call (.Name x p) (e::es) [] pos) epos] (fun E1 D σ H=>t σ H fun vs H1=>∀y dx,H1 y=none->H1 dx=none->dx≠y->sp (.ref y::vs) (upd (upd H1 dx (.own y)) y (.ins C dx [])) (fun v H2=>v = .non/\D.nx σ H2) E1):=by
 intro pins s σ H D E1 I h
 refine wpAny_execs_cons (wpAny_Expr_any (zAg (Q:=EP X pins σ fun _ H2=>D.nx σ H2) (E:=fun e s'=>∃H1 s1,Inv X pins σ H1 s1/\CXO X.prog X.w X.stack H1 s1 E1 e s') ?main (fun v s1 ⟨y,H1,I1,r1,q1⟩=>wpAny_execs_nil ⟨σ,H1,I1,q1⟩) fun _ _ z=>z) I.quiet hs)
 case main=>
  refine zAv (zCY I hg hm ?_ hdb)
  refine PySem.W.callWith_K (h₀:=X.base) I.ok.mod.kin M.kp (zAg (ha pos pins s σ H _ (I.wish _) h) (fun us s1 ⟨vs,H1,I1,r,q⟩=>⟨I1.unwish.kIn,?_⟩) fun _ _ z=>False.elim z) he hpl
  have I1':=I1.unwish
  have hq:=q (s1.heap.objs.size+1) s1.heap.objs.size (I1'.hok.fresh (Nat.le_succ _)) (I1'.hok.fresh (zM _)) (zW (zBG _))
  have I2:=Inv.made (C:=C) I1'
  have r2:zA2 (V.ref (s1.heap.objs.size+1)::vs) (Value.ref (s1.heap.objs.size+1)::us):=.cons rfl r
  have hl:(Value.ref (s1.heap.objs.size+1)::us).length=ps.length:=by rw[<-r2.length];exact F.len _ _ _ _ hq
  refine wpAny_call (zGW (f:=f) I1'.kIn M.makes M.init (beq_iff_eq.mp M.fn) (codeAny_mono (F.run _ X.stack _ _ ⟨Value.ref (s1.heap.objs.size+1)::us,[]⟩ (Value.ref (s1.heap.objs.size+1)::us) _ _ E1 (hr.make C us [])
   (I2.env0.make C us []) (by have:=hb _ (Value.ref (s1.heap.objs.size+1)::us) I2.kIn (by rw[zr];exact hl);rw[zr] at this;exact this) r2 hq) fun r s' hq'=>?_))
  cases r with
  | error e=>exact⟨_,_,I2,hq'⟩
  | ok fl=>
   cases fl with
   | ret u=>
    obtain⟨v,H',I3,rv,ev,q3⟩:=I2.after hq'
    subst ev
    exact⟨rv,⟨V.ref (s1.heap.objs.size+1),H',I3,rfl,q3⟩⟩
   | next=>exact False.elim hq'
   | brk=>exact False.elim hq'
   | cont=>exact False.elim hq'
end
section
variable {P:Program}{w:World}{K:PySem.W.Frag}{mg:Str->Option Value}{base:Heap}{C fI fP fS fT fW fL PT:Addr}
theorem ok_KIR {f fB c:Addr}{fd' fdB:FuncData}(T:KC K mg C fI fP fS fT fW fL)(F:Fun K "__init__" "Keeper.__init__" sKI f fd') (FB:Fun K "by_order" "by_order" zI1 fB fdB) (bB:zt K fdB ["web", "order"] []) (mB:mg "by_order" = some (.ref fB)) (GB:zy P w K mg base (CXO P w) 6 fB fdB ["web", "order"] (zHG c)) :
 zy P w K mg base (CXO P w) 7 f fd' ["self", "web", "order"] (zKd C c):=by
 refine F.okX scKI (fun vs H Q E h=>?_) (fun cdv A outer s H vs Q E hr h=>?_)
 . obtain⟨kp,dx,wa,v,d,n,ts,rfl,_⟩:=h
   rfl
 . obtain⟨kp,dx,wa,v,d,n,ts,rfl,hkp,W,S,no,q⟩:=h
   refine⟨_,zO (zEK (pv 0) (zg GB hr rfl mB FB.kp bB .nil zFw (zB (pv 1) (zB (pv 2) zK))) rfl) zFF,?_⟩
   exact⟨_,rfl,_,rfl,wa,v,d,n,ts,rfl,W,S,no,q⟩
theorem zHL:zAA ["_law_web_here", "_law_thing", "_law_caught", "e"] ["_law_web_here", "_law_thing"] (defScope sNoK):=⟨rfl,rfl,rfl,by decide +kernel,rfl,by decide +kernel,by decide +kernel⟩
theorem ok_noK {f cW cR c1 c2 c3 c4 c5 c6 c7 c8 c9 c10 c11:Addr}{fd' fdI:FuncData}(T:KC K mg C fI fP fS fT fW fL)(F:Fun K "_law_no_keeper" "_law_no_keeper" sNoK f fd') (bI:zt K fdI ["self", "web", "order"] []) (G:zy P w K mg base (CXO P w) 7 fI fdI ["self", "web", "order"] (zKd C cR))
 (Er:ErrG K mg "NoOrder" nsO cW cR [c1,c2,c3,c4,c5,c6,c7,c8,c9,c10,c11]) (mIsi:mg "isinstance" = none) (mVal:mg "ValueError" = none) :
 zy P w K mg base CX0 9 f fd' ["_law_web_here", "_law_thing"] spNoK:=by
 obtain⟨h1,h2,h3,h4,h5,h6,h7,h8,h9,h10,h11⟩:mg "NoLabels" = some (.ref c1)/\mg "NoLeast" = some (.ref c2)/\mg "NoPart" = some (.ref c3)/\mg "NoPlan" = some (.ref c4)/\mg "NoPosts" = some (.ref c5)/\mg "NoRing" = some (.ref c6)/\mg "NoRow" = some (.ref c7)/\mg "NoText" = some (.ref c8)/\mg "NoTie" = some (.ref c9)/\mg "NoTree" = some (.ref c10)/\mg "TooMany" = some (.ref c11):=by
  have:=Er.ms
  simpa using this
 refine F.ok zHL (fun vs H Q E h=>?_) (fun cdv A outer s H vs Q E hr h=>?_)
 . obtain⟨wa,v,d,n,ts,rfl,_⟩:=h
   rfl
 . obtain⟨wa,v,d,n,ts,rfl,W,S,no,q⟩:=h
   refine⟨_,zO (zAK (i:=2) zHL.nd rfl (Or.inl rfl) zCC)
    (zO (zJ3 (i:=3) zHL.nd rfl rfl rfl rfl rfl rfl Er.mW Er.qW (zKy T.mI G hr rfl T.mC bI (zB (pv 0) (zB (pv 1) zK)))
     (fun ea oe c hc=>zO (zAK (i:=2) zHL.nd rfl (Or.inl rfl) (zDY (zn (zDH (zC5 hc)) (by rfl) mIsi (by decide +kernel) (zB (pv 3) (zB (zAm (v:=.ref cR) rfl Er.mR rfl) zK))) (zDX (zn (zCv (zC5 hc)) (by rfl) mIsi (by decide +kernel) (zB (pv 3) (zB (zBn (T := "ValueError") (by rfl) mVal (by decide +kernel)) zK))))))
      (zX (zBK (zBd (zn (zCu (zC5 hc)) (by rfl) mIsi (by decide +kernel) (zB (pv 3) (zB (zAY (zHd (.cons (zAm (v:=.ref c1) rfl h1 rfl) (.cons (zAm (v:=.ref c2) rfl h2 rfl) (.cons (zAm (v:=.ref c3) rfl h3 rfl) (.cons (zAm (v:=.ref c4) rfl h4 rfl) (.cons (zAm (v:=.ref c5) rfl h5 rfl) (.cons (zAm (v:=.ref c6) rfl h6 rfl)
       (.cons (zAm (v:=.ref c7) rfl h7 rfl) (.cons (zAm (v:=.ref c8) rfl h8 rfl) (.cons (zAm (v:=.ref c9) rfl h9 rfl) (.cons (zAm (v:=.ref c10) rfl h10 rfl) (.cons (zAm (v:=.ref c11) rfl h11 rfl) .nil)))))))))))) ) zK)))) (zX (zAK (i:=2) zHL.nd rfl (Or.inl rfl) zCC)) zAO))))
    (zX (zAD (pv 2)))),?_⟩
   refine⟨_,rfl,_,rfl,fun kp dx hkp hdx ne=>?_⟩
   have hkp':(upd H dx (.own kp)) kp=none:=by rw[zV (Ne.symm ne)];exact hkp
   have s0:zAW H (upd (upd H dx (.own kp)) kp (.ins C dx [])):=(zF (o:=.own kp) hdx).trans (zF (o:=.ins C dx []) hkp')
   refine⟨kp,dx,wa,v,d,n,ts,rfl,zH,W.keep s0,zA7 s0 S,no,fun H' s1=>?_⟩
   have s':=s0.trans s1
   refine⟨cR,rfl,Er.qR,Er.sb,fun ea oe hc hea=>?_⟩
   refine⟨_,rfl,cR,true,Er.ex,rfl,Er.kR,?_⟩
   refine⟨true,rfl,zCz ?_⟩
   refine⟨_,rfl, "ValueError",true,Er.ex,rfl,Er.kV,?_⟩
   refine⟨_,rfl,(by show 11<=sizeLine;decide),fun p hp=>?_⟩
   refine⟨p,[c1,c2,c3,c4,c5,c6,c7,c8,c9,c10,c11],false,Er.ex,rfl,zH,Er.k1,?_⟩
   refine⟨_,rfl,zCR ?_⟩
   exact⟨_,rfl,q _ (s'.trans (zF hp))⟩
end
end K65
namespace K65
open PySem L2 WM
noncomputable def Lof (n:Int)(os:List Int)(ts:List T3)(ess:List (List En)):Prop:=∃rk,zKM n os rk/\zDw ts n rk ess
theorem Lof.uniq {n:Int}{os:List Int}{ts:List T3}{e e':List (List En)}(G:GW n ts)(O:zGB n os)(a:Lof n os ts e)(b:Lof n os ts e'):e=e':=by
 obtain⟨rk,r1,l1⟩:=a
 obtain⟨rk',r2,l2⟩:=b
 exact zDw.uniq G O.nd r1 r2 l1 l2
theorem sm_o {H:Hp}(o:Option Int):∀h,SM H h (oV o) (oV o)
 | 0=>⟨o,rfl,rfl⟩
 | _+1=>.inl ⟨o,rfl,rfl⟩
theorem zJy {H:Hp}{h:Nat}{p q:Addr}{xs:List (Option Int)}(hp:H p=some (.tup (xs.map oV)))(hq:H q=some (.tup (xs.map oV)))(hl:xs.length<=1000):SM H (h+1) (.ref p) (.ref q):=by
 refine .inr ⟨p,q,_,_,rfl,rfl,hp,hq,rfl,by rw[zD];exact hl,fun i x y hx hy=>?_⟩
 rw[hx] at hy
 cases hy
 rw[zU] at hx
 cases e:xs[i]? with
 | none=>rw[e] at hx;cases hx
 | some o=>rw[e] at hx;cases hx;exact sm_o o h
theorem zKk {H:Hp}{h:Nat}{p q:Addr}{xs:List Int}(hp:H p=some (.tup (xs.map V.int)))(hq:H q=some (.tup (xs.map V.int)))(hl:xs.length<=1000):SM H (h+1) (.ref p) (.ref q):=by
 have e:xs.map V.int=(xs.map some).map oV:=by rw[List.map_map];rfl
 rw[e] at hp hq
 exact zJy hp hq (by rw[zD];exact hl)
theorem zKj {H:Hp}{p q:Addr}{ess:List (List En)}(a:zCV H p ess)(b:zCV H q ess)(hl:ess.length<=1000):SM H 4 (.ref p) (.ref q):=by
 obtain⟨as,a1,a2,a3⟩:=a
 obtain⟨bs,b1,b2,b3⟩:=b
 refine .inr ⟨p,q,_,_,rfl,rfl,a1,b1,by rw[zD,zD];omega,by rw[zD];omega,fun i x y hx hy=>?_⟩
 rw[zU] at hx hy
 cases e:as[i]? with
 | none=>rw[e] at hx;cases hx
 | some u=>
  rw[e] at hx
  cases hx
  cases e':bs[i]? with
  | none=>rw[e'] at hy;cases hy
  | some v=>
   rw[e'] at hy
   cases hy
   obtain⟨es,e1,cs,c1,c2,c3⟩:=a3 i u e
   obtain⟨es',e2,ds,d1,d2,d3⟩:=b3 i v e'
   rw[e1] at e2
   cases e2
   refine .inr ⟨u,v,_,_,rfl,rfl,c1,d1,by rw[zD,zD,c2.1,d2.1],by rw[zD,c2.1];exact c3,fun j x y hx hy=>?_⟩
   obtain⟨f,en,rfl,g1,g2⟩:=c2.at hx
   obtain⟨f',en',rfl,g1',g2'⟩:=d2.at hy
   rw[g1] at g1'
   cases g1'
   exact zJy (xs:=enL en) g2 g2' (by show 4<=1000;decide)
theorem sm_web {H:Hp}{p q:Addr}{n:Int}{ts:List T3}(a:zAe H p n ts)(b:zAe H q n ts):SM H 4 (.ref p) (.ref q):=by
 obtain⟨ta,tys,a1,a2,a3,G⟩:=a
 obtain⟨tb,tzs,b1,b2,b3,_⟩:=b
 refine .inr ⟨p,q,_,_,rfl,rfl,a1,b1,rfl,by show 2<=1000;decide,fun i x y hx hy=>?_⟩
 have l1:=a3.length
 have l2:=b3.length
 have h64:=G.len
 rw[zD] at l1 l2
 match i,hx,hy with
 | 0,hx,hy=>cases hx;cases hy;exact sm_o (some n) 3
 | 1,hx,hy=>
  cases hx;cases hy
  refine .inr ⟨ta,tb,_,_,rfl,rfl,a2,b2,by omega,by omega,fun j x y hx hy=>?_⟩
  obtain⟨u,k,rfl,hk,hu,_⟩:=a3.get hx
  obtain⟨v,k',rfl,hk',hv,_⟩:=b3.get hy
  rw[hk] at hk'
  cases hk'
  rw[zU] at hk
  cases e:ts[j]? with
  | none=>rw[e] at hk;cases hk
  | some t3=>rw[e] at hk;cases hk;exact zKk hu hv (by show 3<=1000;decide)
 | i+2,hx,hy=>simp at hx
theorem zAf.smK {H H':Hp}{t kp C dx:Addr}{N:Nat}{fs:List (Str×V)}(F:zAf H t N)(h:H kp=some (.ins C dx fs))(s:SmK kp H H'):zAf H' t N:=by
 obtain⟨p,ns,spot,rest,ht,hp,r⟩:=F
 exact⟨p,ns,spot,rest,s.get (zAJ ht h (by intro z;cases z)) ht (by intro ps z;cases z),s.get (zAJ hp h (by intro z;cases z)) hp (by intro ps z;cases z),r⟩
theorem zE6 {t:Addr}{H H':Hp}{PT:Addr}{pos:Pos}{q:Str}{N:Nat}(T:zB5 H PT pos q)(F:zAf H t N)(s:Sm t H H'):zB5 H' PT pos q:=by
 obtain⟨p,ns,spot,rest,ht,_⟩:=F
 refine T.keep (fun o e=>?_) fun c φ e=>?_
 . refine s _ _ (fun z=>?_) e
   obtain⟨ps,hps,_⟩:=T
   rw[z,ht] at hps;cases hps
 . exact s _ _ (fun z=>by rw[z,ht] at e;cases e) e
theorem zBB.smT {H H':Hp}{C kp dx la wa oa:Addr}{n:Int}{ts:List T3}{os:List Int}{ess:List (List En)}(h:zBB H C kp dx la wa oa n ts os ess)(s:SmT H H'):zBB H' C kp dx la wa oa n ts os ess:=
 h.keep ((s.get h.ins (by intro ps z;cases z)).trans h.ins.symm) fun b ys e=>s.get e (by intro ps z;cases z)
noncomputable def zGG (C PT:Addr):Sp:=fun vs H Q _=>∃(kp dx la wa oa wl ob:Addr)(n:Int)(ts:List T3)(os:List Int)(ess:List (List En)),vs=[.ref kp,.ref wl,.ref ob]/\zBB H C kp dx la wa oa n ts os ess/\zAe H wl n ts/\H ob=some (.tup (os.map V.int))/\Tb H PT/\∀H',SmT H H'->Tb H' PT->Q (.bl true) H'
section
variable {P:Program}{w:World}{K:PySem.W.Frag}{mg:Str->Option Value}{base:Heap}{C fI fP fS fT fW fL PT:Addr}
theorem zIu:zAA ["_law_keeper", "_law_web_here", "_law_order_here"] ["_law_keeper", "_law_web_here", "_law_order_here"] (defScope zEd):=⟨rfl,rfl,rfl,by decide +kernel,rfl,by decide +kernel,by decide +kernel⟩
theorem zHk {f fSa fB:Addr}{fd' fdW fdL fdSa fdB:FuncData}(T:KC K mg C fI fP fS fT fW fL)(F:Fun K "_law_stands" "_law_stands" zEd f fd') (bW:zt K fdW ["self"] []) (GW':zy P w K mg base CX0 6 fW fdW ["self"] (spKW C)) (bL:zt K fdL ["self"] []) (GL:zy P w K mg base CX0 6 fL fdL ["self"] (spKL C))
 (FS:Fun K "_law_same" "_law_same" zFv fSa fdSa) (bS:zt K fdSa ["_law_found", "_law_due"] []) (mS:mg "_law_same" = some (.ref fSa)) (GS:zy P w K mg base CX0 6 fSa fdSa ["_law_found", "_law_due"] (spSm 4))
 (FB:Fun K "by_order" "by_order" zI1 fB fdB) (bB:zt K fdB ["web", "order"] []) (mB:mg "by_order" = some (.ref fB)) (GB:zy P w K mg base CX0 6 fB fdB ["web", "order"] (zHH PT)):zy P w K mg base CX0 7 f fd' ["_law_keeper", "_law_web_here", "_law_order_here"] (zGG C PT):=by
 refine F.ok zIu (fun vs H Q E h=>?_) (fun cdv A outer s H vs Q E hr h=>?_)
 . obtain⟨kp,dx,la,wa,oa,wl,ob,n,ts,os,ess,rfl,_⟩:=h
   rfl
 . obtain⟨kp,dx,la,wa,oa,wl,ob,n,ts,os,ess,rfl,k,W,hob,TT,q⟩:=h
   obtain⟨ta,tys,hwl,_,_,G⟩:=id W
   refine⟨_,zO (zBK (zBu (zBd (zg GS hr rfl mS FS.kp bS .nil zAI (zB (zGO (pv 0) T.cl T.mW GW' hr bW .nil zAI) (zB (pv 1) zK))))) (zX (zAD zCC)) zAO)
    (zX (zAD (pe_or (zBr zCD (zAC zAR (pv 1) zY (fun _ _=>rfl)) zY (zAN _)) (zDX (zg GS hr rfl mS FS.kp bS .nil zAI (zB (zGO (pv 0) T.cl T.mL GL hr bL .nil zAI) (zB (zg GB hr rfl mB FB.kp bB .nil zAI (zB (pv 1) (zB (pv 2) zK))) zK))))))),?_⟩
   refine⟨_,rfl,kp,dx,_,rfl,k.ins,rfl,kp,dx,la,wa,oa,n,ts,os,ess,rfl,k,?_⟩
   refine⟨_,rfl,_,_,rfl,sm_web k.web W,fun H1 s1=>?_⟩
   refine⟨_,rfl,zCR ?_⟩
   have k1:=k.same s1
   refine⟨_,rfl,wl,_,_,.int n,rfl,rfl,SqT.of (s1 _ _ hwl),rfl,rfl,_,rfl,?_⟩
   refine zDL (fun c=>?_) (fun c=>?_)
   . exact q H1 (SmT.of s1) (TT.same s1)
   . refine⟨_,rfl,kp,dx,_,rfl,k1.ins,rfl,kp,dx,la,wa,oa,n,ts,os,ess,rfl,k1,?_⟩
     refine⟨_,rfl,_,rfl,wl,ob,n,ts,os,rfl,W.keep s1,s1 _ _ hob,k.od,TT.same s1,fun lb ess2 rk H2 s2 T2 L2 R2 LO _=>?_⟩
     have ee:ess2=ess:=Lof.uniq G k.od ⟨rk,R2,LO⟩ k.lof
     subst ee
     refine⟨_,_,rfl,zKj (k1.smT s2).lab L2 (by rw[LO.1];have:=G.n24;omega),fun H3 s3=>?_⟩
     exact q H3 (((SmT.of s1).trans s2).trans (SmT.of s3)) (T2.same s3)
end
end K65
namespace K65
open PySem L2 WM
theorem zEC {H:Hp}:∀{xs:List V}{ks:List (List Int)}(i:Nat),zw H xs ks->zw H (xs.eraseIdx i) (ks.eraseIdx i)
 | [],[],_,h=>h
 | [],_::_,_,h=>h.elim
 | _::_,[],_,h=>h.elim
 | _::_,_::_,0,h=>h.2
 | _::_,_::_,i+1,h=>⟨h.1,zEC i h.2⟩
theorem zKC {α β:Type}(f:α->β):∀(l:List α)(k:Nat),(l.eraseIdx k).map f=(l.map f).eraseIdx k
 | [],_=>rfl
 | _::_,0=>rfl
 | x::r,k+1=>congrArg (f x :: ·) (zKC f r k)
noncomputable abbrev P2:=Int×Int
noncomputable def tp2 (p:P2):List Int:=[p.1,p.2]
noncomputable def lt2 (p q:P2):Prop:=p.1<q.1\/(p.1=q.1/\p.2<q.2)
structure FlI (ps:List P2)(i:Int):Prop where
 rng:∀p∈ps,0<=p.1/\p.1<p.2/\p.2<12/\p.1<i
 pw:ps.Pairwise lt2
noncomputable def triN (i:Nat):Nat:=[0,11,21,30,38,45,51,56,60,63,65,66,66].getD i 0
theorem zG8:∀i:Fin 12,triN (i.val+1)=triN i.val+(11-i.val):=by decide
theorem zKR:∀i:Fin 13,triN i.val<=66:=by decide
noncomputable def zHT (i j:Nat):List P2:=(List.range j).map fun b:Nat=>((i:Int),(i:Int)+1+b)
theorem zHS (i j:Nat):zHT i (j+1)=zHT i j++[((i:Int),(i:Int)+1+j)]:=by unfold zHT;rw[List.range_succ,zR];rfl
theorem zEf (i j:Nat):(zHT i j).length=j:=by unfold zHT;rw[zD,zA4]
theorem FlI.row {ps:List P2}{i:Nat}(h:FlI ps i)(hi:i<12):FlI (ps++zHT i (11-i)) ((i:Int)+1):=by
 have rw':∀p∈zHT i (11-i),p.1=(i:Int)/\(i:Int)<p.2/\p.2<12:=fun p hp=>by
  unfold zHT at hp
  obtain⟨b,hb,rfl⟩:=zAB.mp hp
  have:=zAu.mp hb
  exact⟨rfl,by show (i:Int)<i+1+b;omega,by show (i:Int)+1+b<12;omega⟩
 refine⟨fun p hp=>?_,List.pairwise_append.mpr ⟨h.pw,?_,fun p hp q hq=>?_⟩⟩
 . rcases zx.mp hp with z | z
   . have:=h.rng p z;omega
   . have:=rw' p z;omega
 . unfold zHT
   rw[zAU]
   exact List.pairwise_lt_range.imp fun {a b} h=>.inr ⟨rfl,by show (i:Int)+1+a<i+1+b;omega⟩
 . have a:=h.rng p hp
   have b:=rw' q hq
   exact .inl (by omega)
theorem FlI.erase {ps:List P2}{i:Int}(h:FlI ps i)(k:Nat):FlI (ps.eraseIdx k) i:=⟨fun p hp=>h.rng p (List.mem_of_mem_eraseIdx hp),h.pw.sublist (List.eraseIdx_sublist ..)⟩
structure TieI (ts:List T3)(ps:List P2):Prop where
 eq:ts.map (fun t=>((t.1,t.2.1):P2))=ps
 lg:∀t∈ts,1<=t.2.2/\t.2.2<=99
theorem tie_gw {ts:List T3}{ps:List P2}(h:TieI ts ps)(F:FlI ps 12)(hl:ps.length<=60):GW 12 ts/\zEW ts:=by
 have pw:ts.Pairwise fun s t=>lt2 (s.1,s.2.1) (t.1,t.2.1):=by
  have:=F.pw
  rw[<-h.eq,zAU] at this
  exact this
 refine⟨⟨by decide,by decide,?_,fun t ht=>?_,pw.imp fun {s t} q e=>?_⟩,?_⟩
 . have:=congrArg List.length h.eq
   rw[zD] at this
   omega
 . have hm:((t.1,t.2.1):P2)∈ps:=by rw[<-h.eq];exact zAB.mpr ⟨t,ht,rfl⟩
   have a:=F.rng _ hm
   have b:=h.lg t ht
   dsimp only at a
   exact⟨a.1,a.2.1,a.2.2.1,b⟩
 . rcases q with q | q
   . have:s.1<t.1:=q
     omega
   . have:s.2.1<t.2.1:=q.2
     omega
 . unfold zEW zD5
   rw[zAU]
   refine pw.imp fun {s t} q=>?_
   unfold tl
   rw[HT.lexLt_cons]
   rcases q with q | ⟨q1,q2⟩
   . have q':s.1<t.1:=q
     rw[if_neg (by omega)]
     exact zb (by omega)
   . have q1':s.1=t.1:=q1
     have q2':s.2.1<t.2.1:=q2
     rw[if_pos q1'.symm,HT.lexLt_cons,if_neg (by omega)]
     exact zb (by omega)
noncomputable def zJs:Sp:=fun vs H Q _=>∃(t:Addr)(N:Nat),vs=[.ref t]/\zAf H t N/\N<800000/\∀(wa:Addr)(ts:List T3)(H':Hp),zAe H' wa 12 ts->zEW ts->ts.length=60->zAf H' t (N+100)->Sm t H H'->Q (.ref wa) H'
section
variable {P:Program}{w:World}{K:PySem.W.Frag}{mg:Str->Option Value}{base:Heap}
theorem zGL:zAA ["_law_feed_here", "_law_pairs", "_law_one", "_law_turn"] ["_law_feed_here"] (defScope zIy):=⟨rfl,rfl,rfl,by decide +kernel,rfl,by decide +kernel,by decide +kernel⟩
theorem zLQ {f fD:Addr}{fd' fdD:FuncData}(F:Fun K "_law_full_web" "_law_full_web" zIy f fd') (FD:Fun K "_law_take" "_law_take" zDy fD fdD) (bD:zt K fdD ["_law_feed_here", "_law_many"] []) (mD:mg "_law_take" = some (.ref fD)) (mLen:mg "len" = none) (mRange:mg "range" = none) (mTuple:mg "tuple" = none):zy P w K mg base CX0 2 f fd' ["_law_feed_here"] zJs:=by
 have GD:zy P w K mg base CX0 1 fD fdD ["_law_feed_here", "_law_many"] zC1:=zCh FD mLen
 refine F.ok zGL (fun vs H Q E h=>?_) (fun cdv A outer s H vs Q E hr h=>?_)
 . obtain⟨t,N,rfl,_⟩:=h
   rfl
 . obtain⟨t,N,rfl,TT,hN,k⟩:=h
   obtain⟨p,T⟩:=TT
   refine⟨_,zO (zAK (i:=1) zGL.nd rfl (Or.inl rfl) (zBF zK))
    (zO (zCf PassesOwn.never rfl (zBe rfl mRange (zBM zK)) (zz (i:=2) zGL.nd rfl (Or.inr rfl))
     (zX (zBp (zC4 PySem.F.plainAttrs_list PySem.F.slot_list_extend PySem.F.type_list_extend zCi (pv 1) (zB
      (zBS (own:=["_law_other"]) (cn:=["_law_one"]) (ci:=[2]) rfl (csc rfl rfl) ⟨rfl,rfl,rfl,trivial⟩ rfl
       (zFI rfl mRange (zB (zAc zBo (pv 2) zY) (zBM zK))) (fun _ _ _ _=>zz (i:=0) (zBv rfl) rfl (Or.inl rfl)) (fun _ _ _ _=>zBZ)
       (fun _ _ _ _=>zAY (zB (pv 1) (zB (pv 0) zK)))) zK)))))
    (zO (zCf PassesOwn.never rfl (zBe rfl mRange (zBM zK)) (zz (i:=3) zGL.nd rfl (Or.inl rfl))
     (zX (zBp (zC4 PySem.F.plainAttrs_list PySem.F.slot_list_pop PySem.F.type_list_pop zGU (pv 1)
      (zB (zg GD hr rfl mD FD.kp bD .nil zAI (zB (pv 0) (zB (zn zAS (by rfl) mLen PySem.boot_len (zB (pv 1) zK)) zK))) zK)))))
    (zX (zAD (zAY (zBM (zB (zAd zAP (by rfl) mTuple (by decide +kernel) (zB (zBS (own:=["_law_pair"]) (cn:=["_law_feed_here"]) (ci:=[0]) rfl (csc rfl rfl) ⟨rfl,rfl,rfl,trivial⟩ rfl
     (zBy (pv 1)) (fun _ _ _ _=>zz (i:=0) (zBv rfl) rfl (Or.inl rfl)) (fun _ _ _ _=>zBZ)
     (fun _ _ _ _=>zAc zCM (pv 0) (zAY (zB (zAc zBo zY (zg GD hr rfl mD FD.kp bD .nil zAI (zB (pv 1) (zBM zK)))) zK)))) zK)) zK))))))),?_⟩
   refine⟨zj _,fun D hD=>?_⟩
   have nDt:=(T.ne hD).1
   have nDp:=(T.ne hD).2
   refine⟨12,rfl,by decide,by decide,zCo (lo:=0) (n:=12) (fun i σ H2=>i<=12/\∃(v2:Option V)(ys:List V)(ps:List P2),σ=[some (.ref t),some (.ref D),v2,none]/\H2 D=some (.lst ys)/\zw H2 ys (ps.map tp2)/\FlI ps i/\ps.length=triN i/\zBV H2 t p N/\Sm t H H2)
    ⟨by decide,_,[],[],rfl,zH,trivial,⟨by simp,zBb⟩,rfl,T.laid hD,Sm.laid hD⟩ (fun i σ H2 hi z=>?_) (fun σ H2 z=>?_)⟩
   . obtain⟨_,v2,ys,ps,rfl,hD2,TA,Fl,hlen,T2,s2⟩:=z
     rw[zBW]
     have h66:=zKR ⟨i,by omega⟩
     dsimp only at h66
     refine⟨_,rfl,.inl ⟨rfl,_,SqL.of hD2⟩,?_⟩
     refine⟨_,rfl,_,_,rfl,rfl,(i:Int)+1,12,rfl,⟨by omega,by omega,by decide,by decide⟩,[.int i],rfl,fun D2 hDn=>?_⟩
     have nD2:=T2.ne hDn
     have en:((12:Int)-((i:Int)+1)).toNat=11-i:=by omega
     rw[en]
     refine zBh (lo:=(i:Int)+1) (n:=11-i) (fun j zs H3=>j<=11-i/\zw H3 zs ((zHT i j).map tp2)/\zAW H2 H3/\H3 D2=some (.lst zs)) ⟨zj _,trivial,zF hDn,zH⟩ (fun j zs H3 z=>?_) (fun j zs H3 hj z=>?_) (fun zs H3 z=>?_)
     . have h1:=z.2.1.length
       rw[zD,zEf] at h1
       exact zd (by have:=z.1;omega)
     . obtain⟨_,T3,s3,h3⟩:=z
       refine⟨⟨rfl,rfl⟩,?_⟩
       refine zFm ?_
       refine⟨_,rfl,_,rfl,by show 2<=sizeLine;decide,fun q hq=>?_⟩
       have s4:=zF (o:=.tup [.int i,.int ((i:Int)+1+j)]) hq
       refine⟨s4 _ _ h3,hj,?_,zAy (s3.trans s4) hDn,zH⟩
       rw[zHS,zR]
       have h34:=s4 _ _ h3
       refine (T3.keep fun b zs e=>?_).snoc ⟨q,rfl,?_,by simp[tp2]⟩
       . have e5:=s4 _ _ e
         rw[zV (zAJ e5 h34 (by intro z;cases z))];exact e5
       . rw[zV (Ne.symm (zc h3 hq))];exact zH
     . obtain⟨_,T3,s3,h3⟩:=z
       have hD3:=s3 _ _ hD2
       have ly:=TA.length
       have lz:=T3.length
       rw[zD] at ly lz
       rw[zEf] at lz
       refine⟨D,D2,ys,zs,rfl,rfl,hD3,h3,zAE (zd (by omega)),?_⟩
       refine⟨by omega,_,ys++zs,ps++zHT i (11-i),rfl,zH,?_,Fl.row (by omega),?_,?_,?_⟩
       . rw[zR]
         refine (zEX (TA.keep fun b zs e=>s3 _ _ e) T3).keep fun b zs e=>?_
         rw[zV (zAJ e hD3 (by intro z;cases z))];exact e
       . rw[zN,zEf,hlen]
         exact (zG8 ⟨i,by omega⟩).symm
       . obtain⟨ns,spot,rest,a,b,c⟩:=id T2
         exact (show zBV H3 t p N from ⟨ns,spot,rest,s3 _ _ a,s3 _ _ b,c⟩).upd nDt nDp
       . exact (s2.trans (Sm.of s3)).chg hD
   . obtain⟨_,v2,ys,ps,rfl,hD2,TA,Fl,hlen,T2,s2⟩:=z
     refine⟨6,rfl,by decide,by decide,zCo (lo:=0) (n:=6) (fun i σ H3=>i<=6/\∃(v3:Option V)(ys:List V)(ps:List P2),σ=[some (.ref t),some (.ref D),v2,v3]/\H3 D=some (.lst ys)/\zw H3 ys (ps.map tp2)/\FlI ps 12/\ps.length=66-i/\zBV H3 t p (N+i)/\Sm t H H3)
      ⟨by decide,_,ys,ps,rfl,hD2,TA,Fl,hlen,T2,s2⟩ (fun i σ H3 hi z=>?_) (fun σ H3 z=>?_)⟩
     . obtain⟨_,v3,ys,ps,rfl,hD3,TA,Fl,hlen,F3,s3⟩:=z
       rw[zBW]
       have ly:=TA.length
       rw[zD] at ly
       refine⟨_,rfl,.inl ⟨rfl,_,SqL.of hD3⟩,?_⟩
       refine⟨_,rfl,_,rfl,D,_,rfl,.inl (SqL.of hD3),t,p,_,_,rfl,F3,by omega,by omega,by omega,fun r H4 h0 h1 T4 he4=>?_⟩
       have hrl:r.toNat<ys.length:=by omega
       have hD4:H4 D=some (.lst ys):=by rw[he4 D nDt];exact hD3
       refine⟨D,ys,r,r.toNat,ys[r.toNat],rfl,rfl,hD4,by omega,by omega,PySem.StrLaws.seqIndex_nonneg h0 (by omega),zC hrl,?_⟩
       refine⟨by omega,_,ys.eraseIdx r.toNat,ps.eraseIdx r.toNat,rfl,zH,?_,Fl.erase _,?_,(T4.upd nDt nDp).mono (by omega),(s3.trans (zB7 he4)).chg hD⟩
       . have e:(ps.eraseIdx r.toNat).map tp2=(ps.map tp2).eraseIdx r.toNat:=zKC tp2 ps r.toNat
         rw[e]
         refine (zEC _ TA).keep fun b zs e=>?_
         have nbt:b≠t:=by
          obtain⟨ns,spot,rest,a,_⟩:=id F3
          exact zAJ e a (by intro z;cases z)
         have e4:H4 b=some (.tup zs):=by rw[he4 b nbt];exact e
         rw[zV (zAJ e4 hD4 (by intro z;cases z))];exact e4
       . rw[List.length_eraseIdx,if_pos (by omega)]
         omega
     . obtain⟨_,v3,ys,ps,rfl,hD3,TA,Fl,hlen,F3,s3⟩:=z
       have ly:=TA.length
       rw[zD] at ly
       refine⟨_,rfl,D,rfl,⟨_,SqL.of hD3⟩,[.ref t],rfl,fun D2 hDn=>?_⟩
       have nD2:=F3.ne hDn
       have nDD:D≠D2:=zc hD3 hDn
       refine zBx (a:=D) (xs:=ys) (fun j zs H5=>j<=ys.length/\∃ts:List T3,zw H5 zs (ts.map tl)/\TieI ts (ps.take j)/\zBV H5 t p (N+6+j)/\Sm t H3 H5/\H5 D2=some (.lst zs)) ⟨zj _,[],trivial,⟨rfl,by simp⟩,F3.laid hDn,Sm.laid hDn,zH⟩ (fun j zs H5 z=>?_) (fun j zs H5 z=>?_) (fun j v zs H5 hv z=>?_) (fun zs H5 z=>?_)
       . obtain⟨_,ts,_,_,_,s5,_⟩:=z
         exact SqL.of (s5 _ _ nDt hD3)
       . obtain⟨hj,ts,T5,I5,_⟩:=z
         have h1:=T5.length
         have h2:=congrArg List.length I5.eq
         rw[zD] at h1 h2
         rw[zAF] at h2
         exact zd (by omega)
       . obtain⟨_,ts,T5,I5,F5,s5,h5⟩:=z
         obtain⟨ya,kk,rfl,hkk,hya,_⟩:=TA.get hv
         rw[zU] at hkk
         obtain⟨pr,hpr,rfl⟩:∃pr,ps[j]? = some pr/\tp2 pr=kk:=by
          cases e:ps[j]? with
          | none=>rw[e] at hkk;cases hkk
          | some pr=>rw[e] at hkk;exact⟨pr,rfl,zQ hkk⟩
         have hjl:=(zL.mp hv).1
         have nyt:ya≠t:=by
          obtain⟨ns,spot,rest,a,_⟩:=id F3
          exact zAJ hya a (by intro z;cases z)
         refine⟨⟨rfl,rfl⟩,?_⟩
         refine zFm ?_
         refine⟨_,rfl,_,rfl,t,p,_,2,rfl,F5,by omega,by decide,by decide,fun r H6 g0 g1 T6 he6=>?_⟩
         refine⟨_,_,rfl,rfl,by show 1<=sizeLine;decide,fun q hq=>?_⟩
         have s6:Sm t H5 H6:=zB7 he6
         have s7:=zF (o:=.tup [.int (1+r)]) hq
         have hya6:=s7 _ _ (s6 _ _ nyt (s5 _ _ nyt hya))
         refine⟨ya,q,_,_,rfl,rfl,hya6,zH,by show 3<=sizeLine;decide,fun c H8 s8 hc=>?_⟩
         have h58:H8 D2=some (.lst zs):=s8 _ _ (s7 _ _ (s6 _ _ nD2.1 h5))
         have T8:zBV H8 t p (N+6+j+1):=by
          obtain⟨ns,spot,rest,a,b,d⟩:=id (T6.laid (o:=.tup [.int (1+r)]) hq)
          exact⟨ns,spot,rest,s8 _ _ a,s8 _ _ b,d⟩
         have s58:Sm t H5 H8:=s6.trans ((Sm.of s7).trans (Sm.of s8))
         refine⟨h58,hjl,ts++[(pr.1,pr.2,1+r)],?_,⟨?_,fun u hu=>?_⟩,T8.upd nD2.1 nD2.2,(s5.trans s58).chg hDn,zH⟩
         . rw[zR]
           refine (T5.keep fun b zs e=>?_).snoc ⟨c,rfl,?_,by simp[tl]⟩
           . have nbt:b≠t:=by
              obtain⟨ns,spot,rest,a,_⟩:=id F5
              exact zAJ e a (by intro z;cases z)
             have e8:=s58 _ _ nbt e
             rw[zV (zAJ e8 h58 (by intro z;cases z))];exact e8
           . rw[zV (zAJ hc h58 (by intro z;cases z))];exact hc
         . rw[zR,I5.eq,zAL,hpr];rfl
         . rcases zx.mp hu with z | z
           . exact I5.lg u z
           . rw[zi.mp z]
             exact⟨by show 1<=1+r;omega,by show 1+r<=99;omega⟩
       . obtain⟨_,ts,T5,I5,F5,s5,h5⟩:=z
         rw[ly,zm (zM _)] at I5
         refine⟨D2,_,rfl,.inl ⟨SqL.of h5,fun ta hta=>?_⟩⟩
         refine⟨by show 2<=sizeLine;decide,fun wa hwa=>?_⟩
         have s6:=zF (o:=.tup zs) hta
         have s7:=zF (o:=.tup [.int 12,.ref ta]) hwa
         obtain⟨G,sr⟩:=tie_gw I5 Fl (by omega)
         have lt:=congrArg List.length I5.eq
         rw[zD] at lt
         refine k wa ts _ ⟨ta,zs,zH,s7 _ _ zH,T5.keep fun b zs e=>s7 _ _ (s6 _ _ e),G⟩ sr (by omega) ⟨p,((F5.laid hta).laid hwa).mono (by omega)⟩ (s3.trans (s5.trans ((Sm.of s6).trans (Sm.of s7))))
end
end K65
namespace K65
open PySem L2 WM
noncomputable def zD6 (n:Int)(H:Hp)(v:V):Prop:=∃d,zAZ H v d/\¬ zIe n d
theorem zD6.keep {n:Int}{H H':Hp}{v:V}(h:zD6 n H v)(s:zAW H H'):zD6 n H' v:=by
 obtain⟨d,a,b⟩:=h
 exact⟨d,zA7 s a,b⟩
theorem zEc {H:Hp}:∀os:List Int,zAt H (os.map V.int) (os.map PyData.int)
 | []=>.nil
 | a::r=>.cons (.int a) (zEc r)
theorem zB4 {n:Int}{H:Hp}{p:Addr}{xs:List Int}(h:H p=some (.tup (xs.map V.int)))(no:¬ zGB n xs):zD6 n H (.ref p):=by
 refine⟨.tuple (xs.map PyData.int),.tup h (zEc xs),?_⟩
 rintro ⟨ps,e,O⟩
 have e':=zF4 (PyData.tuple.inj e)
 subst e'
 exact no O
theorem zEj {n:Int}{H:Hp}{v:V}{d:PyData}(h:zAZ H v d)(no:∀ds,d ≠ .tuple ds):zD6 n H v:=⟨d,h,fun ⟨ps,e,_⟩=>no _ e⟩
theorem zF0 {n:Int}{H:Hp}{p:Addr}{xs:List V}{ds:List PyData}(h:H p=some (.tup xs))(a:zAt H xs ds)(x:PyData)(hx:x∈ds)(no:∀i,x ≠ .int i):zD6 n H (.ref p):=by
 refine⟨.tuple ds,.tup h a,?_⟩
 rintro ⟨ps,e,_⟩
 have e':=PyData.tuple.inj e
 rw[e'] at hx
 obtain⟨i,_,z⟩:=zAB.mp hx
 exact no i z.symm
theorem zCO (x:V)(r:List V):zC0 (x::r) (some 1) none=r:=by
 unfold zC0
 have e1:HT.sIx (x::r).length 0 (some 1)=1:=by
  unfold HT.sIx
  simp
 have e2:HT.sIx (x::r).length (x::r).length none=r.length+1:=rfl
 rw[e1,e2]
 simp
theorem zF6 (x y:V)(r:List V):zC0 (x::y::r) (some 1) (some 2)=[y]:=by
 unfold zC0
 have e1:HT.sIx (x::y::r).length 0 (some 1)=1:=by
  unfold HT.sIx
  simp
 have e2:HT.sIx (x::y::r).length (x::y::r).length (some 2)=2:=by
  unfold HT.sIx
  simp
 rw[e1,e2]
 rfl
theorem zGB.two {n:Int}{os:List Int}(O:zGB n os)(h:2<=n):∃a b r,os=a::b::r:=by
 have:=O.ln
 match os,this with
 | [],h'=>simp at h';omega
 | [_],h'=>simp at h';omega
 | a::b::r,_=>exact⟨a,b,r,rfl⟩
section
variable {X:Cx}
theorem zBi {e:Expr}{te te':TE}(h:PE X e te)(m:∀ σ H Q,te' σ H Q->te σ H Q):PE X e te':=fun pins s σ H Q I q=>h pins s σ H Q I (m σ H Q q)
noncomputable def pOrd (n:Int)(oa:Addr)(os:List Int)(σ:St)(H:Hp):Prop:=σ[0]? = some (some (.ref oa))/\H oa=some (.tup (os.map V.int))/\zGB n os/\2<=n/\n<=24
noncomputable def tNord (n:Int)(oa:Addr)(os:List Int):TE:=fun σ H Q=>pOrd n oa os σ H/\∀v H',zAW H H'->zD6 n H' v->Q v H'
inductive zJi (X:Cx)(n:Int)(oa:Addr)(os:List Int):List Expr->Prop
 | nil:zJi X n oa os []
 | cons {e:Expr}{es:List Expr}(he:PE X e (tNord n oa os))(h:zJi X n oa os es)(hs:starEach (e::es) X.env=(false,eval e X.env)::starEach es X.env:=by rfl):zJi X n oa os (e::es)
noncomputable def tNords (n:Int)(oa:Addr)(os:List Int)(m:Nat):TA:=fun σ H Q=>pOrd n oa os σ H/\∀(vs:List V) H',zAW H H'->vs.length=m->(∀v∈vs,zD6 n H' v)->Q vs H'
theorem pOrd.same {n:Int}{oa:Addr}{os:List Int}{σ:St}{H H':Hp}(h:pOrd n oa os σ H)(s:zAW H H'):pOrd n oa os σ H':=⟨h.1,s _ _ h.2.1,h.2.2⟩
theorem zFx {n:Int}{oa:Addr}{os:List Int}{es:List Expr}(h:zJi X n oa os es):PA X es (tNords n oa os es.length):=by
 induction h with
 | nil=>exact fun pos pins s σ H Q I q=>zK pos pins s σ H Q I (q.2 [] H (zAW.refl _) rfl (fun v hv=>by cases hv))
 | @cons e es he _ hs ih=>
  intro pos pins s σ H Q I q
  obtain⟨a,q⟩:=q
  refine (zB he ih hs) pos pins s σ H Q I ?_
  refine⟨a,fun v H1 s1 o1=>⟨a.same s1,fun vs H2 s2 hl al=>?_⟩⟩
  refine q (v::vs) H2 (s1.trans s2) (by rw[zh,hl];rfl) fun x hx=>?_
  rcases za.mp hx with rfl | hx
  . exact o1.keep s2
  . exact al x hx
end
noncomputable def zJw:Sp:=fun vs H Q _=>∃(oa:Addr)(n:Int)(os:List Int),vs=[.ref oa]/\H oa=some (.tup (os.map V.int))/\zGB n os/\2<=n/\n<=24 /\
 ∀(D:Addr)(ys:List V)(H':Hp),zAW H H'->H D=none->H' D=some (.lst ys)->ys.length<=20->(∀y∈ys,zD6 n H' y)->Q (.ref D) H'
section
variable {P:Program}{w:World}{K:PySem.W.Frag}{mg:Str->Option Value}{base:Heap}
theorem zHN:zAA ["_law_order_here", "_law_some"] ["_law_order_here"] (defScope zI2):=⟨rfl,rfl,rfl,by decide +kernel,rfl,by decide +kernel,by decide +kernel⟩
theorem zLW {f:Addr}{fd':FuncData}(F:Fun K "_law_bad_orders" "_law_bad_orders" zI2 f fd') (mLen:mg "len" = none) (mList:mg "list" = none) (mTuple:mg "tuple" = none) (mStr:mg "str" = none):zy P w K mg base CX0 1 f fd' ["_law_order_here"] zJw:=by
 refine F.ok zHN (fun vs H Q E h=>?_) (fun cdv A outer s H vs Q E hr h=>?_)
 . obtain⟨oa,n,os,rfl,_⟩:=h
   rfl
 . obtain⟨oa,n,os,rfl,hoa,O,hn2,hn24,k⟩:=h
   obtain⟨x,y,r,rfl⟩:=O.two hn2
   have hln:r.length+2=n.toNat:=O.ln
   refine⟨_,zO (zAK (i:=1) zHN.nd rfl (Or.inl rfl) (zBF (zFx (n:=n) (oa:=oa) (os:=x::y::r)
    (.cons (zBi (zAd zFd (by rfl) mList (by decide +kernel) (zB (pv 0) zK)) (fun σ H Q q=>⟨_,q.1.1,oa,_,rfl,.inr (SqT.of q.1.2.1),fun l hl=>q.2 _ _ (zF hl) (zEj (.lst zH (zEc _)) (fun ds z=>by cases z))⟩))
    (.cons (zBi (zBg zBz (pv 0) (zBq zY) zB0) (fun σ H Q q=>⟨_,q.1.1,_,rfl,oa,_,rfl,q.1.2.1,fun p H1 s1 hp=>q.2 _ _ s1 (zB4 (xs:=y::r) (by rw[hp];exact congrArg (some∘HO.tup) (zCO _ _)) fun O'=>by have:=O'.ln;simp at this;omega)⟩))
    (.cons (zBi (zAc zCM (pv 0) (zBg zBz (pv 0) zB0 (zBq zY))) (fun σ H Q q=>⟨_,q.1.1,_,q.1.1,_,rfl,oa,_,rfl,q.1.2.1,fun p H1 s1 hp=>by
     have e:zC0 ((x::y::r).map V.int) none (some 1)=[V.int x]:=rfl
     rw[e] at hp
     refine⟨oa,p,_,_,rfl,rfl,s1 _ _ q.1.2.1,hp,zAE (zd (by simp;omega)),fun p' H2 s2 hp'=>q.2 _ _ (s1.trans s2) (zB4 (xs:=(x::y::r)++[x]) (by rw[hp',zR];rfl) fun O'=>?_)⟩
     have:=O'.ln
     simp at this
     omega⟩))
    (.cons (zBi (zAc zCM (zBg zBz (pv 0) (zBq zY) zB0) (zAY (zB (zn zAS (by rfl) mLen PySem.boot_len (zB (pv 0) zK)) zK))) (fun σ H Q q=>⟨_,q.1.1,_,rfl,oa,_,rfl,q.1.2.1,fun p H1 s1 hp=>by
     have e:zC0 ((x::y::r).map V.int) (some 1) none=(y::r).map V.int:=zCO _ _
     rw[e] at hp
     refine⟨_,q.1.1,oa,_,rfl,.inr (SqT.of (s1 _ _ q.1.2.1)),by show 1<=sizeLine;decide,fun p2 hp2=>?_⟩
     refine⟨p,p2,_,_,rfl,rfl,zF hp2 _ _ hp,zH,zAE (zd (by simp;omega)),fun p' H2 s2 hp'=>q.2 _ _ (s1.trans ((zF hp2).trans s2)) (zB4 (xs:=(y::r)++[n]) (by
      rw[hp',zR,zD]
      have:(((x::y::r).length:Nat):Int)=n:=by simp;omega
      rw[this];rfl) fun O'=>?_)⟩
     have:=O'.rng n (zq _ (zi.mpr rfl))
     omega⟩))
    (.cons (zBi zBX (fun σ H Q q=>q.2 _ _ (zAW.refl _) (zEj .non (fun ds z=>by cases z))))
    (.cons (zBi zDC (fun σ H Q q=>q.2 _ _ (zAW.refl _) (zEj (.str _) (fun ds z=>by cases z))))
    (.cons (zBi zY (fun σ H Q q=>q.2 _ _ (zAW.refl _) (zEj (.int _) (fun ds z=>by cases z))))
    (.cons (zBi (zAY zK) (fun σ H Q q=>⟨zj _,fun p hp=>q.2 _ _ (zF hp) (zB4 (xs:=[]) zH fun O'=>by have:=O'.ln;simp at this;omega)⟩))
    (.cons (zBi (zAY (zB (pv 0) zK)) (fun σ H Q q=>⟨_,q.1.1,by show 1<=sizeLine;decide,fun p hp=>q.2 _ _ (zF hp) (zF0 zH (.cons (.tup (zF hp _ _ q.1.2.1) (zEc _)) .nil) _ ze (fun i z=>by cases z))⟩)) .nil))))))))))))
    (zO (zAK (i:=1) zHN.nd rfl (Or.inl rfl) (zAc zGR (pv 1) (zBF (zFx (n:=n) (oa:=oa) (os:=x::y::r)
     (.cons (zBi (zAc zCM (zBg zBz (pv 0) (zBq zY) zB0) (zBg zBz (pv 0) (zBq zY) (zBq zY))) (fun σ H Q q=>⟨_,q.1.1,_,rfl,oa,_,rfl,q.1.2.1,fun p H1 s1 hp=>by
      have e:zC0 ((x::y::r).map V.int) (some 1) none=(y::r).map V.int:=zCO _ _
      rw[e] at hp
      refine⟨_,q.1.1,_,rfl,_,rfl,oa,_,rfl,s1 _ _ q.1.2.1,fun p2 H2 s2 hp2=>?_⟩
      have e2:zC0 ((x::y::r).map V.int) (some 1) (some 2)=[V.int y]:=zF6 _ _ _
      rw[e2] at hp2
      refine⟨p,p2,_,_,rfl,rfl,s2 _ _ hp,hp2,zAE (zd (by simp;omega)),fun p' H3 s3 hp'=>q.2 _ _ (s1.trans (s2.trans s3)) (zB4 (xs:=(y::r)++[y]) (by rw[hp',zR];rfl) fun O'=>?_)⟩
      have:=O'.nd
      simp[List.nodup_append] at this⟩))
     (.cons (zBi (zAd zAP (by rfl) mTuple (by decide +kernel) (zB (zBS (own:=["_law_place"]) (cn:=[]) (ci:=[]) rfl (csc rfl rfl) trivial rfl (zDB (pv 0)) (fun _ _ _ _=>zz (i:=0) (zBv rfl) rfl (Or.inl rfl)) (fun _ _ _ _=>zBZ)
      (fun _ _ _ _=>zAd zIT (by rfl) mStr (by decide +kernel) (zB (pv 0) zK))) zK)) (fun σ H Q q=>⟨_,q.1.1,oa,rfl,⟨_,SqT.of q.1.2.1⟩,[],rfl,fun D hD=>by
      refine zB8 (a:=oa) (xs:=(x::y::r).map V.int) (fun i ys H4=>i<=(x::y::r).length/\(ys.length=i/\∃zs:List Str,ys=zs.map V.str)/\H4=upd H D (.lst ys)) ⟨zj _,⟨rfl,[],rfl⟩,rfl⟩ (fun i ys H4 z=>?_) (fun i ys H4 z=>?_) (fun i v ys H4 hv z=>?_) (fun ys H4 z=>?_)
      . obtain⟨_,_,rfl⟩:=z
        exact SqT.of (zF hD _ _ q.1.2.1)
      . obtain⟨hi,⟨e,_⟩,_⟩:=z
        simp at hi
        exact zd (by omega)
      . obtain⟨_,⟨e,zs,rfl⟩,rfl⟩:=z
        obtain⟨u,hu,rfl⟩:∃u,(x::y::r)[i]? = some u/\V.int u=v:=by
         rw[zU] at hv
         cases e:(x::y::r)[i]? with
         | none=>rw[e] at hv;cases hv
         | some u=>rw[e] at hv;exact⟨u,rfl,zQ hv⟩
        have ur:=q.1.2.2.1.rng u (zl hu)
        refine⟨⟨rfl,rfl⟩,?_⟩
        refine zFm ?_
        exact⟨_,rfl,u,rfl,by have:=q.1.2.2.2.2;omega,zH,(zL.mp hu).1,⟨by rw[zN,e];rfl,zs++[Str.ofString (toString u)],by rw[zR];rfl⟩,zBm⟩
      . obtain⟨_,⟨e,zs,rfl⟩,rfl⟩:=z
        refine⟨D,_,rfl,.inl ⟨SqL.of zH,fun p hp=>q.2 _ _ ((zF hD).trans (zF hp)) ?_⟩⟩
        cases zs with
        | nil=>simp at e
        | cons z zs=>
         have al:∀l:List Str,zAt (upd (upd H D (.lst ((z::zs).map V.str))) p (.tup ((z::zs).map V.str))) (l.map V.str) (l.map PyData.str):=fun l=>by
          induction l with
          | nil=>exact .nil
          | cons a l ih=>exact .cons (.str a) ih
         exact zF0 zH (al (z::zs)) _ ze (fun i z=>by cases z)⟩))
     (.cons (zBi (zAc zCM (zAY (zB (zK3 zG5 zY) zK)) (zBg zBz (pv 0) (zBq zY) zB0)) (fun σ H Q q=>⟨_,rfl,by show 1<=sizeLine;decide,fun p hp=>⟨_,q.1.1,_,rfl,oa,_,rfl,zF hp _ _ q.1.2.1,fun p2 H2 s2 hp2=>by
      have e:zC0 ((x::y::r).map V.int) (some 1) none=(y::r).map V.int:=zCO _ _
      rw[e] at hp2
      refine⟨p,p2,_,_,rfl,rfl,s2 _ _ zH,hp2,zAE (zd (by simp;omega)),fun p' H3 s3 hp'=>q.2 _ _ ((zF hp).trans (s2.trans s3)) (zB4 (xs:=[-1]++(y::r)) (by rw[hp',zR];rfl) fun O'=>?_)⟩
      have:=O'.rng (-1) (zBa _ (zi.mpr rfl))
      omega⟩⟩)) .nil)))))))
    (zX (zAD (zAc zGR (pv 1) (zBF (zFx (n:=n) (oa:=oa) (os:=x::y::r)
     (.cons (zBi (zAd zAP (by rfl) mTuple (by decide +kernel) (zB (zBS (own:=["_law_place"]) (cn:=[]) (ci:=[]) rfl (csc rfl rfl) trivial rfl (zDB (pv 0)) (fun _ _ _ _=>zz (i:=0) (zBv rfl) rfl (Or.inl rfl)) (fun _ _ _ _=>zBZ)
      (fun _ _ _ _=>zGP (zAG zLA (pv 0) zY (zAN _)) (zBr zCD (pv 0) zY (zAN _)) (pv 0))) zK)) (fun σ H Q q=>⟨_,q.1.1,oa,rfl,⟨_,SqT.of q.1.2.1⟩,[],rfl,fun D hD=>by
      refine zB8 (a:=oa) (xs:=(x::y::r).map V.int) (fun i ys H4=>i<=(x::y::r).length/\ys=((x::y::r).take i).map (fun u=>if u<2 then V.bl (decide (V.int u=V.int 1)) else V.int u)/\H4=upd H D (.lst ys)) ⟨zj _,rfl,rfl⟩ (fun i ys H4 z=>?_) (fun i ys H4 z=>?_) (fun i v ys H4 hv z=>?_) (fun ys H4 z=>?_)
      . obtain⟨_,_,rfl⟩:=z
        exact SqT.of (zF hD _ _ q.1.2.1)
      . obtain⟨hi,rfl,_⟩:=z
        rw[zD,zAF]
        simp at hi
        exact zd (by omega)
      . obtain⟨_,rfl,rfl⟩:=z
        obtain⟨u,hu,rfl⟩:∃u,(x::y::r)[i]? = some u/\V.int u=v:=by
         rw[zU] at hv
         cases e:(x::y::r)[i]? with
         | none=>rw[e] at hv;cases hv
         | some u=>rw[e] at hv;exact⟨u,rfl,zQ hv⟩
        have hil:=(zL.mp hu).1
        refine⟨⟨rfl,rfl⟩,?_⟩
        refine zFm ?_
        refine⟨_,rfl,_,_,rfl,rfl,_,rfl,?_⟩
        refine zDL (fun c=>?_) (fun c=>?_)
        . have c':u<2:=of_decide_eq_true c
          refine⟨_,rfl,rfl,zH,hil,?_,zBm⟩
          rw[zAL,hu,zR]
          show _=_++[if u<2 then _ else _]
          rw[if_pos c']
        . have c':¬ u<2:=fun z=>c (zZ z)
          refine⟨_,rfl,zH,hil,?_,zBm⟩
          rw[zAL,hu,zR]
          show _=_++[if u<2 then _ else _]
          rw[if_neg c']
      . obtain⟨_,rfl,rfl⟩:=z
        rw[zD,zm (zM _)]
        refine⟨D,_,rfl,.inl ⟨SqL.of zH,fun p hp=>q.2 _ _ ((zF hD).trans (zF hp)) ?_⟩⟩
        have al:∀(H:Hp)(l:List Int),zAt H (l.map fun u=>if u<2 then V.bl (decide (V.int u=V.int 1)) else V.int u) (l.map fun u=>if u<2 then PyData.bool (decide (V.int u=V.int 1)) else PyData.int u):=fun H l=>by
         induction l with
         | nil=>exact .nil
         | cons a l ih=>
          refine .cons ?_ ih
          by_cases c:a<2
          . show zAZ H (if a<2 then _ else _) (if a<2 then _ else _)
            rw[if_pos c,if_pos c];exact .bl _
          . show zAZ H (if a<2 then _ else _) (if a<2 then _ else _)
            rw[if_neg c,if_neg c];exact .int a
        have h0:(0:Int)∈x::y::r:=q.1.2.2.1.mem (by omega) (by have:=q.1.2.2.2.1;omega)
        exact zF0 zH (al _ _) _ (zAB.mpr ⟨0,h0,rfl⟩) (fun i z=>by cases z)⟩)) .nil))))))),?_⟩
   have pre:∀{σ:St}{H1:Hp},σ[0]? = some (some (.ref oa))->zAW H H1->pOrd n oa (x::y::r) σ H1:=fun a s=>⟨a,s _ _ hoa,O,hn2,hn24⟩
   refine⟨pre rfl (zAW.refl _),fun vs H1 s1 hl1 a1=>?_⟩
   have hl1':vs.length=9:=hl1
   refine⟨zAE (zd (by omega)),fun D1 hD1=>?_⟩
   have s2:=s1.trans (zF (o:=.lst vs) hD1)
   refine⟨_,rfl,pre rfl s2,fun us H2 s3 hl2 a2=>?_⟩
   have hl2':us.length=3:=hl2
   refine⟨zAE (zd (by omega)),fun D2 hD2=>?_⟩
   have s4:=s3.trans (zF (o:=.lst us) hD2)
   refine⟨D1,D2,_,_,rfl,rfl,s4 _ _ zH,zH,zAE (zd (by omega)),fun D hD=>?_⟩
   have s5:=s2.trans s4
   have s6:=s5.trans (zF (o:=.lst (vs++us)) hD)
   have al:∀y∈vs++us,zD6 n (upd (upd H2 D2 (.lst us)) D (.lst (vs++us))) y:=fun y hy=>by
    rcases zx.mp hy with z | z
    . exact (((a1 y z).keep (zF hD1)).keep s4).keep (zF hD)
    . exact ((a2 y z).keep (zF hD2)).keep (zF hD)
   have hD6:(upd (upd H2 D2 (.lst us)) D (.lst (vs++us))) D=some (.lst (vs++us)):=zH
   have hl:(vs++us).length=12:=by rw[zN];omega
   generalize upd (upd H2 D2 (.lst us)) D (.lst (vs++us))=H3 at s6 al hD6 ⊢
   refine⟨_,rfl,pre rfl s6,fun ws H4 s7 hl3 a3=>?_⟩
   have hl3':ws.length=1:=hl3
   refine⟨zAE (zd (by omega)),fun D3 hD3=>?_⟩
   have s8:=s7.trans (zF (o:=.lst ws) hD3)
   refine⟨D,D3,_,_,rfl,rfl,s8 _ _ hD6,zH,zAE (zd (by omega)),fun D4 hD4=>?_⟩
   refine k D4 _ _ (s6.trans (s8.trans (zF hD4))) (zAk (s6.trans s8) hD4) zH (by rw[zN,hl];omega) fun y hy=>?_
   rcases zx.mp hy with z | z
   . exact ((al y z).keep s8).keep (zF hD4)
   . exact ((a3 y z).keep (zF hD3)).keep (zF hD4)
end
end K65
namespace K65
open PySem L2 WM
noncomputable def zEA (n:Int)(ts:List T3)(H:Hp)(v:V):Prop:=∃(da:Addr)(v1 v2 vl:V)(d1 d2 dl:PyData),v = .ref da/\H da=some (.tup [v1,v2,vl])/\zAZ H v1 d1/\zAZ H v2 d2/\zAZ H vl dl/\BadD n ts d1 d2 dl vl
theorem zEA.keep {n:Int}{ts:List T3}{H H':Hp}{v:V}(h:zEA n ts H v)(s:zAW H H'):zEA n ts H' v:=by
 obtain⟨da,v1,v2,vl,d1,d2,dl,e,a,b,c,d,f⟩:=h
 exact⟨da,v1,v2,vl,d1,d2,dl,e,s _ _ a,zA7 s b,zA7 s c,zA7 s d,f⟩
noncomputable def zG1 (t:Addr)(H:Hp):Hp:=fun b=>if b=t then none else H b
theorem zEr {t b:Addr}{H:Hp}(h:b≠t):zG1 t H b=H b:=by unfold zG1;rw[if_neg h]
theorem zFQ {t:Addr}{H H':Hp}(s:zAW H H'):zAW (zG1 t H) (zG1 t H'):=fun b o e=>by
 by_cases c:b=t
 . unfold zG1 at e;rw[if_pos c] at e;cases e
 . rw[zEr c] at e ⊢;exact s b o e
theorem zGY {t:Addr}{H:Hp}:zAW (zG1 t H) H:=fun b o e=>by
 by_cases c:b=t
 . unfold zG1 at e;rw[if_pos c] at e;cases e
 . rw[zEr c] at e;exact e
section
variable {X:Cx}
inductive LitL (X:Cx)(Pre:St->Hp->Prop)(R:Hp->V->Prop):List Expr->Prop
 | nil:LitL X Pre R []
 | cons {e:Expr}{es:List Expr}(he:PE X e (fun σ H Q=>Pre σ H/\∀v H',zAW H H'->R H' v->Q v H'))(h:LitL X Pre R es)(hs:starEach (e::es) X.env=(false,eval e X.env)::starEach es X.env:=by rfl):LitL X Pre R (e::es)
theorem zJ4 {Pre:St->Hp->Prop}{R:Hp->V->Prop}(kp:∀ σ H H',Pre σ H->zAW H H'->Pre σ H')(kr:∀H H' v,R H v->zAW H H'->R H' v){es:List Expr}(h:LitL X Pre R es) :
 PA X es (fun σ H Q=>Pre σ H/\∀(vs:List V) H',zAW H H'->vs.length=es.length->(∀v∈vs,R H' v)->Q vs H'):=by
 induction h with
 | nil=>exact fun pos pins s σ H Q I q=>zK pos pins s σ H Q I (q.2 [] H (zAW.refl _) rfl (fun v hv=>by cases hv))
 | @cons e es he _ hs ih=>
  intro pos pins s σ H Q I q
  obtain⟨a,q⟩:=q
  refine (zB he ih hs) pos pins s σ H Q I ?_
  refine⟨a,fun v H1 s1 o1=>⟨kp _ _ _ a s1,fun vs H2 s2 hl al=>?_⟩⟩
  refine q (v::vs) H2 (s1.trans s2) (by rw[zh,hl];rfl) fun x hx=>?_
  rcases za.mp hx with rfl | hx
  . exact kr _ _ _ o1 s2
  . exact al x hx
end
theorem zDN {n:Int}{d1 d2:PyData}(h:zAM d1 0 (n-1)=false\/zAM d2 0 (n-1)=false):BadP n d1 d2:=by
 rintro ⟨x,y,rfl,rfl,hx,hy,_⟩
 rcases h with h | h
 . rw[zCZ.mpr ⟨x,rfl,hx⟩] at h;cases h
 . rw[zCZ.mpr ⟨y,rfl,hy⟩] at h;cases h
theorem zC9 {n:Int}{ts:List T3}{d1 d2 dl:PyData}{vl:V}(h:BadP n d1 d2):BadD n ts d1 d2 dl vl:=by
 by_cases c:vl = .non
 . exact .inl ⟨c,.inl h⟩
 . exact .inr ⟨c,.inl h⟩
end K65
namespace K65
open PySem L2 WM
noncomputable def hh (D t:Addr)(H:Hp):Hp:=zG1 D (zG1 t H)
theorem zLd {D t b:Addr}{H:Hp}(h:b≠D)(h':b≠t):hh D t H b=H b:=by unfold hh;rw[zEr h,zEr h']
theorem zID {D t:Addr}{H H':Hp}(s:zAW H H'):zAW (hh D t H) (hh D t H'):=zFQ (zFQ s)
theorem hh_sub {D t:Addr}{H:Hp}:zAW (hh D t H) H:=fun b o e=>zGY b o (zGY b o e)
theorem zIC {D t:Addr}{H:Hp}{o:HO}:hh D t (upd H D o)=hh D t H:=by
 funext b
 by_cases c:b=D
 . unfold hh zG1;rw[if_pos c,if_pos c]
 . unfold hh zG1
   rw[if_neg c,if_neg c]
   by_cases d:b=t
   . rw[if_pos d,if_pos d]
   . rw[if_neg d,if_neg d,zV c]
theorem hh_t {D t:Addr}{H H':Hp}(he:∀b,b≠t->H' b=H b):hh D t H'=hh D t H:=by
 funext b
 unfold hh zG1
 by_cases c:b=D
 . rw[if_pos c,if_pos c]
 . rw[if_neg c,if_neg c]
   by_cases d:b=t
   . rw[if_pos d,if_pos d]
   . rw[if_neg d,if_neg d,he b d]
structure BL2 (n:Int)(ts:List T3)(D t:Addr)(ys:List V)(H:Hp):Prop where
 at_:H D=some (.lst ys)
 bad:∀y∈ys,zEA n ts (hh D t H) y
theorem BL2.same {n:Int}{ts:List T3}{D t:Addr}{ys:List V}{H H':Hp}(h:BL2 n ts D t ys H)(s:zAW H H'):BL2 n ts D t ys H':=⟨s _ _ h.at_,fun y hy=>(h.bad y hy).keep (zID s)⟩
theorem BL2.feed {n:Int}{ts:List T3}{D t:Addr}{ys:List V}{H H':Hp}(h:BL2 n ts D t ys H)(nt:D≠t)(he:∀b,b≠t->H' b=H b):BL2 n ts D t ys H':=⟨by rw[he D nt];exact h.at_,fun y hy=>by rw[hh_t he];exact h.bad y hy⟩
theorem BL2.more {n:Int}{ts:List T3}{D t:Addr}{ys zs:List V}{H:Hp}(h:BL2 n ts D t ys H)(b:∀z∈zs,zEA n ts (hh D t H) z):BL2 n ts D t (ys++zs) (upd H D (.lst (ys++zs))):=by
 refine⟨zH,fun y hy=>?_⟩
 rw[zIC]
 rcases zx.mp hy with z | z
 . exact h.bad y z
 . exact b y z
theorem zF8 {n:Int}{ts:List T3}{D t q:Addr}{H:Hp}{v1 v2 vl:V}{d1 d2 dl:PyData}(hq:H q=some (.tup [v1,v2,vl]))(n1:q≠D)(n2:q≠t)(S1:zAZ (hh D t H) v1 d1)(S2:zAZ (hh D t H) v2 d2)(S3:zAZ (hh D t H) vl dl)(b:BadD n ts d1 d2 dl vl):zEA n ts (hh D t H) (.ref q):=
 ⟨q,v1,v2,vl,d1,d2,dl,rfl,by rw[zLd n1 n2];exact hq,S1,S2,S3,b⟩
noncomputable def zJx:Sp:=fun vs H Q _=>∃(t wa:Addr)(N:Nat)(n:Int)(ts:List T3),vs=[.ref t,.ref wa]/\zAf H t N/\N<800000/\zAe H wa n ts/\2<=n /\
 ∀(D:Addr)(ys:List V)(H':Hp),H D=none->BL2 n ts D t ys H'->ys.length<=60->zAf H' t (N+2)->Sm t H H'->Q (.ref D) H'
theorem zKo {D t q:Addr}{H:Hp}{i:Int}(hq:H q=some (.lst [.int i]))(n1:q≠D)(n2:q≠t):zAZ (hh D t H) (.ref q) (.list [.int i]):=.lst (by rw[zLd n1 n2];exact hq) (.cons (.int i) .nil)
theorem zKn {D t q:Addr}{H:Hp}{i:Int}(hq:H q=some (.tup [.int i]))(n1:q≠D)(n2:q≠t):zAZ (hh D t H) (.ref q) (.tuple [.int i]):=.tup (by rw[zLd n1 n2];exact hq) (.cons (.int i) .nil)
end K65
namespace K65
open PySem L2 WM
noncomputable def ThG (bad:PyData->Prop)(H:Hp)(v:V):Prop:=(∃d,(∀H',zAZ H' v d)/\bad d)\/∃(p:Addr)(i:Int),v = .ref p/\((H p=some (.lst [.int i])/\bad (.list [.int i]))\/(H p=some (.tup [.int i])/\bad (.tuple [.int i])))
theorem ThG.keep {bad:PyData->Prop}{H H':Hp}{v:V}(h:ThG bad H v)(s:zAW H H'):ThG bad H' v:=by
 rcases h with h | ⟨p,i,e,h⟩
 . exact .inl h
 . refine .inr ⟨p,i,e,?_⟩
   rcases h with ⟨a,b⟩ | ⟨a,b⟩
   . exact .inl ⟨s _ _ a,b⟩
   . exact .inr ⟨s _ _ a,b⟩
noncomputable def noG (bad:PyData->Prop)(D t:Addr)(H:Hp)(v:V):Prop:=∃d,zAZ (hh D t H) v d/\bad d
theorem noG.same {bad:PyData->Prop}{D t:Addr}{H H':Hp}{v:V}(h:noG bad D t H v)(s:zAW H H'):noG bad D t H' v:=by
 obtain⟨d,a,b⟩:=h
 exact⟨d,zA7 (zID s) a,b⟩
theorem noG.upd {bad:PyData->Prop}{D t:Addr}{H:Hp}{v:V}{o:HO}(h:noG bad D t H v):noG bad D t (upd H D o) v:=by
 unfold noG
 rw[zIC];exact h
structure BI (n:Int)(ts:List T3)(D t wa:Addr)(N:Nat)(ys:List V)(H0 H:Hp):Prop where
 bl:BL2 n ts D t ys H
 sm:Sm t H0 H
 fd:zAf H t N
 web:zAe H wa n ts
 nt:D≠t
 nw:H0 D=none
theorem BI.same {n:Int}{ts:List T3}{D t wa:Addr}{N:Nat}{ys:List V}{H0 H H':Hp}(h:BI n ts D t wa N ys H0 H)(s:zAW H H'):BI n ts D t wa N ys H0 H':=⟨h.bl.same s,h.sm.trans (Sm.of s),h.fd.keep s,h.web.keep s,h.nt,h.nw⟩
theorem BI.ref {n:Int}{ts:List T3}{D t wa:Addr}{N:Nat}{ys:List V}{H0 H:Hp}(h:BI n ts D t wa N ys H0 H){v:V}(hv:v∈ys):∃q,v = .ref q:=by
 obtain⟨q,_,_,_,_,_,_,e,_⟩:=h.bl.bad v hv
 exact⟨q,e⟩
theorem BI.feed {n:Int}{ts:List T3}{D t wa:Addr}{N N':Nat}{ys:List V}{H0 H H':Hp}(h:BI n ts D t wa N ys H0 H)(he:∀b,b≠t->H' b=H b)(F:zAf H' t N'):BI n ts D t wa N' ys H0 H':=by
 refine⟨h.bl.feed h.nt he,h.sm.trans (zB7 he),F,h.web.keepT fun b zs e=>?_,h.nt,h.nw⟩
 obtain⟨p,ns,spot,rest,a,_⟩:=h.fd
 rw[he b (zAJ e a (by intro z;cases z))];exact e
theorem BI.more {n:Int}{ts:List T3}{D t wa:Addr}{N:Nat}{ys zs:List V}{H0 H:Hp}(h:BI n ts D t wa N ys H0 H)(b:∀z∈zs,zEA n ts (hh D t H) z):BI n ts D t wa N (ys++zs) H0 (upd H D (.lst (ys++zs))):=by
 refine⟨h.bl.more b,h.sm.chg h.nw,?_,h.web.keepT fun b zs e=>?_,h.nt,h.nw⟩
 . obtain⟨p,ns,spot,rest,a,b,c,d⟩:=id h.fd
   refine⟨p,ns,spot,rest,by rw[zV (Ne.symm h.nt)];exact a,?_,c,d⟩
   rw[zV ?_]
   . exact b
   . intro z
     rw[z,h.bl.at_] at b
     have b':=HO.lst.inj (zQ b)
     match ns,d.2.2.2.2,b' with
     | x::r,_,b'=>
      obtain⟨q,e⟩:=h.ref (v:=.int x) (by rw[b'];exact ze)
      cases e
 . rw[zV (zAJ e h.bl.at_ (by intro z;cases z))];exact e
theorem BI.no {n:Int}{ts:List T3}{D t wa:Addr}{N:Nat}{ys:List V}{H0 H:Hp}{bad:PyData->Prop}{v:V}(h:BI n ts D t wa N ys H0 H)(T:ThG bad H v):noG bad D t H v:=by
 rcases T with ⟨d,a,b⟩ | ⟨p,i,rfl,T⟩
 . exact⟨d,a _,b⟩
 . obtain⟨p',ns,spot,rest,a,_⟩:=h.fd
   rcases T with ⟨e,b⟩ | ⟨e,b⟩
   . refine⟨_,zKo e ?_ ?_,b⟩
     . intro z
       rw[z,h.bl.at_] at e
       have e':=HO.lst.inj (zQ e)
       obtain⟨q,e''⟩:=h.ref (v:=.int i) (by rw[e'];exact ze)
       cases e''
     . exact zAJ e a (by intro z;cases z)
   . exact⟨_,zKn e (zAJ e h.bl.at_ (by intro z;cases z)) (zAJ e a (by intro z;cases z)),b⟩
theorem BI.bad {n:Int}{ts:List T3}{D t wa q:Addr}{N:Nat}{ys:List V}{H0 H:Hp}(h:BI n ts D t wa N ys H0 H){v1 v2 vl:V}{d1 d2 dl:PyData}(hq:H q=some (.tup [v1,v2,vl]))(S1:zAZ (hh D t H) v1 d1)(S2:zAZ (hh D t H) v2 d2)(S3:zAZ (hh D t H) vl dl)(b:BadD n ts d1 d2 dl vl):zEA n ts (hh D t H) (.ref q):=by
 obtain⟨p',ns,spot,rest,a,_⟩:=h.fd
 exact zF8 hq (zAJ hq h.bl.at_ (by intro z;cases z)) (zAJ hq a (by intro z;cases z)) S1 S2 S3 b
noncomputable def prT (n:Int)(σ:St)(_:Hp):Prop:=σ[2]? = some (some (.int n))
noncomputable abbrev bdP (n:Int)(d:PyData):Prop:=zAM d 0 (n-1)=false
noncomputable abbrev bdL (d:PyData):Prop:=d ≠ .none/\zAM d 1 99=false
theorem lo_sym (x y:Int):loP y x=loP x y:=by unfold loP;split <;> split <;> omega
theorem hi_sym (x y:Int):hiP y x=hiP x y:=by unfold hiP;split <;> split <;> omega
theorem zHv {a b:Int}{ts:List T3}(h:[a,b]∉ts.map fun t=>[t.1,t.2.1]):zCE a b ts=none:=by
 unfold zCE
 have:ts.filter (isP a b)=[]:=by
  rw[List.filter_eq_nil_iff]
  intro t ht c
  obtain⟨e1,e2⟩:=zDg.mp c
  exact h (zAB.mpr ⟨t,ht,by rw[e1,e2]⟩)
 rw[this];rfl
section
variable {P:Program}{w:World}{K:PySem.W.Frag}{mg:Str->Option Value}{base:Heap}
theorem zDT:zAA ["_law_feed_here", "_law_web_here", "_law_many", "_law_at", "_law_found", "_law_thing", "_law_other", "_law_pairs"] ["_law_feed_here", "_law_web_here"] (defScope zI3):=⟨rfl,rfl,rfl,by decide +kernel,rfl,by decide +kernel,by decide +kernel⟩
theorem zLX {f fD:Addr}{fd' fdD:FuncData}(F:Fun K "_law_bad_deeds" "_law_bad_deeds" zI3 f fd') (FD:Fun K "_law_take" "_law_take" zDy fD fdD) (bD:zt K fdD ["_law_feed_here", "_law_many"] []) (mD:mg "_law_take" = some (.ref fD)) (mLen:mg "len" = none) (mMin:mg "min" = none) (mMax:mg "max" = none):zy P w K mg base CX0 2 f fd' ["_law_feed_here", "_law_web_here"] zJx:=by
 have GD:zy P w K mg base CX0 1 fD fdD ["_law_feed_here", "_law_many"] zHD:=zHj FD mLen
 refine F.ok zDT (fun vs H Q E h=>?_) (fun cdv A outer s H vs Q E hr h=>?_)
 . obtain⟨t,wa,N,n,ts,rfl,_⟩:=h
   rfl
 . obtain⟨t,wa,N,n,ts,rfl,TT,hN,W,hn2,k⟩:=h
   obtain⟨ta,tys,hwa,hta,TA,G⟩:=id W
   have hn24:=G.n24
   have hu1:=zBE (Nat.add_le_add_left (show 1<=64 by decide) _) hr.units
   have thI:∀{bad:PyData->Prop}{H':Hp}(i:Int),bad (.int i)->ThG bad H' (.int i):=fun i b=>.inl ⟨_,fun _=>.int i,b⟩
   refine⟨_,zO (zAK (i:=2) zDT.nd rfl (Or.inl rfl) (zAC zAR (pv 1) zY (fun _ _=>rfl)))
    (zO (zAK (i:=3) zDT.nd rfl (Or.inr rfl) (zg GD hr rfl mD FD.kp bD .nil zAI (zB (pv 0) (zB (pv 2) zK))))
    (zO (zAK (i:=4) zDT.nd rfl (Or.inl rfl) (zBF (zB (zAY (zB (pv 3) (zB (pv 3) (zBM zK)))) (zB (zAY (zB (pv 3) (zB (pv 3) (zB zBX zK)))) zK))))
    (zO (zCf PassesOwn.never rfl (zBy (zBF (zJ4 (Pre:=prT n) (R:=ThG (bdP n)) (fun σ H H' a s=>a) (fun H H' v a s=>a.keep s)
     (.cons (zBi (pv 2) (fun σ H Q q=>⟨_,q.1,q.2 _ _ (zAW.refl _) (thI _ (by simp[bdP,zAM];omega))⟩))
     (.cons (zBi (zK3 zG5 zY) (fun σ H Q q=>⟨_,rfl,q.2 _ _ (zAW.refl _) (thI _ (by simp[bdP,zAM]))⟩))
     (.cons (zBi zCC (fun σ H Q q=>q.2 _ _ (zAW.refl _) (.inl ⟨_,fun _=>.bl _,rfl⟩)))
     (.cons (zBi zCC (fun σ H Q q=>q.2 _ _ (zAW.refl _) (.inl ⟨_,fun _=>.bl _,rfl⟩)))
     (.cons (zBi zDC (fun σ H Q q=>q.2 _ _ (zAW.refl _) (.inl ⟨_,fun _=>.str _,rfl⟩)))
     (.cons (zBi zBX (fun σ H Q q=>q.2 _ _ (zAW.refl _) (.inl ⟨_,fun _=>.non,rfl⟩)))
     (.cons (zBi (zBF (zB zY zK)) (fun σ H Q q=>⟨by show 1<=sizeLine;decide,fun p hp=>q.2 _ _ (zF hp) (.inr ⟨p,_,rfl,.inl ⟨zH,rfl⟩⟩)⟩))
     (.cons (zBi (zAY (zB zY zK)) (fun σ H Q q=>⟨by show 1<=sizeLine;decide,fun p hp=>q.2 _ _ (zF hp) (.inr ⟨p,_,rfl,.inr ⟨zH,rfl⟩⟩)⟩))
     (.cons (zBi (zAc zHf zY zY) (fun σ H Q q=>⟨10,39,rfl,rfl,⟨by decide,by decide,by decide⟩,q.2 _ _ (zAW.refl _) (thI _ (by show zAM (.int ((10:Int) ^ 39)) 0 (n-1)=false;simp[zAM];omega))⟩)) .nil)))))))))))) (zz (i:=5) zDT.nd rfl (Or.inl rfl))
     (zX (zBp (zC4 PySem.F.plainAttrs_list PySem.F.slot_list_extend PySem.F.type_list_extend zCi (pv 4) (zB (zBF
      (zB (zAY (zB (pv 5) (zB (pv 3) (zBM zK)))) (zB (zAY (zB (pv 3) (zB (pv 5) (zBM zK)))) (zB (zAY (zB (pv 5) (zB (pv 3) (zB zBX zK)))) (zB (zAY (zB (pv 3) (zB (pv 5) (zB zBX zK)))) zK))))) zK)))))
    (zO (zAK (i:=6) zDT.nd rfl (Or.inr rfl) (zAc zCL (zAc zBo (zAc zBo (pv 3) zY) (zg GD hr rfl mD FD.kp bD .nil zAI (zB (pv 0) (zB (zAc zHe (pv 2) zY) zK)))) (pv 2)))
    (zO (zBp (zC4 PySem.F.plainAttrs_list PySem.F.slot_list_extend PySem.F.type_list_extend zCi (pv 4) (zB
     (zBS (own:=["_law_long"]) (cn:=["_law_at", "_law_other"]) (ci:=[3,6]) rfl (csc rfl rfl) ⟨rfl,rfl,rfl,rfl,rfl,rfl,trivial⟩ rfl
      (zBy (zBF (zJ4 (Pre:=fun _ _=>True) (R:=ThG bdL) (fun σ H H' a s=>a) (fun H H' v a s=>a.keep s)
     (.cons (zBi zY (fun σ H Q q=>q.2 _ _ (zAW.refl _) (thI _ (by simp[bdL,zAM]))))
     (.cons (zBi zY (fun σ H Q q=>q.2 _ _ (zAW.refl _) (thI _ (by simp[bdL,zAM]))))
     (.cons (zBi (zK3 zG5 zY) (fun σ H Q q=>⟨_,rfl,q.2 _ _ (zAW.refl _) (thI _ (by simp[bdL,zAM]))⟩))
     (.cons (zBi zCC (fun σ H Q q=>q.2 _ _ (zAW.refl _) (.inl ⟨_,fun _=>.bl _,by simp[bdL,zAM]⟩)))
     (.cons (zBi zDC (fun σ H Q q=>q.2 _ _ (zAW.refl _) (.inl ⟨_,fun _=>.str _,by simp[bdL,zAM]⟩)))
     (.cons (zBi (zBF (zB zY zK)) (fun σ H Q q=>⟨by show 1<=sizeLine;decide,fun p hp=>q.2 _ _ (zF hp) (.inr ⟨p,_,rfl,.inl ⟨zH,by simp[bdL,zAM]⟩⟩)⟩))
     (.cons (zBi (zAY (zB zY zK)) (fun σ H Q q=>⟨by show 1<=sizeLine;decide,fun p hp=>q.2 _ _ (zF hp) (.inr ⟨p,_,rfl,.inr ⟨zH,by simp[bdL,zAM]⟩⟩)⟩))
     (.cons (zBi (zAc zHf zY zY) (fun σ H Q q=>⟨10,39,rfl,rfl,⟨by decide,by decide,by decide⟩,q.2 _ _ (zAW.refl _) (thI _ (by show bdL (.int ((10:Int) ^ 39));simp[bdL,zAM]))⟩)) .nil))))))))))) (fun _ _ _ _=>zz (i:=0) (zBv rfl) rfl (Or.inl rfl)) (fun _ _ _ _=>zBZ)
      (fun _ _ _ _=>zAY (zB (pv 1) (zB (pv 2) (zB (pv 0) zK))))) zK)))
    (zO (zC3 (i:=7) (own:=["_law_tie"]) (cn:=[]) (ci:=[]) zDT.nd rfl (Or.inl rfl) rfl (csc rfl rfl) trivial rfl (zDB (zAC zAR (pv 1) zY (fun _ _=>rfl))) (fun _ _ _ _=>zz (i:=0) (zBv rfl) rfl (Or.inl rfl))
     (fun _ _ _ _=>zBZ) (fun _ _ _ _=>zBg zBz (pv 0) zB0 (zBq zY)))
    (zO (zBK (zAG (zHh hu1) (zAY (zB (zn (zCt rfl) (by rfl) mMin (by decide +kernel) (zB (pv 3) (zB (pv 6) zK))) (zB (zn (zDo rfl) (by rfl) mMax (by decide +kernel) (zB (pv 3) (zB (pv 6) zK))) zK))) (pv 7) rfl)
     (zO (zBp (zC4 PySem.F.plainAttrs_list PySem.F.slot_list_append PySem.F.type_list_append zBw (pv 4) (zB (zAY (zB (pv 6) (zB (pv 3) (zB zBX zK)))) zK)))
     (zX (zBK (zAG zCD (zn zAS (by rfl) mLen PySem.boot_len (zB (pv 7) zK)) zY (zAN _)) (zX (zBp (zC4 PySem.F.plainAttrs_list PySem.F.slot_list_append PySem.F.type_list_append zBw (pv 4) (zB (zAY (zB (pv 3) (zB (pv 6) (zBM zK)))) zK)))) zAO))) zAO)
    (zX (zAD (pv 4)))))))))),?_⟩
   refine⟨_,rfl,wa,_,_,.int n,rfl,rfl,SqT.of hwa,rfl,?_⟩
   refine⟨_,rfl,_,rfl,t,N,n,rfl,TT,by omega,by omega,by omega,fun a H1 a0 a1 T1 he1=>?_⟩
   have s1:Sm t H H1:=zB7 he1
   have W1:zAe H1 wa n ts:=W.keepT fun b zs e=>by
    obtain⟨p,ns,spot,rest,x,_⟩:=TT
    rw[he1 b (zAJ e x (by intro z;cases z))];exact e
   refine⟨_,rfl,_,rfl,by show 3<=sizeLine;decide,fun q1 hq1=>?_⟩
   have s2:=zF (o:=.tup [.int a,.int a,.int 1]) hq1
   refine⟨_,rfl,_,rfl,by show 3<=sizeLine;decide,fun q2 hq2=>?_⟩
   have s3:=zF (o:=.tup [.int a,.int a,.non]) hq2
   refine⟨by show 2<=sizeLine;decide,fun D hD=>?_⟩
   have s4:=zF (o:=.lst [.ref q1,.ref q2]) hD
   have s14:=s2.trans (s3.trans s4)
   have hDt:D≠t:=(T1.keep (s2.trans s3)).ne hD
   have badP:BadP n (.int a) (.int a):=by
    rintro ⟨x,y,e1,e2,_,_,ne⟩
    cases e1;cases e2;exact ne rfl
   have hD0:H D=none:=by rw[<-he1 D hDt];exact zAk (s2.trans s3) hD
   have g1:=s4 _ _ (s3 _ _ zH)
   have g2:=s4 _ _ zH
   have g3:(upd (upd (upd H1 q1 (.tup [.int a,.int a,.int 1])) q2 (.tup [.int a,.int a,.non])) D (.lst [.ref q1,.ref q2])) D=some (.lst [.ref q1,.ref q2]):=zH
   generalize upd (upd (upd H1 q1 (.tup [.int a,.int a,.int 1])) q2 (.tup [.int a,.int a,.non])) D (.lst [.ref q1,.ref q2])=H2 at s14 g1 g2 g3 ⊢
   have T2:=T1.keep s14
   have B:BI n ts D t wa (N+1) [.ref q1,.ref q2] H H2:=by
    refine⟨⟨g3,fun y hy=>?_⟩,s1.trans (Sm.of s14),T2,W1.keep s14,hDt,hD0⟩
    obtain⟨p,ns,spot,rest,x,_⟩:=id T2
    simp only[za,List.not_mem_nil,or_false] at hy
    rcases hy with rfl | rfl
    . exact zF8 g1 (zAJ g1 g3 (by intro z;cases z)) (zAJ g1 x (by intro z;cases z)) (.int a) (.int a) (.int 1) (zC9 badP)
    . exact zF8 g2 (zAJ g2 g3 (by intro z;cases z)) (zAJ g2 x (by intro z;cases z)) (.int a) (.int a) .non (zC9 badP)
   clear s2 s3 s4 s14 g1 g2 g3 hq1 hq2 hD T2 T1 W1 s1
   refine⟨rfl,fun vs H3 s5 hl5 al5=>⟨zAE (zd (by rw[hl5];decide)),fun L hL=>?_⟩⟩
   have hl5':vs.length=9:=hl5
   have s6:=zF (o:=.lst vs) hL
   have B2:=B.same (s5.trans s6)
   have no2:∀v∈vs,noG (bdP n) D t (upd H3 L (.lst vs)) v:=fun v hv=>B2.no ((al5 v hv).keep s6)
   have hL2:(upd H3 L (.lst vs)) L=some (.lst vs):=zH
   have nLD:L≠D:=(zc ((B.same s5).bl.at_) hL).symm
   generalize upd H3 L (.lst vs)=H4 at B2 no2 hL2 ⊢
   refine⟨L,rfl,⟨_,SqL.of hL2⟩,?_⟩
   refine zDO (K:=K) (a:=L) (xs:=vs) (fun i σ H5=>∃(v5:Option V)(ys:List V),σ=[some (.ref t),some (.ref wa),some (.int n),some (.int a),some (.ref D),v5,none,none]/\BI n ts D t wa (N+1) ys H H5/\ys.length=2+4*i/\(∀v∈vs,noG (bdP n) D t H5 v)/\H5 L=some (.lst vs)) ⟨_,_,rfl,B2,rfl,no2,hL2⟩ (fun i σ H5 _ z=>?_) ?turn ?after
   . obtain⟨_,_,_,_,_,_,h5⟩:=z
     exact SqL.of h5
   case turn=>
    rintro i v σ H5 hi ⟨v5,ys,rfl,B5,hlen,no5,hL5⟩
    have hil:=(zL.mp hi).1
    have hv:=zl hi
    refine⟨_,rfl,.inl ⟨rfl,_,SqL.of B5.bl.at_⟩,?_⟩
    refine⟨_,rfl,_,rfl,by show 3<=sizeLine;decide,fun q1 h1=>?_⟩
    have u1:=zF (o:=.tup [v,.int a,.int 1]) h1
    refine⟨_,rfl,_,rfl,by show 3<=sizeLine;decide,fun q2 h2=>?_⟩
    have u2:=zF (o:=.tup [.int a,v,.int 1]) h2
    refine⟨_,rfl,_,rfl,by show 3<=sizeLine;decide,fun q3 h3=>?_⟩
    have u3:=zF (o:=.tup [v,.int a,.non]) h3
    refine⟨_,rfl,_,rfl,by show 3<=sizeLine;decide,fun q4 h4=>?_⟩
    have u4:=zF (o:=.tup [.int a,v,.non]) h4
    refine⟨by show 4<=sizeLine;decide,fun L2 hL2=>?_⟩
    have u5:=zF (o:=.lst [.ref q1,.ref q2,.ref q3,.ref q4]) hL2
    have u:=u1.trans (u2.trans (u3.trans (u4.trans u5)))
    have g1:=u5 _ _ (u4 _ _ (u3 _ _ (u2 _ _ zH)))
    have g2:=u5 _ _ (u4 _ _ (u3 _ _ zH))
    have g3:=u5 _ _ (u4 _ _ zH)
    have g4:=u5 _ _ zH
    have g5:(upd (upd (upd (upd (upd H5 q1 (.tup [v,.int a,.int 1])) q2 (.tup [.int a,v,.int 1])) q3 (.tup [v,.int a,.non])) q4 (.tup [.int a,v,.non])) L2 (.lst [.ref q1,.ref q2,.ref q3,.ref q4])) L2=some (.lst [.ref q1,.ref q2,.ref q3,.ref q4]):=zH
    generalize upd (upd (upd (upd (upd H5 q1 (.tup [v,.int a,.int 1])) q2 (.tup [.int a,v,.int 1])) q3 (.tup [v,.int a,.non])) q4 (.tup [.int a,v,.non])) L2 (.lst [.ref q1,.ref q2,.ref q3,.ref q4])=H6 at u g1 g2 g3 g4 g5 ⊢
    have B6:=B5.same u
    obtain⟨d,Sd,bd⟩:=(no5 v hv).same u
    have bad:∀z∈[V.ref q1,.ref q2,.ref q3,.ref q4],zEA n ts (hh D t H6) z:=by
     intro z hz
     simp only[za,List.not_mem_nil,or_false] at hz
     rcases hz with rfl | rfl | rfl | rfl
     . exact B6.bad g1 Sd (.int a) (.int 1) (zC9 (zDN (.inl bd)))
     . exact B6.bad g2 (.int a) Sd (.int 1) (zC9 (zDN (.inr bd)))
     . exact B6.bad g3 Sd (.int a) .non (zC9 (zDN (.inl bd)))
     . exact B6.bad g4 (.int a) Sd .non (zC9 (zDN (.inr bd)))
    refine⟨D,L2,ys,_,rfl,rfl,B6.bl.at_,g5,zAE (zd (by simp;omega)),?_⟩
    refine⟨_,_,rfl,B6.more bad,by rw[zN,hlen];simp;omega,fun x hx=>((no5 x hx).same u).upd,?_⟩
    rw[zV nLD];exact u _ _ hL5
   case after=>
    rintro σ H5 ⟨v5,ys,rfl,B5,hlen,no5,hL5⟩
    rw[hl5'] at hlen
    clear no5 hL5 no2 hL2 B2 B al5 s5 s6 hL
    refine⟨_,rfl,_,_,rfl,rfl,_,rfl,_,rfl,_,_,rfl,rfl,t,_,n-1,rfl,B5.fd,by omega,by omega,by omega,fun r H6 r0 r1 T6 he6=>?_⟩
    refine⟨_,_,rfl,rfl,_,rfl,_,_,rfl,rfl,by omega,?_⟩
    have B6:=B5.feed he6 T6
    obtain⟨o,ho⟩:∃o,(a+1+r)%n=o:=⟨_,rfl⟩
    have two:Two n a o:=by
     refine⟨⟨a0,a1⟩,⟨by rw[<-ho];exact Int.emod_nonneg _ (by omega),by rw[<-ho];exact Int.emod_lt_of_pos _ (by omega)⟩,?_⟩
     by_cases c:a+1+r<n
     . rw[Int.emod_eq_of_lt (by omega) c] at ho;omega
     . have e:(a+1+r)%n=a+1+r-n:=by
        rw[show a+1+r=(a+1+r-n)+n by omega,Int.add_emod_right,Int.emod_eq_of_lt (by omega) (by omega)];omega
       rw[e] at ho;omega
    dsimp only
    rw[ho]
    refine⟨_,rfl,.inl ⟨rfl,_,SqL.of B6.bl.at_⟩,?_⟩
    refine⟨trivial,fun vs2 H7 s7 hl7 al7=>⟨zAE (zd (by rw[hl7];decide)),fun L2 hL2=>?_⟩⟩
    have hl7':vs2.length=8:=hl7
    have s8:=zF (o:=.lst vs2) hL2
    have B8:=B6.same (s7.trans s8)
    have no8:∀v∈vs2,noG bdL D t (upd H7 L2 (.lst vs2)) v:=fun v hv=>B8.no ((al7 v hv).keep s8)
    have hL8:(upd H7 L2 (.lst vs2)) L2=some (.lst vs2):=zH
    generalize upd H7 L2 (.lst vs2)=H8 at B8 no8 hL8 ⊢
    refine⟨L2,rfl,⟨_,SqL.of hL8⟩,[.int a,.int o],rfl,fun D2 hD2=>?_⟩
    refine zBx (a:=L2) (xs:=vs2) (fun j zs H9=>j<=vs2.length/\zs.length=j/\zAW H8 H9/\H9 D2=some (.lst zs)/\∀z∈zs,∃(q:Addr)(v:V),z=V.ref q/\v∈vs2/\H9 q=some (.tup [.int a,.int o,v])) ⟨zj _,rfl,zF hD2,zH,by simp⟩ (fun j zs H9 z=>?_) (fun j zs H9 z=>?_) (fun j v zs H9 hv z=>?_) (fun zs H9 z=>?_)
    . exact SqL.of (z.2.2.1 _ _ hL8)
    . exact zd (by have:=z.1;have:=z.2.1;omega)
    . obtain⟨_,hz,s9,h9,al9⟩:=z
      have hjl:=(zL.mp hv).1
      refine⟨⟨rfl,rfl⟩,?_⟩
      refine zFm ?_
      refine⟨_,rfl,_,rfl,_,rfl,by show 3<=sizeLine;decide,fun q hq=>?_⟩
      have s10:=zF (o:=.tup [.int a,.int o,v]) hq
      have h10:=s10 _ _ h9
      refine⟨h10,hjl,by rw[zN,hz];rfl,zAy (s9.trans s10) hD2,zH,fun z hz=>?_⟩
      rcases zx.mp hz with c | c
      . obtain⟨q',v',e,hm,hq'⟩:=al9 z c
        have hq'':=s10 _ _ hq'
        exact⟨q',v',e,hm,by rw[zV (zAJ hq'' h10 (by intro z;cases z))];exact hq''⟩
      . rw[zi.mp c]
        exact⟨q,v,rfl,zl hv,by rw[zV (Ne.symm (zc h9 hq))];exact zH⟩
    . obtain⟨_,hz,s9,h9,al9⟩:=z
      have B9:=B8.same s9
      have bad9:∀z∈zs,zEA n ts (hh D t H9) z:=fun z hz=>by
       obtain⟨q,v,rfl,hm,hq⟩:=al9 z hz
       obtain⟨d,Sd,dn,bd⟩:=(no8 v hm).same s9
       refine B9.bad hq (.int a) (.int o) Sd (.inr ⟨fun e=>?_,.inr ⟨a,o,rfl,rfl,two,.inl bd⟩⟩)
       subst e
       cases Sd
       exact dn rfl
      refine⟨D,D2,ys,zs,rfl,rfl,B9.bl.at_,h9,zAE (zd (by omega)),?_⟩
      have B10:=B9.more bad9
      have hlen2:(ys++zs).length=46:=by rw[zN];omega
      generalize upd H9 D (.lst (ys++zs))=H10 at B10 ⊢
      generalize ys++zs=ys2 at B10 hlen2
      obtain⟨ta2,tys2,hwa2,hta2,TA2,_⟩:=id B10.web
      have hlT:=TA2.length
      rw[zD] at hlT
      have h64:=G.len
      refine⟨_,rfl,wa,_,_,.ref ta2,rfl,rfl,SqT.of hwa2,rfl,ta2,rfl,⟨_,SqT.of hta2⟩,[],rfl,fun D3 hD3=>?_⟩
      refine zB8 (a:=ta2) (xs:=tys2) (fun i zs H11=>i<=tys2.length/\zw H11 zs ((ts.take i).map fun t=>[t.1,t.2.1])/\zAW H10 H11/\H11 D3=some (.lst zs)) ⟨zj _,trivial,zF hD3,zH⟩ (fun i zs H11 z=>?_) (fun i zs H11 z=>?_) (fun i v zs H11 hv z=>?_) (fun zs H11 z=>?_)
      . exact SqT.of (z.2.2.1 _ _ hta2)
      . have h1:=z.2.1.length
        rw[zD,zAF] at h1
        exact zd (by omega)
      . obtain⟨_,T11,s11,h11⟩:=z
        have hil:=(zL.mp hv).1
        obtain⟨ya,kk,rfl,hkk,hya,_⟩:=TA2.get hv
        rw[zU] at hkk
        obtain⟨u,hu,rfl⟩:∃u,ts[i]? = some u/\tl u=kk:=by
         cases e:ts[i]? with
         | none=>rw[e] at hkk;cases hkk
         | some u=>rw[e] at hkk;exact⟨u,rfl,zQ hkk⟩
        refine⟨⟨rfl,rfl⟩,?_⟩
        refine zFm ?_
        refine⟨_,rfl,_,rfl,ya,_,rfl,s11 _ _ hya,fun q H12 s12 hq=>?_⟩
        rw[cut2] at hq
        have h12:=s12 _ _ h11
        refine⟨h12,hil,?_,zAy (s11.trans s12) hD3,zH⟩
        rw[zAL,hu,zR]
        refine (T11.keep fun b zs e=>?_).snoc ⟨q,rfl,?_,by simp⟩
        . have e':=s12 _ _ e
          rw[zV (zAJ e' h12 (by intro z;cases z))];exact e'
        . rw[zV (zAJ hq h12 (by intro z;cases z))];exact hq
      . obtain⟨_,T11,s11,h11⟩:=z
        rw[hlT,zm (zM _)] at T11
        have lz:=T11.length
        rw[zD] at lz
        have B11:=B10.same s11
        refine⟨_,rfl,_,rfl,a,o,rfl,_,rfl,_,rfl,a,o,rfl,by show 2<=sizeLine;decide,fun pq hpq=>?_⟩
        have s12:=zF (o:=.tup [.int (loP a o),.int (hiP a o)]) hpq
        have B12:=B11.same s12
        refine⟨_,rfl,pq,D3,[loP a o,hiP a o],zs,_,rfl,rfl,zH,SqL.of (s12 _ _ h11),T11.keep fun b zs e=>s12 _ _ e,_,rfl,?_⟩
        have h12:=s12 _ _ h11
        have nD3:D3≠D:=(zc B10.bl.at_ hD3).symm
        rw[show (HO.tup [V.int (if o<a then o else a),V.int (if o > a then o else a)])=HO.tup [.int (loP a o),.int (hiP a o)] from rfl]
        generalize upd H11 pq (.tup [.int (loP a o),.int (hiP a o)])=H12 at B12 h12 ⊢
        refine zDL (fun c=>?_) (fun c=>?_)
        . have nl:zCE (loP a o) (hiP a o) ts=none:=zHv (by
           intro z
           rw[zZ z] at c
           cases c)
          refine⟨_,rfl,.inl ⟨rfl,_,SqL.of B12.bl.at_⟩,?_⟩
          refine⟨_,rfl,_,rfl,by show 3<=sizeLine;decide,fun q hq=>?_⟩
          have s13:=zF (o:=.tup [.int o,.int a,.non]) hq
          have B13:=B12.same s13
          refine⟨D,_,_,rfl,rfl,B13.bl.at_,zd (by omega),?_⟩
          have B14:=B13.more (zs:=[.ref q]) (fun z hz=>by
           rw[zi.mp hz]
           exact B13.bad zH (.int o) (.int a) .non (.inl ⟨rfl,.inr ⟨o,a,rfl,rfl,⟨two.2.1,two.1,Ne.symm two.2.2⟩,by rw[lo_sym,hi_sym];exact nl⟩⟩))
          have h14:(upd (upd H12 q (.tup [.int o,.int a,.non])) D (.lst (ys2++[.ref q]))) D3=some (.lst zs):=by rw[zV nD3];exact s13 _ _ h12
          have hlen3:(ys2++[V.ref q]).length=47:=by rw[zN,hlen2];rfl
          generalize upd (upd H12 q (.tup [.int o,.int a,.non])) D (.lst (ys2++[.ref q]))=H14 at B14 h14 ⊢
          generalize ys2++[V.ref q]=ys3 at B14 hlen3
          refine⟨_,rfl,D3,_,rfl,.inl (SqL.of h14),rfl,_,rfl,?_⟩
          refine zDL (fun c2=>?_) (fun c2=>?_)
          . have h60:zs.length=60:=by
             have:=V.int.inj (of_decide_eq_true c2)
             omega
            refine⟨_,rfl,.inl ⟨rfl,_,SqL.of B14.bl.at_⟩,?_⟩
            refine⟨_,rfl,_,rfl,by show 3<=sizeLine;decide,fun q2 hq2=>?_⟩
            have s15:=zF (o:=.tup [.int a,.int o,.int 1]) hq2
            have B15:=B14.same s15
            refine⟨D,_,_,rfl,rfl,B15.bl.at_,zd (by omega),?_⟩
            have B16:=B15.more (zs:=[.ref q2]) (fun z hz=>by
             rw[zi.mp hz]
             exact B15.bad zH (.int a) (.int o) (.int 1) (.inr ⟨(by intro z;cases z),.inr ⟨a,o,rfl,rfl,two,.inr ⟨nl,by omega⟩⟩⟩))
            exact⟨_,rfl,k D _ _ hD0 B16.bl (by rw[zN,hlen3];show 47+1<=60;decide) B16.fd B16.sm⟩
          . exact⟨_,rfl,k D _ _ hD0 B14.bl (by omega) B14.fd B14.sm⟩
        . exact⟨_,rfl,k D _ _ hD0 B12.bl (by omega) B12.fd B12.sm⟩
end
end K65
namespace K65
open PySem L2 WM
noncomputable def zIs (K:PySem.W.Frag)(PT:Addr):Sp:=fun vs H Q _=>∃(a:Addr)(ns:List Int),vs=[.ref a]/\SqL K H a (ns.map V.int)/\ns.length<=63/\H PT=some (.tbl #[])/\∀H',Q (.bl true) H'
theorem gw_up {n:Int}{ts:List T3}(G:GW n ts)(h:n<=23):GW (n+1) ts:=⟨by have:=G.n1;omega,by omega,G.len,fun t ht=>by obtain⟨a,b,c,d⟩:=G.rng t ht;exact⟨a,b,by omega,d⟩,G.dis⟩
theorem zJ5 {n:Int}{os:List Int}(h:os.Perm (lowTo n.toNat))(h0:0<=n):zGB n os:=by
 have nd:(lowTo n.toNat).Nodup:=by
  unfold lowTo
  rw[List.Nodup,zAU]
  exact List.nodup_range.imp fun h e=>h (by omega)
 refine⟨by rw[h.length_eq,zCn],h.nodup_iff.mpr nd,fun p hp=>?_⟩
 have:=h.mem_iff.mp hp
 unfold lowTo at this
 obtain⟨j,hj,e⟩:=zAB.mp this
 have:=zAu.mp hj
 omega
theorem zAf.mvl {H:Hp}{t l:Addr}{N:Nat}{vs:List V}{o:HO}(F:zAf H t N)(h:H l=some (.lst vs))(rf:∀v∈vs,∃a,v = .ref a)(nt:l≠t):zAf (upd H l o) t N:=by
 obtain⟨p,FP⟩:=F
 obtain⟨ns,spot,rest,ht,hp,hne,hs0,hs1,hr0,hl,hl0⟩:=id FP
 refine⟨p,FP.upd nt fun z=>?_⟩
 rw[z,hp] at h
 have e:=HO.lst.inj (zQ h)
 cases ns with
 | nil=>simp at hl0
 | cons a r=>
  obtain⟨b,hb⟩:=rf (.int a) (by rw[<-e];exact ze)
  cases hb
theorem zFo {H:Hp}{l PT:Addr}{pos:Pos}{q:Str}{ys:List V}{o:HO}(T:zB5 H PT pos q)(h:H l=some (.lst ys)):zB5 (upd H l o) PT pos q:=by
 refine T.keep (fun u e=>?_) fun c φ e=>?_
 . obtain⟨ps,hps,_⟩:=T
   rw[zV (zAJ hps h (by intro z;cases z))];exact e
 . rw[zV (zAJ e h (by intro z;cases z))];exact e
structure LI (C PT t w2 od kl wsl:Addr)(kp dx oa:Nat->Addr)(n:Int)(os:Nat->List Int)(t2:List T3)(N:Nat)(ts:Nat->List T3)(ess:Nat->List (List En))(la wk wl:Nat->Addr)(H:Hp):Prop where
 ks:∀i,i<2->zBB H C (kp i) (dx i) (la i) (wk i) (oa i) n (ts i) (os i) (ess i)
 ws:∀i,i<2->zAe H (wl i) n (ts i)
 le:∀i,i<2->(ts i).length<=60
 ho:H od=some (.lst [.ref (oa 0),.ref (oa 1)])
 hk:H kl=some (.lst [.ref (kp 0),.ref (kp 1)])
 hw:H wsl=some (.lst [.ref (wl 0),.ref (wl 1)])
 no:od≠wsl
 nk:kl≠wsl
 w2:zAe H w2 n t2
 fd:zAf H t N
 tb:Tb H PT
 ne:kp 0≠kp 1
section
variable {C PT t w2 od kl wsl:Addr}{kp dx oa:Nat->Addr}{n:Int}{os:Nat->List Int}{t2:List T3}{N:Nat}{ts:Nat->List T3}{ess:Nat->List (List En)}{la wk wl:Nat->Addr}{H:Hp}
theorem LI.to (L:LI C PT t w2 od kl wsl kp dx oa n os t2 N ts ess la wk wl H){N':Nat}{H':Hp}(tk:∀b ys,H b=some (.tup ys)->H' b=some (.tup ys))(lk:∀b x y,H b=some (.lst [.ref x,.ref y])->H' b=some (.lst [.ref x,.ref y]))(ik:∀b C dx fs,H b=some (.ins C dx fs)->H' b=some (.ins C dx fs))(F:zAf H' t N')(T:Tb H' PT):LI C PT t w2 od kl wsl kp dx oa n os t2 N' ts ess la wk wl H':=
 ⟨fun i hi=>(L.ks i hi).keep ((ik _ _ _ _ (L.ks i hi).ins).trans (L.ks i hi).ins.symm) tk,fun i hi=>(L.ws i hi).keepT tk,L.le,lk _ _ _ L.ho,lk _ _ _ L.hk,lk _ _ _ L.hw,L.no,L.nk,L.w2.keepT tk,F,T,L.ne⟩
theorem LI.same (L:LI C PT t w2 od kl wsl kp dx oa n os t2 N ts ess la wk wl H){H':Hp}(s:zAW H H'):LI C PT t w2 od kl wsl kp dx oa n os t2 N ts ess la wk wl H':=
 L.to (fun _ _ e=>s _ _ e) (fun _ _ _ e=>s _ _ e) (fun _ _ _ _ e=>s _ _ e) (L.fd.keep s) (L.tb.same s)
theorem LI.sm (L:LI C PT t w2 od kl wsl kp dx oa n os t2 N ts ess la wk wl H){N':Nat}{H':Hp}(s:Sm t H H')(F:zAf H' t N'):LI C PT t w2 od kl wsl kp dx oa n os t2 N' ts ess la wk wl H':=by
 obtain⟨p,ns,spot,rest,ht,_⟩:=id L.fd
 exact L.to (fun _ _ e=>s _ _ (zAJ e ht (by intro z;cases z)) e) (fun _ _ _ e=>s _ _ (zAJ e ht (by intro z;cases z)) e) (fun _ _ _ _ e=>s _ _ (zAJ e ht (by intro z;cases z)) e) F (zE6 L.tb L.fd s)
theorem LI.smT (L:LI C PT t w2 od kl wsl kp dx oa n os t2 N ts ess la wk wl H){H':Hp}(s:SmT H H')(T:Tb H' PT):LI C PT t w2 od kl wsl kp dx oa n os t2 N ts ess la wk wl H':=by
 obtain⟨p,ns,spot,rest,ht,hp,r⟩:=id L.fd
 exact L.to (fun _ _ e=>s.get e (by intro ps z;cases z)) (fun _ _ _ e=>s.get e (by intro ps z;cases z)) (fun _ _ _ _ e=>s.get e (by intro ps z;cases z)) ⟨p,ns,spot,rest,s.get ht (by intro ps z;cases z),s.get hp (by intro ps z;cases z),r⟩ T
theorem LI.nek (L:LI C PT t w2 od kl wsl kp dx oa n os t2 N ts ess la wk wl H){i j:Nat}(hi:i<2)(hj:j<2)(h:i≠j):kp i≠kp j:=by
 match i,j,hi,hj,h with
 | 0,1,_,_,_=>exact L.ne
 | 1,0,_,_,_=>exact L.ne.symm
 | 0,0,_,_,h=>exact absurd rfl h
 | 1,1,_,_,h=>exact absurd rfl h
theorem LI.put (L:LI C PT t w2 od kl wsl kp dx oa n os t2 N ts ess la wk wl H){H1 H2:Hp}{j:Nat}{la' wk' wl':Addr}{ts':List T3}{ess':List (List En)}(hj:j<2)(s:SmK (kp j) H H1)(T1:Tb H1 PT)(K1:zBB H1 C (kp j) (dx j) la' wk' (oa j) n ts' (os j) ess')(s2:zAW H1 H2)(W:zAe H2 wl' n ts')(hle:ts'.length<=60) :
 LI C PT t w2 od kl wsl kp dx oa n os t2 N (fun i=>if i=j then ts' else ts i) (fun i=>if i=j then ess' else ess i) (fun i=>if i=j then la' else la i) (fun i=>if i=j then wk' else wk i) (fun i=>if i=j then wl' else wl i) (upd H2 wsl (.lst ([V.ref (wl 0),.ref (wl 1)].set j (.ref wl')))):=by
 have hkj:=(L.ks j hj).ins
 have hw2:H2 wsl=some (.lst [.ref (wl 0),.ref (wl 1)]):=s2 _ _ (s.get (zAJ L.hw hkj (by intro z;cases z)) L.hw (by intro ps z;cases z))
 have tk2:∀b ys,H2 b=some (.tup ys)->(upd H2 wsl (.lst ([V.ref (wl 0),.ref (wl 1)].set j (.ref wl')))) b=some (.tup ys):=fun b ys e=>by rw[zV (zAJ e hw2 (by intro z;cases z))];exact e
 have tk:∀b ys,H b=some (.tup ys)->(upd H2 wsl (.lst ([V.ref (wl 0),.ref (wl 1)].set j (.ref wl')))) b=some (.tup ys):=fun b ys e=>tk2 b ys (s2 _ _ (s.get (zAJ e hkj (by intro z;cases z)) e (by intro ps z;cases z)))
 have lk:∀b x y,b≠wsl->H b=some (.lst [.ref x,.ref y])->(upd H2 wsl (.lst ([V.ref (wl 0),.ref (wl 1)].set j (.ref wl')))) b=some (.lst [.ref x,.ref y]):=fun b x y nb e=>by
  rw[zV nb];exact s2 _ _ (s.get (zAJ e hkj (by intro z;cases z)) e (by intro ps z;cases z))
 refine⟨fun i hi=>?_,fun i hi=>?_,fun i hi=>?_,lk _ _ _ L.no L.ho,lk _ _ _ L.nk L.hk,?_,L.no,L.nk,L.w2.keepT tk,?_,zFo (T1.same s2) hw2,L.ne⟩
 . by_cases c:i=j
   . subst c
     simp only[if_pos]
     exact (K1.same s2).keep (zV (zAJ (s2 _ _ K1.ins) hw2 (by intro z;cases z))) tk2
   . simp only[if_neg c]
     refine (L.ks i hi).keep ?_ tk
     have hki:=(L.ks i hi).ins
     rw[zV (zAJ (s2 _ _ (s.get (L.nek hi hj c) hki (by intro ps z;cases z))) hw2 (by intro z;cases z)),hki]
     exact s2 _ _ (s.get (L.nek hi hj c) hki (by intro ps z;cases z))
 . by_cases c:i=j
   . subst c
     simp only[if_pos]
     exact W.keepT tk2
   . simp only[if_neg c]
     exact (L.ws i hi).keepT tk
 . by_cases c:i=j
   . subst c
     simp only[if_pos];exact hle
   . simp only[if_neg c]
     exact L.le i hi
 . rw[zH]
   match j,hj with
   | 0,_=>rfl
   | 1,_=>rfl
 . obtain⟨p,ns,spot,rest,ht,hp,a,b,c,d,e⟩:=id L.fd
   have ht2:=s2 _ _ (s.get (zAJ ht hkj (by intro z;cases z)) ht (by intro ps z;cases z))
   have hp2:=s2 _ _ (s.get (zAJ hp hkj (by intro z;cases z)) hp (by intro ps z;cases z))
   refine⟨p,ns,spot,rest,by rw[zV (zAJ ht2 hw2 (by intro z;cases z))];exact ht2,?_,a,b,c,d,e⟩
   rw[zV (zAJ hp2 hw2 ?_)]
   . exact hp2
   . intro z
     have z':=HO.lst.inj z
     match ns,e.2,z' with
     | x::r,_,z'=>cases z'
end
theorem at2 (f:Nat->Addr){j:Nat}(h:j<2):atI [V.ref (f 0),V.ref (f 1)] (j:Int)=some (.ref (f j)):=by
 match j,h with
 | 0,_=>rfl
 | 1,_=>rfl
theorem ix2 {j:Nat}(h:j<2):ixN 2 (j:Int)=some j:=by
 match j,h with
 | 0,_=>rfl
 | 1,_=>rfl
theorem mod2 (i:Nat):∃j:Nat,(i:Int)%2=(j:Int)/\j<2:=⟨i%2,by omega,by omega⟩
theorem zJd {n x y:Int}{lo:Option Int}{ts ts':List T3}(G:GW n ts)(dk:zCW n ts x y lo)(A:Aft (loP x y) (hiP x y) lo ts ts')(h:ts'.length<61):(zCE (loP x y) (hiP x y) ts).isSome=true\/ts.length<60:=by
 cases e:zCE (loP x y) (hiP x y) ts with
 | some l=>exact .inl rfl
 | none=>
  cases lo with
  | none=>
   have:=dk.st rfl
   rw[e] at this
   cases this
  | some l=>
   right
   have p:=(zJg (a:=loP x y) (b:=hiP x y) G.dis).length_eq
   have q:=A.pm.length_eq
   rw[e,zN] at p
   rw[zN] at q
   simp[zIi] at p q
   omega
theorem zI6 {x:Int}{r l:List Int}(h:(x::r).Perm l):(r++[x]).Perm l:=((List.perm_append_comm (l₁:=r) (l₂:=[x])).trans (List.Perm.refl _)).trans h
section
variable {P:Program}{w:World}{K:PySem.W.Frag}{mg:Str->Option Value}{base:Heap}
theorem zDJ:zAA ["_law_script", "_law_feed_here", "_law_web_here", "_law_orders", "_law_keepers", "_law_webs", "_law_k", "_law_at", "_law_bad", "_law_deed_here"] ["_law_script"] (defScope sLaw):=⟨rfl,rfl,rfl,by decide +kernel,rfl,by decide +kernel,by decide +kernel⟩
set_option maxHeartbeats 16000000 in
theorem ok_law {PT c C fKI fKP fKS fKT fKW fKL cW cT cO e1 e2 e3 e4 e5 e6 e7 e8 e9 e10 e11 g1 g2 g3 g4 g5 g6 g7 g8 g9 g10 g11 f fFe fTk fSa fWe fOd fDe fAf fDo fFw fBd fRf fNk fBo fSs fNu fWi fTo fPl fLg fT fLo fNe fF fLe fBw fNb fIo fBy fLb fIh fEb fWt fWo fPa fBt:Addr}{fdKI fdKP fdKS fdKT fdKW fdKL fd' fdFe fdTk fdSa fdWe fdOd fdDe fdAf fdDo fdFw fdBd fdRf fdNk fdBo fdSs fdNu fdWi fdTo fdPl fdLg fdT fdLo fdNe fdF fdLe fdBw fdNb fdIo fdBy fdLb fdIh fdEb fdWt fdWo fdPa fdBt:FuncData}{tk1 tk2:Tok}(F:Fun K "law" "law" sLaw f fd') (CH:PySem.W.CodeHd base c PT)(hbm:zIg mg base)(T:KC K mg C fKI fKP fKS fKT fKW fKL)
 (FKI:Fun K "__init__" "Keeper.__init__" sKI fKI fdKI) (bKI:zt K fdKI ["self", "web", "order"] []) (FKP:Fun K "put" "Keeper.put" sKP fKP fdKP) (bKP:zt K fdKP ["self", "one", "other", "long"] []) (FKS:Fun K "strike" "Keeper.strike" sKS fKS fdKS) (bKS:zt K fdKS ["self", "one", "other"] [])
 (FKT:Fun K "turn_to" "Keeper.turn_to" sKT fKT fdKT) (bKT:zt K fdKT ["self", "web"] []) (FKW:Fun K "web_now" "Keeper.web_now" sKW fKW fdKW) (bKW:zt K fdKW ["self"] []) (FKL:Fun K "labels_now" "Keeper.labels_now" sKL fKL fdKL) (bKL:zt K fdKL ["self"] [])
 (mML:mg "MOST_LONG" = some (.int 99 tk1)) (mMT:mg "MOST_TIES" = some (.int 60 tk2))
 (ET:ErrG K mg "NoTie" nsT cW cT [e1,e2,e3,e4,e5,e6,e7,e8,e9,e10,e11]) (EO:ErrG K mg "NoOrder" nsO cW cO [g1,g2,g3,g4,g5,g6,g7,g8,g9,g10,g11])
 (FFe:Fun K "_law_feed" "_law_feed" zIz fFe fdFe) (bFe:zt K fdFe ["_law_script"] []) (mFe:mg "_law_feed" = some (.ref fFe))
 (FTk:Fun K "_law_take" "_law_take" zDy fTk fdTk) (bTk:zt K fdTk ["_law_feed_here", "_law_many"] []) (mTk:mg "_law_take" = some (.ref fTk))
 (FSa:Fun K "_law_same" "_law_same" zFv fSa fdSa) (bSa:zt K fdSa ["_law_found", "_law_due"] []) (mSa:mg "_law_same" = some (.ref fSa))
 (FWe:Fun K "_law_web" "_law_web" zFu fWe fdWe) (bWe:zt K fdWe ["_law_feed_here", "_law_most"] []) (mWe:mg "_law_web" = some (.ref fWe))
 (FOd:Fun K "_law_order" "_law_order" zIx fOd fdOd) (bOd:zt K fdOd ["_law_feed_here", "_law_many"] []) (mOd:mg "_law_order" = some (.ref fOd))
 (FDe:Fun K "_law_deed" "_law_deed" zI0 fDe fdDe) (bDe:zt K fdDe ["_law_feed_here", "_law_web_here"] []) (mDe:mg "_law_deed" = some (.ref fDe))
 (FAf:Fun K "_law_after" "_law_after" sAft fAf fdAf) (bAf:zt K fdAf ["_law_web_here", "_law_deed_here"] []) (mAf:mg "_law_after" = some (.ref fAf))
 (FDo:Fun K "_law_done" "_law_done" zGk fDo fdDo) (bDo:zt K fdDo ["_law_keeper", "_law_deed_here"] []) (mDo:mg "_law_done" = some (.ref fDo))
 (FFw:Fun K "_law_full_web" "_law_full_web" zIy fFw fdFw) (bFw:zt K fdFw ["_law_feed_here"] []) (mFw:mg "_law_full_web" = some (.ref fFw))
 (FBd:Fun K "_law_bad_deeds" "_law_bad_deeds" zI3 fBd fdBd) (bBd:zt K fdBd ["_law_feed_here", "_law_web_here"] []) (mBd:mg "_law_bad_deeds" = some (.ref fBd))
 (FRf:Fun K "_law_refused" "_law_refused" zIw fRf fdRf) (bRf:zt K fdRf ["_law_keeper", "_law_deed_here"] []) (mRf:mg "_law_refused" = some (.ref fRf))
 (FNk:Fun K "_law_no_keeper" "_law_no_keeper" sNoK fNk fdNk) (bNk:zt K fdNk ["_law_web_here", "_law_thing"] []) (mNk:mg "_law_no_keeper" = some (.ref fNk))
 (FBo:Fun K "_law_bad_orders" "_law_bad_orders" zI2 fBo fdBo) (bBo:zt K fdBo ["_law_order_here"] []) (mBo:mg "_law_bad_orders" = some (.ref fBo))
 (FSs:Fun K "_law_stands" "_law_stands" zEd fSs fdSs) (bSs:zt K fdSs ["_law_keeper", "_law_web_here", "_law_order_here"] []) (mSs:mg "_law_stands" = some (.ref fSs))
 (FNu:Fun K "is_number" "is_number" zKt fNu fdNu) (bNu:zt K fdNu ["thing"] []) (mNu:mg "is_number" = some (.ref fNu))
 (FWi:Fun K "is_within" "is_within" sWi fWi fdWi) (bWi:zt K fdWi ["thing", "least", "most"] []) (mWi:mg "is_within" = some (.ref fWi))
 (FTo:Fun K "is_tuple_of" "is_tuple_of" sTof fTo fdTo) (bTo:zt K fdTo ["thing", "count"] []) (mTo:mg "is_tuple_of" = some (.ref fTo))
 (FPl:Fun K "is_place" "is_place" sPl fPl fdPl) (bPl:zt K fdPl ["n", "thing"] []) (mPl:mg "is_place" = some (.ref fPl))
 (FLg:Fun K "is_long" "is_long" sIsL fLg fdLg) (bLg:zt K fdLg ["thing"] []) (mLg:mg "is_long" = some (.ref fLg))
 (FT:Fun K "ties_at" "ties_at" zFB fT fdT) (bT:zt K fdT ["web", "place"] []) (mT:mg "ties_at" = some (.ref fT))
 (FLo:Fun K "long_of" "long_of" zFC fLo fdLo) (bLo:zt K fdLo ["web", "one", "other"] []) (mLo:mg "long_of" = some (.ref fLo))
 (FNe:zJl K "nearest" "nearest" zHO fNe fdNe c) (bNe:zt K fdNe ["waiting"] []) (mNe:mg "nearest" = some (.ref fNe))
 (FF:Fun K "lengths_from" "lengths_from" zHQ fF fdF) (bF:zt K fdF ["web", "start"] []) (mF:mg "lengths_from" = some (.ref fF))
 (FLe:Fun K "lengths" "lengths" zHP fLe fdLe) (bLe:zt K fdLe ["web"] []) (mLe:mg "lengths" = some (.ref fLe))
 (FBw:Fun K "between_rows" "between_rows" sBwr fBw fdBw) (bBw:zt K fdBw ["here", "there", "other"] []) (mBw:mg "between_rows" = some (.ref fBw))
 (FNb:Fun K "next_by_row" "next_by_row" sNbr fNb fdNb) (bNb:zt K fdNb ["web", "one", "there"] []) (mNb:mg "next_by_row" = some (.ref fNb))
 (FIo:Fun K "is_order" "is_order" sOrd fIo fdIo) (bIo:zt K fdIo ["web", "thing"] []) (mIo:mg "is_order" = some (.ref fIo))
 (FBy:Fun K "by_order" "by_order" zI1 fBy fdBy) (bBy:zt K fdBy ["web", "order"] []) (mBy:mg "by_order" = some (.ref fBy))
 (FLb:Fun K "label_by_ranks" "label_by_ranks" sLbr fLb fdLb) (bLb:zt K fdLb ["web", "rows", "ranks", "place"] []) (mLb:mg "label_by_ranks" = some (.ref fLb))
 (FIh:Fun K "is_hub" "is_hub" sIsh fIh fdIh) (bIh:zt K fdIh ["rows", "ranks", "hub", "place"] []) (mIh:mg "is_hub" = some (.ref fIh))
 (FEb:Fun K "entry_by_rows" "entry_by_rows" sEbr fEb fdEb) (bEb:zt K fdEb ["web", "rows", "place", "hub"] []) (mEb:mg "entry_by_rows" = some (.ref fEb))
 (FWt:Fun K "with_tie" "with_tie" zFt fWt fdWt) (bWt:zt K fdWt ["web", "one", "other", "long"] []) (mWt:mg "with_tie" = some (.ref fWt))
 (FWo:Fun K "without_tie" "without_tie" zFs fWo fdWo) (bWo:zt K fdWo ["web", "one", "other"] []) (mWo:mg "without_tie" = some (.ref fWo))
 (FPa:Fun K "pair_of" "pair_of" zEe fPa fdPa) (bPa:zt K fdPa ["web", "one", "other"] []) (mPa:mg "pair_of" = some (.ref fPa))
 (FBt:Fun K "ties_but" "ties_but" sBut fBt fdBt) (bBt:zt K fdBt ["web", "pair"] []) (mBt:mg "ties_but" = some (.ref fBt))
 (mLen:mg "len" = none) (mRange:mg "range" = none) (mTuple:mg "tuple" = none) (mSorted:mg "sorted" = none) (mMin:mg "min" = none) (mMax:mg "max" = none) (mList:mg "list" = none) (mIsi:mg "isinstance" = none) (mInt:mg "int" = none) (mBool:mg "bool" = none) (mAll:mg "all" = none) (mSet:mg "set" = none) (mZip:mg "zip" = none) (mStr:mg "str" = none) (mVal:mg "ValueError" = none):zy P w K mg base CX0 13 f fd' ["_law_script"] (zIs K PT):=by
 have GFe:zy P w K mg base CX0 12 fFe fdFe ["_law_script"] (zJt K):=(zLS FFe mInt).mono (by decide)
 have GTk:zy P w K mg base CX0 12 fTk fdTk ["_law_feed_here", "_law_many"] zHD:=(zHj FTk mLen).mono (by decide)
 have GWe:zy P w K mg base CX0 12 fWe fdWe ["_law_feed_here", "_law_most"] zJo:=(zLH FWe FTk bTk mTk mLen mRange mTuple mSorted).mono (by decide)
 have GOd:zy P w K mg base CX0 12 fOd fdOd ["_law_feed_here", "_law_many"] zJq:=(zLL FOd FTk bTk mTk mLen mRange mList mTuple).mono (by decide)
 have GF:zy P w K mg base CX0 3 fF fdF ["web", "start"] (zHF PT):=zLR FF FNe bNe mNe FT bT mT CH hbm mMin mSorted mTuple
 have GLe:zy P w K mg base CX0 5 fLe fdLe ["web"] (zHE PT):=(zLO FLe FF bF mF GF mRange mTuple).mono (by decide)
 have GPl:zy P w K mg base CX0 3 fPl fdPl ["n", "thing"] spPl:=ok_pl FPl FWi bWi mWi FNu bNu mNu mIsi mInt mBool
 have GTo:zy P w K mg base CX0 3 fTo fdTo ["thing", "count"] zKY:=(ok_tof FTo mIsi mTuple mLen).mono (by decide)
 have GOG:zy P w K mg base CX0 5 fIo fdIo ["web", "thing"] zGH:=(zLK FIo FTo bTo mTo GTo FPl bPl mPl GPl mLen mAll mSet).mono (by decide)
 have GIo:zy P w K mg base CX0 5 fIo fdIo ["web", "thing"] zKZ:=zHn GOG
 have GIh:zy P w K mg base CX0 4 fIh fdIh ["rows", "ranks", "hub", "place"] zKe:=(ok_ish FIh FBw bBw mBw mRange mTuple mLen mAll).mono (by decide)
 have GEb:zy P w K mg base CX0 4 fEb fdEb ["web", "rows", "place", "hub"] zKg:=ok_ebr FEb FNb bNb mNb FT bT mT mSorted mTuple mMin
 have GLb:zy P w K mg base CX0 5 fLb fdLb ["web", "rows", "ranks", "place"] zKa:=ok_lbr FLb FIh bIh mIh GIh FEb bEb mEb GEb mRange mTuple
 have GBy:zy P w K mg base CX0 6 fBy fdBy ["web", "order"] (zHH PT):=ok_byo FBy FIo bIo mIo GIo FLe bLe mLe GLe FLb bLb mLb GLb mRange mTuple
 have GByR:zy P w K mg base (CXO P w) 6 fBy fdBy ["web", "order"] (zHG cO):=zLV FBy FIo bIo mIo GOG EO.mR EO.qR
 have GLo:zy P w K mg base CX0 4 fLo fdLo ["web", "one", "other"] zEE:=(zLN FLo FT bT mT mSorted).mono (by decide)
 have GLgG:zy P w K mg base CX0 4 fLg fdLg ["thing"] zGI:=(zLP FLg FWi bWi mWi FNu bNu mNu mIsi mInt mBool mML).mono (by decide)
 have GLg:zy P w K mg base CX0 4 fLg fdLg ["thing"] zKf:=zHo GLgG
 have GPa:zy P w K mg base CX0 4 fPa fdPa ["web", "one", "other"] zED:=zLJ (fW:=fWi) (fN:=fNu) (fdW:=fdWi) (fdN:=fdNu) FPa FPl bPl mPl (zHm GPl) mMin mMax
 have GPaR:zy P w K mg base (CXO P w) 4 fPa fdPa ["web", "one", "other"] (zEa cT):=zJM FPa FPl bPl mPl GPl ET.mR ET.qR
 have GWt:zy P w K mg base CX0 7 fWt fdWt ["web", "one", "other", "long"] zHC:=(zLG FWt FPa bPa mPa GPa FLg bLg mLg GLg FLo bLo mLo GLo FBt bBt mBt mMT mLen mTuple mSorted).mono (by decide)
 have GWo:zy P w K mg base CX0 7 fWo fdWo ["web", "one", "other"] zHB:=(zLF FWo FPa bPa mPa GPa FLo bLo mLo GLo FBt bBt mBt mTuple).mono (by decide)
 have GWtR:zy P w K mg base (CXO P w) 7 fWt fdWt ["web", "one", "other", "long"] (zFq cT):=(zJK FWt FPa bPa mPa GPa GPaR FLg bLg mLg GLgG FLo bLo mLo GLo ET.mR ET.qR mMT mLen).mono (by decide)
 have GWoR:zy P w K mg base (CXO P w) 7 fWo fdWo ["web", "one", "other"] (zFp cT):=(zJJ FWo FPa bPa mPa GPa GPaR FLo bLo mLo GLo ET.mR ET.qR).mono (by decide)
 have GKI:zy P w K mg base CX0 7 fKI fdKI ["self", "web", "order"] (spKI C PT):=ok_KI T FKI FBy bBy mBy GBy
 have GKIR:zy P w K mg base (CXO P w) 7 fKI fdKI ["self", "web", "order"] (zKd C cO):=ok_KIR T FKI FBy bBy mBy GByR
 have GKT:zy P w K mg base CX0 7 fKT fdKT ["self", "web"] (spKT C PT):=ok_KT T FKT FBy bBy mBy GBy mRange mTuple
 have GKP:zy P w K mg base CX0 8 fKP fdKP ["self", "one", "other", "long"] (spKP C PT):=ok_KP T FKP FWt bWt mWt GWt bKT GKT
 have GKS:zy P w K mg base CX0 8 fKS fdKS ["self", "one", "other"] (spKS C PT):=ok_KS T FKS FWo bWo mWo GWo bKT GKT
 have GKPR:zy P w K mg base (CXO P w) 8 fKP fdKP ["self", "one", "other", "long"] (zKc C cT):=ok_KPR T FKP FWt bWt mWt GWtR bKT GKT
 have GKSR:zy P w K mg base (CXO P w) 8 fKS fdKS ["self", "one", "other"] (zKb C cT):=ok_KSR T FKS FWo bWo mWo GWoR bKT GKT
 have GDo:zy P w K mg base CX0 12 fDo fdDo ["_law_keeper", "_law_deed_here"] (zJu C PT):=(zLT T FDo bKP GKP bKS GKS).mono (by decide)
 have GDoR:zy P w K mg base (CXO P w) 9 fDo fdDo ["_law_keeper", "_law_deed_here"] (zFr C cT):=zJN T FDo bKP GKPR bKS GKSR
 have GRf:zy P w K mg base CX0 12 fRf fdRf ["_law_keeper", "_law_deed_here"] (zJp C):=(zLI FRf FDo bDo mDo GDoR ET mIsi mVal).mono (by decide)
 have GNk:zy P w K mg base CX0 12 fNk fdNk ["_law_web_here", "_law_thing"] spNoK:=(ok_noK T FNk bKI GKIR EO mIsi mVal).mono (by decide)
 have GDe:zy P w K mg base CX0 12 fDe fdDe ["_law_feed_here", "_law_web_here"] zJv:=(zLU FDe FTk bTk mTk mLen).mono (by decide)
 have GAf:zy P w K mg base CX0 12 fAf fdAf ["_law_web_here", "_law_deed_here"] spAft:=(ok_aft FAf mMin mMax mTuple mSorted).mono (by decide)
 have GFw:zy P w K mg base CX0 12 fFw fdFw ["_law_feed_here"] zJs:=(zLQ FFw FTk bTk mTk mLen mRange mTuple).mono (by decide)
 have GBd:zy P w K mg base CX0 12 fBd fdBd ["_law_feed_here", "_law_web_here"] zJx:=(zLX FBd FTk bTk mTk mLen mMin mMax).mono (by decide)
 have GBo:zy P w K mg base CX0 12 fBo fdBo ["_law_order_here"] zJw:=(zLW FBo mLen mList mTuple mStr).mono (by decide)
 have GS4:zy P w K mg base CX0 6 fSa fdSa ["_law_found", "_law_due"] (spSm 4):=(zGS FSa bSa mSa mIsi mTuple mList mBool mLen mZip 4).mono (by decide)
 have GSs:zy P w K mg base CX0 12 fSs fdSs ["_law_keeper", "_law_web_here", "_law_order_here"] (zGG C PT):=(zHk T FSs bKW ((ok_KW T FKW).mono (by decide)) bKL ((ok_KL T FKL).mono (by decide)) FSa bSa mSa GS4 FBy bBy mBy GBy).mono (by decide)
 refine F.ok zDJ (fun vs H Q E h=>?_) (fun cdv A outer s H vs Q E hr h=>?_)
 . obtain⟨a,ns,rfl,_⟩:=h
   rfl
 . obtain⟨a,ns,rfl,hS,hlen,hPT,kF⟩:=h
   refine⟨_,zO (zAK (i:=1) zDJ.nd rfl (Or.inl rfl) (zg GFe hr rfl mFe FFe.kp bFe .nil zAI (zB (pv 0) zK)))
    (zO (zAK (i:=2) zDJ.nd rfl (Or.inr rfl) (zg GWe hr rfl mWe FWe.kp bWe .nil zAI (zB (pv 1) (zBM zK))))
    (zO (zAK (i:=2) zDJ.nd rfl (Or.inr rfl) (zAY (zB (zAc zBo (zAC zAR (pv 2) zY (fun _ _=>rfl)) zY) (zB (zAC zAR (pv 2) zY (fun _ _=>rfl)) zK))))
    (zO (zHV (u':=fun (D:zEy) σ H3=>∃(t wa:Addr)(n:Int)(ts:List T3)(N:Nat),σ=[some (.ref a),some (.ref t),some (.ref wa),none,none,none,none,none,none,none]/\N<500/\zAf H3 t N/\Tb H3 PT/\zAe H3 wa n ts/\zEW ts/\2<=n/\n<=6 /\
     ∀(wb:Addr)(n':Int)(ts':List T3)(H':Hp),zAf H' t (N+101)->Tb H' PT->zAe H' wb n' ts'->zEW ts'->2<=n'->n'<=12->ts'.length<=60->D.nx [some (.ref a),some (.ref t),some (.ref wb),none,none,none,none,none,none,none] H')
     (zBK (zAG zCD (zg GTk hr rfl mTk FTk.kp bTk .nil zAI (zB (pv 1) (zBM zK))) zY (zAN _)) (zX (zAK (i:=2) zDJ.nd rfl (Or.inr rfl) (zg GFw hr rfl mFw FFw.kp bFw .nil zAI (zB (pv 1) zK)))) zAO) (fun D σ H3 z=>by
      obtain⟨t,wa,n,ts,N,rfl,hN,T3,B3,W3,sr,h2,h6,z⟩:=z
      refine⟨_,rfl,t,N,6,rfl,T3,by omega,by decide,by decide,fun r H4 r0 r1 T4 he4=>?_⟩
      have B4:Tb H4 PT:=zE6 B3 T3 (zB7 he4)
      refine⟨rfl,_,rfl,?_⟩
      refine zDL (fun cc=>?_) (fun cc=>?_)
      . refine⟨_,rfl,t,_,rfl,T4,by omega,fun wb ts' H5 W5 sr5 h60 T5 s5=>?_⟩
        exact z wb 12 ts' H5 (T5.mono (by omega)) (zE6 B4 T4 s5) W5 sr5 (by decide) (by decide) (by omega)
      . obtain⟨p,nn,spot,rest,ht,_⟩:=T3
        have W4:zAe H4 wa n ts:=W3.keepT fun b ys e=>by rw[he4 b (zAJ e ht (by intro z;cases z))];exact e
        obtain⟨_,_,_,_,_,G⟩:=id W4
        have:=GW.few G (by omega)
        exact z wa n ts H4 (T4.mono (by omega)) B4 W4 sr h2 (by omega) (by omega)))
    (zO (zAK (i:=3) zDJ.nd rfl (Or.inl rfl) (zBF (zB (zg GOd hr rfl mOd FOd.kp bOd .nil zAI (zB (pv 1) (zB (zAC zAR (pv 2) zY (fun _ _=>rfl)) zK))) zK)))
    (zO (zBp (zC4 PySem.F.plainAttrs_list PySem.F.slot_list_append PySem.F.type_list_append zBw (pv 3) (zB (zAc zCM (zBg zBz (zAC zAV (pv 3) zY (fun _ _=>rfl)) (zBq zY) zB0) (zBg zBz (zAC zAV (pv 3) zY (fun _ _=>rfl)) zB0 (zBq zY))) zK)))
    (zO (zC3 (i:=4) (own:=["_law_order_here"]) (cn:=["_law_web_here"]) (ci:=[2]) zDJ.nd rfl (Or.inl rfl) rfl (csc rfl rfl) ⟨rfl,rfl,rfl,trivial⟩ rfl (zBy (pv 3)) (fun _ _ _ _=>zz (i:=0) (zBv rfl) rfl (Or.inl rfl)) (fun _ _ _ _=>zBZ)
     (fun _ _ _ _=>zK4 T.mI (GKI.mono (show 7<=11 by decide)) hr rfl T.mC bKI .nil zAI (zB (pv 1) (zB (pv 0) zK))))
    (zO (zAK (i:=5) zDJ.nd rfl (Or.inl rfl) (zBF (zB (pv 2) (zB (pv 2) zK))))
    (zO (zCf PassesOwn.never rfl (zBe rfl mRange (zB (zAC zAV (zBF (zBM (zBM zK))) (zAc zFy (zAC zAR (pv 2) zY (fun _ _=>rfl)) zY) (fun _ _=>rfl)) zK)) (zz (i:=6) zDJ.nd rfl (Or.inl rfl))
     (zO (zAK (i:=7) zDJ.nd rfl (Or.inl rfl) (zAc zCL (pv 6) zY))
     (zO (zCf PassesOwn.never rfl (zBy (zg GBd hr rfl mBd FBd.kp bBd .nil zAI (zB (pv 1) (zB (zAC zAV (pv 5) (pv 7) (fun _ _=>rfl)) zK)))) (zz (i:=8) zDJ.nd rfl (Or.inl rfl))
      (zX (zBK (zBu (zBd (zg GRf hr rfl mRf FRf.kp bRf .nil zAI (zB (zAC zAV (pv 4) (pv 7) (fun _ _=>rfl)) (zB (pv 8) zK))))) (zX (zAD zCC)) zAO)))
     (zO (zBK (zBu (zBd (zg GSs hr rfl mSs FSs.kp bSs .nil zAI (zB (zAC zAV (pv 4) (pv 7) (fun _ _=>rfl)) (zB (zAC zAV (pv 5) (pv 7) (fun _ _=>rfl)) (zB (zAC zAV (pv 3) (pv 7) (fun _ _=>rfl)) zK)))))) (zX (zAD zCC)) zAO)
     (zO (zAK (i:=9) zDJ.nd rfl (Or.inl rfl) (zg GDe hr rfl mDe FDe.kp bDe .nil zAI (zB (pv 1) (zB (zAC zAV (pv 5) (pv 7) (fun _ _=>rfl)) zK))))
     (zO (zHV (u':=fun (D:zEy) σ H3=>∃(t w2 od kl wsl:Addr)(kp dx oa:Nat->Addr)(n:Int)(os:Nat->List Int)(t2:List T3)(N:Nat)(ts:Nat->List T3)(ess:Nat->List (List En))(la wk wl:Nat->Addr)(j:Nat)(v6 v8:Option V)(da:Addr)(x y:Int)(lo:Option Int),σ=[some (.ref a),some (.ref t),some (.ref w2),some (.ref od),some (.ref kl),some (.ref wsl),v6,some (.int j),v8,some (.ref da)]/\j<2/\LI C PT t w2 od kl wsl kp dx oa n os t2 N ts ess la wk wl H3/\H3 da=some (.tup [.int x,.int y,oV lo])/\zCW n (ts j) x y lo /\
      ∀(ts':Nat->List T3)(ess':Nat->List (List En))(la' wk' wl':Nat->Addr)(H':Hp),LI C PT t w2 od kl wsl kp dx oa n os t2 N ts' ess' la' wk' wl' H'->D.nx [some (.ref a),some (.ref t),some (.ref w2),some (.ref od),some (.ref kl),some (.ref wsl),v6,some (.int j),v8,some (.ref da)] H')
      (zBK (zAG zLA (zn zAS (by rfl) mLen PySem.boot_len (zB (zAC zAR (zg GAf hr rfl mAf FAf.kp bAf .nil zAI (zB (zAC zAV (pv 5) (pv 7) (fun _ _=>rfl)) (zB (pv 9) zK))) zY (fun _ _=>rfl)) zK)) zY (zAN _))
       (zO (zBp (zg GDo hr rfl mDo FDo.kp bDo .nil zAI (zB (zAC zAV (pv 4) (pv 7) (fun _ _=>rfl)) (zB (pv 9) zK))))
       (zX (zDA (zg GAf hr rfl mAf FAf.kp bAf .nil zAI (zB (zAC zAV (pv 5) (pv 7) (fun _ _=>rfl)) (zB (pv 9) zK))) (zFJ (pv 5) (pv 7) zCc)))) zAO) (fun D σ H3 z=>by
       obtain⟨t,w2,od,kl,wsl,kp,dx,oa,n,os,t2,N,ts,ess,la,wk,wl,j,v6,v8,da,x,y,lo,rfl,hj,L,hda,dk,z⟩:=z
       have Kj:=L.ks j hj
       obtain⟨_,_,_,_,_,G⟩:=id (L.ws j hj)
       refine⟨_,rfl,_,rfl,wsl,_,_,_,rfl,rfl,SqL.of L.hw,at2 wl hj,_,rfl,?_⟩
       refine⟨wl j,da,n,ts j,x,y,lo,rfl,L.ws j hj,hda,dk,L.le j hj,fun wb ts' H4 s4 _ W4 A4=>?_⟩
       obtain⟨ta,tys,hwb,hta,TA,G'⟩:=id W4
       have hl4:=TA.length
       rw[zD] at hl4
       refine⟨wb,_,_,.ref ta,rfl,rfl,SqT.of hwb,rfl,ta,_,rfl,.inr (SqT.of hta),_,_,rfl,rfl,_,rfl,?_⟩
       refine zDL (fun cc=>?_) (fun cc=>?_)
       . have h61:ts'.length<61:=by
          have:=of_decide_eq_true cc
          omega
         have L4:=L.same s4
         refine⟨_,rfl,_,rfl,kl,_,_,_,rfl,rfl,SqL.of L4.hk,at2 kp hj,_,rfl,?_⟩
         refine⟨kp j,dx j,la j,wk j,oa j,da,n,x,y,lo,ts j,os j,ess j,rfl,L4.ks j hj,s4 _ _ hda,dk,zJd G dk A4 h61,L.le j hj,L4.tb,fun pb lb wb2 ts5 ess5 H5 s5 tb5 K5 A5 _=>?_⟩
         have e5:ts5=ts':=A5.uniq A4
         subst e5
         have nwk:wsl≠kp j:=zAJ L4.hw (L4.ks j hj).ins (by intro z;cases z)
         have hw5:H5 wsl=some (.lst [.ref (wl 0),.ref (wl 1)]):=s5.get nwk L4.hw (by intro ps z;cases z)
         have tk5:∀b ys,H4 b=some (.tup ys)->H5 b=some (.tup ys):=fun b ys e=>s5.get ((L4.ks j hj).tupK e) e (by intro ps z;cases z)
         refine⟨_,rfl,_,rfl,wsl,_,_,_,rfl,rfl,SqL.of hw5,at2 wl hj,_,rfl,?_⟩
         refine⟨wl j,da,n,ts j,x,y,lo,rfl,(L4.ws j hj).keepT tk5,tk5 _ _ (s4 _ _ hda),dk,L.le j hj,fun wc ts6 H6 s6 _ W6 A6=>?_⟩
         have e6:ts6=ts5:=A6.uniq A5
         subst e6
         refine⟨_,rfl,_,rfl,wsl,_,_,j,rfl,rfl,s6 _ _ hw5,ix2 hj,?_⟩
         exact z _ _ _ _ _ _ (L4.put hj s5 tb5 K5 s6 W6 (by omega))
       . exact z ts ess la wk wl H4 (L.same s4)))
     (zX (zBK (PW.pt (zFD (zBu (zBd (zg GSs hr rfl mSs FSs.kp bSs .nil zAI (zB (zAC zAV (pv 4) zY (fun _ _=>rfl)) (zB (zAC zAV (pv 5) zY (fun _ _=>rfl)) (zB (zAC zAV (pv 3) zY (fun _ _=>rfl)) zK))))))
      (zEJ (zBu (zBd (zg GSs hr rfl mSs FSs.kp bSs .nil zAI (zB (zAC zAV (pv 4) zY (fun _ _=>rfl)) (zB (zAC zAV (pv 5) zY (fun _ _=>rfl)) (zB (zAC zAV (pv 3) zY (fun _ _=>rfl)) zK))))))))) (zX (zAD zCC)) zAO))))))))
    (zX (zAD (zBr zDD zCC (zBS (own:=["_law_thing"]) (cn:=["_law_web_here"]) (ci:=[2]) rfl (csc rfl rfl) ⟨rfl,rfl,rfl,trivial⟩ rfl (zBy (zg GBo hr rfl mBo FBo.kp bBo .nil zAI (zB (zAC zAV (pv 3) zY (fun _ _=>rfl)) zK))) (fun _ _ _ _=>zz (i:=0) (zBv rfl) rfl (Or.inl rfl)) (fun _ _ _ _=>zBZ)
     (fun _ _ _ _=>zg GNk hr rfl mNk FNk.kp bNk .nil zAI (zB (pv 1) (zB (pv 0) zK)))) rfl))))))))))),?_⟩
   refine⟨_,rfl,a,ns,rfl,hS,hlen,fun t H1 ht T1 s1=>?_⟩
   have B1:Tb H1 PT:=⟨#[],s1 _ _ hPT,trivial,.inl rfl⟩
   refine⟨_,rfl,t,_,5,rfl,T1,by omega,by decide,by decide,fun wa n0 ts H3 _ hnm W3 sr T3 s3=>?_⟩
   have B3:Tb H3 PT:=zE6 B1 T1 s3
   obtain⟨ta,tys,hwa,hta,TA,G0⟩:=id W3
   have hn01:=G0.n1
   refine⟨_,rfl,wa,_,_,.int n0,rfl,rfl,SqT.of hwa,rfl,_,_,rfl,rfl,?_⟩
   refine⟨_,rfl,wa,_,_,.ref ta,rfl,rfl,SqT.of hwa,rfl,by show 2<=sizeLine;decide,fun w0 hw0=>?_⟩
   have s4:=zF (o:=.tup [.int (n0+1),.ref ta]) hw0
   have W4:zAe (upd H3 w0 (.tup [.int (n0+1),.ref ta])) w0 (n0+1) ts:=⟨ta,tys,zH,s4 _ _ hta,TA.keep fun b ys e=>s4 _ _ e,gw_up G0 (by omega)⟩
   refine⟨t,w0,n0+1,ts,_,rfl,by decide,T3.keep s4,B3.same s4,W4,sr,by omega,by omega,fun w2 n t2 H5 T5 B5 W5 sr5 hn2 hn12 h60=>?_⟩
   clear W4 s4 W3 T3 B3 s3 G0 TA hwa hta hw0 T1 B1 s1 ht
   obtain⟨ta5,tys5,hw5,_,_,G⟩:=id W5
   refine⟨_,rfl,_,rfl,w2,_,_,.int n,rfl,rfl,SqT.of hw5,rfl,t,_,n,rfl,T5,by omega,by omega,by omega,fun oa0 os0 H6 _ hoa0 hpm T6 s6=>?_⟩
   have B6:Tb H6 PT:=zE6 B5 T5 s6
   have W6:zAe H6 w2 n t2:=W5.keepT fun b ys e=>s6 _ _ (by obtain⟨p,nn,spot,rest,ht,_⟩:=T5;exact zAJ e ht (by intro z;cases z)) e
   refine⟨by show 1<=sizeLine;decide,fun od hod=>?_⟩
   have s7:=zF (o:=.lst [.ref oa0]) hod
   have h7:(upd H6 od (.lst [.ref oa0])) od=some (.lst [.ref oa0]):=zH
   have T7:=T6.keep s7
   have B7:=B6.same s7
   have W7:=W6.keep s7
   have hoa7:=s7 _ _ hoa0
   have not:od≠t:=T6.ne hod
   generalize upd H6 od (.lst [.ref oa0])=H7 at s7 h7 T7 B7 W7 hoa7 ⊢
   have O0:=zJ5 hpm (by omega)
   obtain⟨x0,y0,r0,rfl⟩:=O0.two hn2
   have O1:=zJ5 (zI6 hpm) (by omega)
   have hln0:=O0.ln
   refine⟨_,rfl,.inl ⟨rfl,_,SqL.of h7⟩,?_⟩
   refine⟨_,rfl,od,_,_,.ref oa0,rfl,rfl,SqL.of h7,rfl,_,rfl,oa0,_,rfl,hoa7,fun q1 H8 s8 hq1=>?_⟩
   have c1:zC0 ((x0::y0::r0).map V.int) (some 1) none=(y0::r0).map V.int:=zCO _ _
   rw[c1] at hq1
   refine⟨_,rfl,od,_,_,.ref oa0,rfl,rfl,SqL.of (s8 _ _ h7),rfl,_,rfl,oa0,_,rfl,s8 _ _ hoa7,fun q2 H9 s9 hq2=>?_⟩
   have c2:zC0 ((x0::y0::r0).map V.int) none (some 1)=[V.int x0]:=rfl
   rw[c2] at hq2
   refine⟨q1,q2,_,_,rfl,rfl,s9 _ _ hq1,hq2,zAE (zd (by simp at hln0 ⊢;omega)),fun oa1 H10 s10 hoa1=>?_⟩
   have s710:=s8.trans (s9.trans s10)
   have h10:=s710 _ _ h7
   refine⟨od,_,_,rfl,rfl,h10,zd (by show 1<=100000;decide),?_⟩
   have tk11:∀b ys,H10 b=some (.tup ys)->(upd H10 od (.lst ([.ref oa0]++[.ref oa1]))) b=some (.tup ys):=fun b ys e=>by rw[zV (zAJ e h10 (by intro z;cases z))];exact e
   have T11:zAf (upd H10 od (.lst ([.ref oa0]++[.ref oa1]))) t _:=(T7.keep s710).mvl h10 (fun v hv=>by rw[zi.mp hv];exact⟨_,rfl⟩) not
   have B11:Tb (upd H10 od (.lst ([.ref oa0]++[.ref oa1]))) PT:=zFo (B7.same s710) h10
   have W11:zAe (upd H10 od (.lst ([.ref oa0]++[.ref oa1]))) w2 n t2:=(W7.keep s710).keepT tk11
   have ho0:=tk11 _ _ (s710 _ _ hoa7)
   have ho1:(upd H10 od (.lst ([.ref oa0]++[.ref oa1]))) oa1=some (.tup ((y0::r0++[x0]).map V.int)):=by
    refine tk11 _ _ ?_
    rw[hoa1,zR];rfl
   have hod11:(upd H10 od (.lst ([.ref oa0]++[.ref oa1]))) od=some (.lst [.ref oa0,.ref oa1]):=zH
   generalize upd H10 od (.lst ([.ref oa0]++[.ref oa1]))=H11 at T11 B11 W11 ho0 ho1 hod11 ⊢
   clear tk11 s710 h10 s10 s9 s8 hq1 hq2 hoa1 c1 c2 hoa7 W7 B7 T7 h7 s7 hod W6 B6 T6 s6 hoa0 T5 B5 W5
   have EX:∃(oa:Nat->Addr)(os:Nat->List Int),oa 0=oa0/\oa 1=oa1/\∀i,i<2->H11 (oa i)=some (.tup ((os i).map V.int))/\zGB n (os i):=
    ⟨fun i=>if i=0 then oa0 else oa1,fun i=>if i=0 then x0::y0::r0 else y0::r0++[x0],rfl,rfl,fun i hi=>by
     match i,hi with
     | 0,_=>exact⟨ho0,O0⟩
     | 1,_=>exact⟨ho1,O1⟩⟩
   obtain⟨oa,os,rfl,rfl,OA⟩:=EX
   refine⟨_,rfl,od,rfl,⟨_,SqL.of hod11⟩,[.ref w2],rfl,fun D hD=>?_⟩
   refine zBx (a:=od) (xs:=[.ref (oa 0),.ref (oa 1)]) (fun j zs H12=>j<=2/\∃(kp dx la:Nat->Addr)(ess:Nat->List (List En)),zs=(List.range j).map (fun i=>V.ref (kp i))/\(∀i,i<j->zBB H12 C (kp i) (dx i) (la i) w2 (oa i) n t2 (os i) (ess i))/\(∀i i',i<j->i'<j->i≠i'->kp i≠kp i')/\H12 D=some (.lst zs)/\H12 od=some (.lst [.ref (oa 0),.ref (oa 1)])/\zAf H12 t (400+101+24)/\Tb H12 PT/\zAe H12 w2 n t2/\(∀i,i<2->H12 (oa i)=some (.tup ((os i).map V.int)))/\D≠t/\D≠od)
    ⟨by decide,fun _=>0,fun _=>0,fun _=>0,fun _=>[],rfl,(fun i hi=>absurd hi (Nat.not_lt_zero i)),(fun i _ hi=>absurd hi (Nat.not_lt_zero i)),zH,zF hD _ _ hod11,(T11.keep (zF hD)).mono (by decide),B11.same (zF hD),W11.keep (zF hD),fun i hi=>zF hD _ _ (OA i hi).1,T11.ne hD,(zc hod11 hD).symm⟩ (fun j zs H12 z=>?_) (fun j zs H12 z=>?_) (fun j v zs H12 hv z=>?_) (fun zs H12 z=>?_)
   . obtain⟨_,_,_,_,_,_,_,_,_,h,_⟩:=z
     exact SqL.of h
   . obtain⟨h,_,_,_,_,rfl,_⟩:=z
     rw[zD,zA4]
     exact zd (by omega)
   . obtain⟨_,kp,dx,la,ess,rfl,ks,dj,hD12,hod12,T12,B12,W12,oA,nDt,nDo⟩:=z
     have hj:j<2:=(zL.mp hv).1
     have ev:v = .ref (oa j):=by
      match j,hj,hv with
      | 0,_,hv=>exact (zQ hv).symm
      | 1,_,hv=>exact (zQ hv).symm
     subst ev
     refine⟨⟨rfl,rfl⟩,?_⟩
     refine zFm ?_
     refine⟨_,rfl,_,rfl,fun kn dn hkn hdn ne=>?_⟩
     have hkn':(upd H12 dn (.own kn)) kn=none:=by rw[zV (Ne.symm ne)];exact hkn
     have s13:zAW H12 (upd (upd H12 dn (.own kn)) kn (.ins C dn [])):=(zF (o:=.own kn) hdn).trans (zF (o:=.ins C dn []) hkn')
     refine⟨kn,dn,w2,oa j,n,t2,os j,rfl,zH,W12.keep s13,sr5,s13 _ _ (oA j hj),(OA j hj).2,B12.same s13,fun ln en H14 sm14 tb14 K14=>⟨rfl,?_⟩⟩
     have gt:∀b o,H12 b=some o->(∀ps,o ≠ .tbl ps)->H14 b=some o:=fun b o e q=>sm14.get (zc e hkn) (s13 _ _ e) q
     have hD14:=gt _ _ hD12 (by intro ps z;cases z)
     have tk:∀b ys,H12 b=some (.tup ys)->(upd H14 D (.lst ((List.range j).map (fun i=>V.ref (kp i))++[.ref kn]))) b=some (.tup ys):=fun b ys e=>by
      have e':=gt _ _ e (by intro ps z;cases z)
      rw[zV (zAJ e' hD14 (by intro z;cases z))];exact e'
     have tk14:∀b ys,H14 b=some (.tup ys)->(upd H14 D (.lst ((List.range j).map (fun i=>V.ref (kp i))++[.ref kn]))) b=some (.tup ys):=fun b ys e=>by
      rw[zV (zAJ e hD14 (by intro z;cases z))];exact e
     refine⟨hD14,hj,fun i=>if i=j then kn else kp i,fun i=>if i=j then dn else dx i,fun i=>if i=j then ln else la i,fun i=>if i=j then en else ess i,?_,fun i hi=>?_,fun i i' hi hi' hne=>?_,zH,?_,?_,zFo tb14 hD14,W12.keepT tk,fun i hi=>tk _ _ (oA i hi),nDt,nDo⟩
     . rw[List.range_succ,zR]
       congr 1
       . refine zBQ fun i hi=>?_
         have:=zAu.mp hi
         show V.ref (kp i)=V.ref (if i=j then kn else kp i)
         rw[if_neg (by omega)]
       . show [V.ref kn]=[V.ref (if j=j then kn else kp j)]
         rw[if_pos rfl]
     . by_cases cc:i=j
       . subst cc
         simp only[if_pos]
         exact K14.keep (zV (zAJ K14.ins hD14 (by intro z;cases z))) tk14
       . simp only[if_neg cc]
         have Ki:=ks i (by omega)
         refine Ki.keep ?_ tk
         have e':=gt _ _ Ki.ins (by intro ps z;cases z)
         rw[zV (zAJ e' hD14 (by intro z;cases z)),e',Ki.ins]
     . by_cases cc:i=j
       . subst cc
         simp only[if_pos,if_neg (Ne.symm hne)]
         exact (zc (ks i' (by omega)).ins hkn).symm
       . by_cases cd:i'=j
         . subst cd
           simp only[if_pos,if_neg cc]
           exact zc (ks i (by omega)).ins hkn
         . simp only[if_neg cc,if_neg cd]
           exact dj i i' (by omega) (by omega) hne
     . rw[zV (Ne.symm nDo)];exact gt _ _ hod12 (by intro ps z;cases z)
     . obtain⟨p,FP⟩:=id T12
       have T14:zAf H14 t _:=(T12.keep s13).smK zH sm14
       exact T14.mvl hD14 (fun v hv=>by obtain⟨i,_,e⟩:=zAB.mp hv;exact⟨_,e.symm⟩) nDt
   obtain⟨_,kp,dx,la,ess,rfl,ks,dj,hD12,hod12,T12,B12,W12,oA,nDt,nDo⟩:=z
   refine⟨_,rfl,_,rfl,by show 2<=sizeLine;decide,fun wsl hwsl=>?_⟩
   have s13:=zF (o:=.lst [.ref w2,.ref w2]) hwsl
   have L0:LI C PT t w2 od D wsl kp dx oa n os t2 (400+101+24) (fun _=>t2) ess la (fun _=>w2) (fun _=>w2) (upd H12 wsl (.lst [.ref w2,.ref w2])):=
    ⟨fun i hi=>(ks i hi).same s13,fun i hi=>W12.keep s13,fun i hi=>h60,s13 _ _ hod12,s13 _ _ hD12,zH,zc hod12 hwsl,zc hD12 hwsl,W12.keep s13,T12.keep s13,B12.same s13,dj 0 1 (show 0<2 by decide) (show 1<2 by decide) (by decide)⟩
   generalize upd H12 wsl (.lst [.ref w2,.ref w2])=H13 at L0 ⊢
   clear s13 hwsl ks dj hD12 hod12 T12 B12 W12 oA hD T11 B11 W11 ho0 ho1 hod11
   refine⟨by show 2<=sizeLine;decide,fun l hl=>?_⟩
   have sl:=zF (o:=.lst [.int 4,.int 2]) hl
   have L1:=L0.same sl
   obtain⟨ta1,tys1,hw1,_,_,_⟩:=id L1.w2
   obtain⟨mo,hmo,hat⟩:=zEm (L:=[4,2]) (r:=n/12) (by omega) (by show n/12<2;omega)
   have hmb:1<=mo/\mo<=4:=by
    have:∀m∈([4,2]:List Int),1<=m/\m<=4:=by decide
    exact this mo hmo
   refine⟨_,rfl,w2,_,_,.int n,rfl,rfl,SqT.of hw1,rfl,_,_,rfl,rfl,⟨by decide,by decide⟩,l,_,_,_,rfl,rfl,SqL.of zH,hat,?_⟩
   generalize upd H13 l (.lst [.int 4,.int 2])=H14 at L1 ⊢
   clear L0 sl hw1
   refine⟨mo,rfl,by omega,by omega,zCo (lo:=0) (n:=mo.toNat) (fun q σ H15=>∃(ts:Nat->List T3)(ess:Nat->List (List En))(la wk wl:Nat->Addr)(v6 v7 v8 v9:Option V),σ=[some (.ref a),some (.ref t),some (.ref w2),some (.ref od),some (.ref D),some (.ref wsl),v6,v7,v8,v9]/\LI C PT t w2 od D wsl kp dx oa n os t2 (600+10*q) ts ess la wk wl H15)
    ⟨_,_,_,_,_,_,_,_,_,rfl,L1.to (fun _ _ e=>e) (fun _ _ _ e=>e) (fun _ _ _ _ e=>e) (L1.fd.mono (by omega)) L1.tb⟩ (fun q σ H15 hq z=>?_) (fun σ H15 z=>?_)⟩
   . obtain⟨ts,ess,la,wk,wl,v6,v7,v8,v9,rfl,L⟩:=z
     rw[zBW]
     obtain⟨j,ej,hj⟩:=mod2 q
     refine⟨_,rfl,_,_,rfl,rfl,(show (0:Int)<2 by decide),?_⟩
     dsimp only
     rw[ej]
     refine⟨_,rfl,_,rfl,_,rfl,wsl,_,_,_,rfl,rfl,SqL.of L.hw,at2 wl hj,?_⟩
     refine⟨t,wl j,_,n,ts j,rfl,L.fd,by omega,L.ws j hj,hn2,fun BD ys H16 _ BL hyl T16 s16=>?_⟩
     have L16:=L.sm s16 T16
     refine⟨BD,rfl,⟨_,SqL.of BL.at_⟩,?_⟩
     refine zDO (K:=K) (a:=BD) (xs:=ys) (fun i σ H17=>∃v8:Option V,σ=[some (.ref a),some (.ref t),some (.ref w2),some (.ref od),some (.ref D),some (.ref wsl),some (.int q),some (.int j),v8,v9]/\zAW H16 H17) ⟨_,rfl,zAW.refl _⟩ (fun i σ H17 _ z=>?_) ?turn ?after
     . obtain⟨_,_,s17⟩:=z
       exact SqL.of (s17 _ _ BL.at_)
     case turn=>
      rintro i yv σ H17 hi ⟨v8',rfl,s17⟩
      have L17:=L16.same s17
      obtain⟨da,u1,u2,ul,d1,d2,dl,rfl,hda,S1,S2,S3,bd⟩:=(BL.bad yv (zl hi)).keep (hh_sub (D:=BD) (t:=t))
      refine⟨_,rfl,_,rfl,D,_,_,_,rfl,rfl,SqL.of L17.hk,at2 kp hj,_,rfl,?_⟩
      refine⟨kp j,dx j,la j,wk j,oa j,da,n,ts j,os j,ess j,u1,u2,ul,d1,d2,dl,rfl,L17.ks j hj,s17 _ _ hda,zA7 s17 S1,zA7 s17 S2,zA7 s17 S3,bd,fun H18 s18=>?_⟩
      exact⟨_,rfl,zCR ⟨_,rfl,s17.trans s18⟩⟩
     case after=>
      rintro σ H17 ⟨v8',rfl,s17⟩
      have L17:=L16.same s17
      refine⟨_,rfl,_,rfl,D,_,_,_,rfl,rfl,SqL.of L17.hk,at2 kp hj,_,rfl,_,rfl,wsl,_,_,_,rfl,rfl,SqL.of L17.hw,at2 wl hj,_,rfl,_,rfl,od,_,_,_,rfl,rfl,SqL.of L17.ho,at2 oa hj,?_⟩
      refine⟨kp j,dx j,la j,wk j,oa j,wl j,oa j,n,ts j,os j,ess j,rfl,L17.ks j hj,L17.ws j hj,(L17.ks j hj).ord,L17.tb,fun H18 s18 tb18=>?_⟩
      refine⟨_,rfl,zCR ?_⟩
      have L18:=L17.smT s18 tb18
      refine⟨_,rfl,_,rfl,_,rfl,wsl,_,_,_,rfl,rfl,SqL.of L18.hw,at2 wl hj,?_⟩
      refine⟨t,wl j,_,n,ts j,rfl,L18.fd,by omega,L18.ws j hj,hn2,fun da x y lo H19 hda dk T19 s19=>?_⟩
      have L19:=L18.sm s19 T19
      refine⟨t,w2,od,D,wsl,kp,dx,oa,n,os,t2,_,ts,ess,la,wk,wl,j,_,_,da,x,y,lo,rfl,hj,L19,hda,dk,fun ts' ess' la' wk' wl' H20 L20=>?_⟩
      refine⟨_,rfl,D,_,_,.ref (kp 0),rfl,rfl,SqL.of L20.hk,rfl,_,rfl,wsl,_,_,.ref (wl' 0),rfl,rfl,SqL.of L20.hw,rfl,_,rfl,od,_,_,.ref (oa 0),rfl,rfl,SqL.of L20.ho,rfl,?_⟩
      refine⟨kp 0,dx 0,la' 0,wk' 0,oa 0,wl' 0,oa 0,n,ts' 0,os 0,ess' 0,rfl,L20.ks 0 (by decide),L20.ws 0 (by decide),(L20.ks 0 (by decide)).ord,L20.tb,fun H21 s21 tb21=>?_⟩
      refine⟨_,rfl,zCR ?_⟩
      have L21:=L20.smT s21 tb21
      refine⟨_,rfl,D,_,_,.ref (kp 1),rfl,rfl,SqL.of L21.hk,rfl,_,rfl,wsl,_,_,.ref (wl' 1),rfl,rfl,SqL.of L21.hw,rfl,_,rfl,od,_,_,.ref (oa 1),rfl,rfl,SqL.of L21.ho,rfl,?_⟩
      refine⟨kp 1,dx 1,la' 1,wk' 1,oa 1,wl' 1,oa 1,n,ts' 1,os 1,ess' 1,rfl,L21.ks 1 (by decide),L21.ws 1 (by decide),(L21.ks 1 (by decide)).ord,L21.tb,fun H22 s22 tb22=>?_⟩
      refine⟨_,rfl,zCR ?_⟩
      have L22:=L21.smT s22 tb22
      exact⟨ts',ess',la',wk',wl',_,_,_,_,rfl,L22.to (fun _ _ e=>e) (fun _ _ _ e=>e) (fun _ _ _ _ e=>e) (L22.fd.mono (by omega)) L22.tb⟩
   . obtain⟨ts,ess,la,wk,wl,v6,v7,v8,v9,rfl,L⟩:=z
     have K0:=L.ks 0 (by decide)
     refine⟨_,rfl,od,_,_,.ref (oa 0),rfl,rfl,SqL.of L.ho,rfl,?_⟩
     refine⟨oa 0,n,os 0,rfl,K0.ord,K0.od,hn2,by omega,fun BO ys H16 s16 _ hBO hyl al=>?_⟩
     have W16:=L.w2.keep s16
     refine⟨BO,rfl,⟨_,SqL.of hBO⟩,[.ref w2],rfl,fun DD hDD=>?_⟩
     refine zBx (a:=BO) (xs:=ys) (fun j zs H17=>j<=ys.length/\zs=List.replicate j (V.bl true)/\zAW H16 H17/\H17 DD=some (.lst zs)) ⟨zj _,rfl,zF hDD,zH⟩ (fun j zs H17 z=>?_) (fun j zs H17 z=>?_) (fun j v zs H17 hv z=>?_) (fun zs H17 z=>?_)
     . exact SqL.of (z.2.2.1 _ _ hBO)
     . obtain⟨hi,rfl,_⟩:=z
       rw[zAq]
       exact zd (by omega)
     . obtain⟨_,rfl,s17,h17⟩:=z
       obtain⟨d,Sd,nd⟩:=al v (zl hv)
       refine⟨⟨rfl,rfl⟩,?_⟩
       refine zFm ?_
       refine⟨_,rfl,_,rfl,w2,v,d,n,t2,rfl,W16.keep s17,zA7 s17 Sd,nd,fun H18 s18=>?_⟩
       refine⟨s18 _ _ h17,(zL.mp hv).1,?_,zAy (s17.trans s18) hDD,zH⟩
       rw[List.replicate_succ']
     . obtain⟨_,rfl,s17,h17⟩:=z
       refine⟨DD,_,rfl,.inl (SqL.of h17),rfl,(zDt _).1,?_⟩
       rw[(zDt _).2]
       exact kF _
end
end K65
namespace K65
open PySem L2 WM
noncomputable abbrev sT:String->Str:=Str.ofString
noncomputable abbrev kH:=PyData.keyHash
noncomputable abbrev dE:=DictEntry.mk
noncomputable abbrev vS:=Value.str
noncomputable abbrev vI:=Value.int
noncomputable abbrev vR:=Value.ref
noncomputable abbrev vB:=Value.bool
noncomputable abbrev vN:Value:=Value.none
noncomputable abbrev vT:=Value.type
noncomputable abbrev oM:=Obj.mk
noncomputable abbrev cQ (x:Array Value):Obj:=oM (vT "code") .none (.fields x) #[]
noncomputable abbrev fQ (x:FuncData):Obj:=oM (vT "function") .none (.func x) #[]
noncomputable abbrev fT (x:String)(i:Nat)(m:Value)(c:Nat):Obj:=fQ (.mk (sT x) (sT x) (L2.defArgs (top i)) (FuncBody.stmts (L2.defBody (top i))) (L2.defScope (top i)) 3 [] vN vN vN m .none (vR c) vN 0)
noncomputable abbrev qS (x:String)(n:Nat):Value:=vS (sT x) n
noncomputable abbrev kE (P:Params)(x:String)(n:Nat):Value->DictEntry:=dE (kH P (sT x)) (qS x n)
noncomputable def Kf:Params->PySem.W.Frag:=fun P=>[
(2,oM vN .none (Data.dict #[]) #[]),
(3,oM (vT "dict") .none (Data.dict #[kE P "__name__" 165 (qS "law_labelways_k65_what_keepers_refuse" 727),kE P "__doc__" 166 vN,kE P "__package__" 167 vN,kE P "__loader__" 168 (Value.builtin "__main__.__loader__#opaque"),kE P "__spec__" 169 vN,kE P "__annotations__" 170 (vR 6),kE P "__builtins__" 171 (vR 4),kE P "__file__" 173 (qS "/claim/cut.py" 172),kE P "__cached__" 174 vN,kE P "_wall" 193 (vR 21),kE P "WayError" 213 (vR 31),kE P "NoLabels" 240 (vR 51),kE P "NoLeast" 267 (vR 70),kE P "NoPlan" 294 (vR 89),kE P "NoText" 321 (vR 108),kE P "NoOrder" 337 (vR 120),kE P "NoTree" 353 (vR 132),kE P "NoRing" 369 (vR 144),kE P "NoPosts" 385 (vR 156),kE P "NoTie" 401 (vR 168),kE P "NoPart" 417 (vR 180),kE P "NoRow" 433 (vR 192),kE P "TooMany" 449 (vR 204),kE P "is_number" 458 (vR 213),kE P "is_within" 467 (vR 220),kE P "is_tuple_of" 475 (vR 227),kE P "is_place" 483 (vR 234),kE P "MOST_TIES" 487 (vI 60 486),kE P "MOST_LONG" 489 (vI 99 488),kE P "is_long" 496 (vR 241),kE P "ties_at" 508 (vR 248),kE P "long_of" 519 (vR 255),kE P "lengths" 527 (vR 260),kE P "lengths_from" 541 (vR 267),kE P "nearest" 549 (vR 274),kE P "between_rows" 555 (vR 279),kE P "next_by_row" 561 (vR 284),kE P "is_order" 569 (vR 289),kE P "by_order" 575 (vR 294),kE P "label_by_ranks" 581 (vR 299),kE P "is_hub" 587 (vR 304),kE P "entry_by_rows" 599 (vR 311),kE P "Keeper" 690 (vR 375),kE P "with_tie" 701 (vR 386),kE P "without_tie" 711 (vR 393),kE P "pair_of" 720 (vR 400),kE P "ties_but" 726 (vR 405),kE P "_law_feed" 735 (vR 412),kE P "_law_take" 747 (vR 419),kE P "_law_same" 753 (vR 424),kE P "_law_web" 759 (vR 429),kE P "_law_order" 769 (vR 436),kE P "_law_deed" 782 (vR 443),kE P "_law_after" 788 (vR 448),kE P "_law_done" 796 (vR 455),kE P "_law_full_web" 802 (vR 460),kE P "_law_bad_deeds" 808 (vR 465),kE P "_law_refused" 818 (vR 472),kE P "_law_no_keeper" 828 (vR 479),kE P "_law_bad_orders" 834 (vR 484),kE P "_law_stands" 843 (vR 491),kE P "law" 849 (vR 496)] 62) #[]),
(20,cQ #[qS "_wall" 187,qS "_wall" 188,qS "/claim/cut.py" 189,vI 1 0,vI 1 0,vI 0 0,vI 0 0,vI 3 0,vR 15,vB true,vI 181 0,vR 16,vN,vR 17,vR 18,vR 19,vI 191 0,vI 1 0,qS "/claim/cut.py" 192]),
(21,fT "_wall" 0 (qS "__main__" 164) 20),
(30,oM (vT "dict") .none (Data.dict #[kE P "__module__" 203 (qS "labelways.errors" 194),kE P "__firstlineno__" 207 (vI 5 206),kE P "__static_attributes__" 208 (vR 29),kE P "__weakref__" 210 (vR 32),kE P "__doc__" 211 vN] 3) #[]),
(31,oM (vT "type") .none (Data.cls (ClassData.mk (sT "WayError") [vT "ValueError"] [vR 31,vT "ValueError",vT "Exception",vT "BaseException",vT "object"] 30 (sT "WayError") true [] [vR 51,vR 70,vR 89,vR 108,vR 120,vR 132,vR 144,vR 156,vR 168,vR 180,vR 192,vR 204] false .none false)) #[.some (vR 22),.none,.some (qS "WayError" 196),.some (qS "WayError" 204),.some (Value.builtin "ValueError.__new__"),.some (vB true)]),
(32,oM (vT "getset_descriptor") .none (Data.fields #[qS "__weakref__" 209,vR 31,Value.builtin "ExceptionGroup.__weakref__",vN]) #[]),
(47,cQ #[qS "__init__" 226,qS "NoLabels.__init__" 227,qS "/claim/cut.py" 228,vI 9 0,vI 3 0,vI 0 0,vI 0 0,vI 3 0,vR 42,vB true,vI 181 0,vR 43,vN,vR 44,vR 45,vR 46,vI 232 0,vI 9 0,qS "/claim/cut.py" 233]),
(48,fQ (.mk (sT "__init__") (sT "NoLabels.__init__") (Arguments.mk [] [Arg.mk (sT "self") .none (Pos.mk 9 17 9 21),Arg.mk (sT "word") .none (Pos.mk 9 23 9 27),Arg.mk (sT "at") .none (Pos.mk 9 29 9 31)] .none [] [] .none []) (FuncBody.stmts [Stmt.Assign [Expr.Attribute (Expr.Name (sT "self") (Pos.mk 10 8 10 12)) (sT "word") (Pos.mk 10 8 10 17)] (Expr.Name (sT "word") (Pos.mk 10 20 10 24)) (Pos.mk 10 8 10 24),Stmt.Assign [Expr.Attribute (Expr.Name (sT "self") (Pos.mk 11 8 11 12)) (sT "at") (Pos.mk 11 8 11 15)] (Expr.Name (sT "at") (Pos.mk 11 18 11 20)) (Pos.mk 11 8 11 20)]) (Scope.mk ScopeKind.function [(sT "self",NameKind.local),(sT "word",NameKind.local),(sT "at",NameKind.local)] false false []) 3 [] vN vN vN (qS "labelways.errors" 194) .none (vR 47) vN 0)),
(50,oM (vT "dict") .none (Data.dict #[kE P "__module__" 221 (qS "labelways.errors" 194),kE P "__firstlineno__" 225 (vI 7 224),kE P "__init__" 234 (vR 48),kE P "__static_attributes__" 237 (vR 49),kE P "__doc__" 238 vN] 2) #[]),
(51,oM (vT "type") .none (Data.cls (ClassData.mk (sT "NoLabels") [vR 31] [vR 51,vR 31,vT "ValueError",vT "Exception",vT "BaseException",vT "object"] 50 (sT "NoLabels") true [] [] false .none false)) #[.some (vR 35),.none,.some (qS "NoLabels" 214),.some (qS "NoLabels" 222),.some (Value.builtin "ValueError.__new__"),.some (vB true)]),
(66,cQ #[qS "__init__" 253,qS "NoLeast.__init__" 254,qS "/claim/cut.py" 255,vI 14 0,vI 3 0,vI 0 0,vI 0 0,vI 3 0,vR 61,vB true,vI 181 0,vR 62,vN,vR 63,vR 64,vR 65,vI 259 0,vI 14 0,qS "/claim/cut.py" 260]),
(67,fQ (.mk (sT "__init__") (sT "NoLeast.__init__") (Arguments.mk [] [Arg.mk (sT "self") .none (Pos.mk 14 17 14 21),Arg.mk (sT "word") .none (Pos.mk 14 23 14 27),Arg.mk (sT "at") .none (Pos.mk 14 29 14 31)] .none [] [] .none []) (FuncBody.stmts [Stmt.Assign [Expr.Attribute (Expr.Name (sT "self") (Pos.mk 15 8 15 12)) (sT "word") (Pos.mk 15 8 15 17)] (Expr.Name (sT "word") (Pos.mk 15 20 15 24)) (Pos.mk 15 8 15 24),Stmt.Assign [Expr.Attribute (Expr.Name (sT "self") (Pos.mk 16 8 16 12)) (sT "at") (Pos.mk 16 8 16 15)] (Expr.Name (sT "at") (Pos.mk 16 18 16 20)) (Pos.mk 16 8 16 20)]) (Scope.mk ScopeKind.function [(sT "self",NameKind.local),(sT "word",NameKind.local),(sT "at",NameKind.local)] false false []) 3 [] vN vN vN (qS "labelways.errors" 194) .none (vR 66) vN 0)),
(69,oM (vT "dict") .none (Data.dict #[kE P "__module__" 248 (qS "labelways.errors" 194),kE P "__firstlineno__" 252 (vI 12 251),kE P "__init__" 261 (vR 67),kE P "__static_attributes__" 264 (vR 68),kE P "__doc__" 265 vN] 2) #[]),
(70,oM (vT "type") .none (Data.cls (ClassData.mk (sT "NoLeast") [vR 31] [vR 70,vR 31,vT "ValueError",vT "Exception",vT "BaseException",vT "object"] 69 (sT "NoLeast") true [] [] false .none false)) #[.some (vR 54),.none,.some (qS "NoLeast" 241),.some (qS "NoLeast" 249),.some (Value.builtin "ValueError.__new__"),.some (vB true)]),
(85,cQ #[qS "__init__" 280,qS "NoPlan.__init__" 281,qS "/claim/cut.py" 282,vI 19 0,vI 3 0,vI 0 0,vI 0 0,vI 3 0,vR 80,vB true,vI 181 0,vR 81,vN,vR 82,vR 83,vR 84,vI 286 0,vI 19 0,qS "/claim/cut.py" 287]),
(86,fQ (.mk (sT "__init__") (sT "NoPlan.__init__") (Arguments.mk [] [Arg.mk (sT "self") .none (Pos.mk 19 17 19 21),Arg.mk (sT "word") .none (Pos.mk 19 23 19 27),Arg.mk (sT "at") .none (Pos.mk 19 29 19 31)] .none [] [] .none []) (FuncBody.stmts [Stmt.Assign [Expr.Attribute (Expr.Name (sT "self") (Pos.mk 20 8 20 12)) (sT "word") (Pos.mk 20 8 20 17)] (Expr.Name (sT "word") (Pos.mk 20 20 20 24)) (Pos.mk 20 8 20 24),Stmt.Assign [Expr.Attribute (Expr.Name (sT "self") (Pos.mk 21 8 21 12)) (sT "at") (Pos.mk 21 8 21 15)] (Expr.Name (sT "at") (Pos.mk 21 18 21 20)) (Pos.mk 21 8 21 20)]) (Scope.mk ScopeKind.function [(sT "self",NameKind.local),(sT "word",NameKind.local),(sT "at",NameKind.local)] false false []) 3 [] vN vN vN (qS "labelways.errors" 194) .none (vR 85) vN 0)),
(88,oM (vT "dict") .none (Data.dict #[kE P "__module__" 275 (qS "labelways.errors" 194),kE P "__firstlineno__" 279 (vI 17 278),kE P "__init__" 288 (vR 86),kE P "__static_attributes__" 291 (vR 87),kE P "__doc__" 292 vN] 2) #[]),
(89,oM (vT "type") .none (Data.cls (ClassData.mk (sT "NoPlan") [vR 31] [vR 89,vR 31,vT "ValueError",vT "Exception",vT "BaseException",vT "object"] 88 (sT "NoPlan") true [] [] false .none false)) #[.some (vR 73),.none,.some (qS "NoPlan" 268),.some (qS "NoPlan" 276),.some (Value.builtin "ValueError.__new__"),.some (vB true)]),
(104,cQ #[qS "__init__" 307,qS "NoText.__init__" 308,qS "/claim/cut.py" 309,vI 24 0,vI 3 0,vI 0 0,vI 0 0,vI 3 0,vR 99,vB true,vI 181 0,vR 100,vN,vR 101,vR 102,vR 103,vI 313 0,vI 24 0,qS "/claim/cut.py" 314]),
(105,fQ (.mk (sT "__init__") (sT "NoText.__init__") (Arguments.mk [] [Arg.mk (sT "self") .none (Pos.mk 24 17 24 21),Arg.mk (sT "line") .none (Pos.mk 24 23 24 27),Arg.mk (sT "word") .none (Pos.mk 24 29 24 33)] .none [] [] .none []) (FuncBody.stmts [Stmt.Assign [Expr.Attribute (Expr.Name (sT "self") (Pos.mk 25 8 25 12)) (sT "line") (Pos.mk 25 8 25 17)] (Expr.Name (sT "line") (Pos.mk 25 20 25 24)) (Pos.mk 25 8 25 24),Stmt.Assign [Expr.Attribute (Expr.Name (sT "self") (Pos.mk 26 8 26 12)) (sT "word") (Pos.mk 26 8 26 17)] (Expr.Name (sT "word") (Pos.mk 26 20 26 24)) (Pos.mk 26 8 26 24)]) (Scope.mk ScopeKind.function [(sT "self",NameKind.local),(sT "line",NameKind.local),(sT "word",NameKind.local)] false false []) 3 [] vN vN vN (qS "labelways.errors" 194) .none (vR 104) vN 0)),
(107,oM (vT "dict") .none (Data.dict #[kE P "__module__" 302 (qS "labelways.errors" 194),kE P "__firstlineno__" 306 (vI 22 305),kE P "__init__" 315 (vR 105),kE P "__static_attributes__" 318 (vR 106),kE P "__doc__" 319 vN] 2) #[]),
(108,oM (vT "type") .none (Data.cls (ClassData.mk (sT "NoText") [vR 31] [vR 108,vR 31,vT "ValueError",vT "Exception",vT "BaseException",vT "object"] 107 (sT "NoText") true [] [] false .none false)) #[.some (vR 92),.none,.some (qS "NoText" 295),.some (qS "NoText" 303),.some (Value.builtin "ValueError.__new__"),.some (vB true)]),
(119,oM (vT "dict") .none (Data.dict #[kE P "__module__" 329 (qS "labelways.errors" 194),kE P "__firstlineno__" 333 (vI 27 332),kE P "__static_attributes__" 334 (vR 118),kE P "__doc__" 335 vN] 2) #[]),
(120,oM (vT "type") .none (Data.cls (ClassData.mk (sT "NoOrder") [vR 31] [vR 120,vR 31,vT "ValueError",vT "Exception",vT "BaseException",vT "object"] 119 (sT "NoOrder") true [] [] false .none false)) #[.some (vR 111),.none,.some (qS "NoOrder" 322),.some (qS "NoOrder" 330),.some (Value.builtin "ValueError.__new__"),.some (vB true)]),
(131,oM (vT "dict") .none (Data.dict #[kE P "__module__" 345 (qS "labelways.errors" 194),kE P "__firstlineno__" 349 (vI 29 348),kE P "__static_attributes__" 350 (vR 130),kE P "__doc__" 351 vN] 2) #[]),
(132,oM (vT "type") .none (Data.cls (ClassData.mk (sT "NoTree") [vR 31] [vR 132,vR 31,vT "ValueError",vT "Exception",vT "BaseException",vT "object"] 131 (sT "NoTree") true [] [] false .none false)) #[.some (vR 123),.none,.some (qS "NoTree" 338),.some (qS "NoTree" 346),.some (Value.builtin "ValueError.__new__"),.some (vB true)]),
(143,oM (vT "dict") .none (Data.dict #[kE P "__module__" 361 (qS "labelways.errors" 194),kE P "__firstlineno__" 365 (vI 31 364),kE P "__static_attributes__" 366 (vR 142),kE P "__doc__" 367 vN] 2) #[]),
(144,oM (vT "type") .none (Data.cls (ClassData.mk (sT "NoRing") [vR 31] [vR 144,vR 31,vT "ValueError",vT "Exception",vT "BaseException",vT "object"] 143 (sT "NoRing") true [] [] false .none false)) #[.some (vR 135),.none,.some (qS "NoRing" 354),.some (qS "NoRing" 362),.some (Value.builtin "ValueError.__new__"),.some (vB true)]),
(155,oM (vT "dict") .none (Data.dict #[kE P "__module__" 377 (qS "labelways.errors" 194),kE P "__firstlineno__" 381 (vI 33 380),kE P "__static_attributes__" 382 (vR 154),kE P "__doc__" 383 vN] 2) #[]),
(156,oM (vT "type") .none (Data.cls (ClassData.mk (sT "NoPosts") [vR 31] [vR 156,vR 31,vT "ValueError",vT "Exception",vT "BaseException",vT "object"] 155 (sT "NoPosts") true [] [] false .none false)) #[.some (vR 147),.none,.some (qS "NoPosts" 370),.some (qS "NoPosts" 378),.some (Value.builtin "ValueError.__new__"),.some (vB true)]),
(167,oM (vT "dict") .none (Data.dict #[kE P "__module__" 393 (qS "labelways.errors" 194),kE P "__firstlineno__" 397 (vI 35 396),kE P "__static_attributes__" 398 (vR 166),kE P "__doc__" 399 vN] 2) #[]),
(168,oM (vT "type") .none (Data.cls (ClassData.mk (sT "NoTie") [vR 31] [vR 168,vR 31,vT "ValueError",vT "Exception",vT "BaseException",vT "object"] 167 (sT "NoTie") true [] [] false .none false)) #[.some (vR 159),.none,.some (qS "NoTie" 386),.some (qS "NoTie" 394),.some (Value.builtin "ValueError.__new__"),.some (vB true)]),
(179,oM (vT "dict") .none (Data.dict #[kE P "__module__" 409 (qS "labelways.errors" 194),kE P "__firstlineno__" 413 (vI 37 412),kE P "__static_attributes__" 414 (vR 178),kE P "__doc__" 415 vN] 2) #[]),
(180,oM (vT "type") .none (Data.cls (ClassData.mk (sT "NoPart") [vR 31] [vR 180,vR 31,vT "ValueError",vT "Exception",vT "BaseException",vT "object"] 179 (sT "NoPart") true [] [] false .none false)) #[.some (vR 171),.none,.some (qS "NoPart" 402),.some (qS "NoPart" 410),.some (Value.builtin "ValueError.__new__"),.some (vB true)]),
(191,oM (vT "dict") .none (Data.dict #[kE P "__module__" 425 (qS "labelways.errors" 194),kE P "__firstlineno__" 429 (vI 39 428),kE P "__static_attributes__" 430 (vR 190),kE P "__doc__" 431 vN] 2) #[]),
(192,oM (vT "type") .none (Data.cls (ClassData.mk (sT "NoRow") [vR 31] [vR 192,vR 31,vT "ValueError",vT "Exception",vT "BaseException",vT "object"] 191 (sT "NoRow") true [] [] false .none false)) #[.some (vR 183),.none,.some (qS "NoRow" 418),.some (qS "NoRow" 426),.some (Value.builtin "ValueError.__new__"),.some (vB true)]),
(203,oM (vT "dict") .none (Data.dict #[kE P "__module__" 441 (qS "labelways.errors" 194),kE P "__firstlineno__" 445 (vI 41 444),kE P "__static_attributes__" 446 (vR 202),kE P "__doc__" 447 vN] 2) #[]),
(204,oM (vT "type") .none (Data.cls (ClassData.mk (sT "TooMany") [vR 31] [vR 204,vR 31,vT "ValueError",vT "Exception",vT "BaseException",vT "object"] 203 (sT "TooMany") true [] [] false .none false)) #[.some (vR 195),.none,.some (qS "TooMany" 434),.some (qS "TooMany" 442),.some (Value.builtin "ValueError.__new__"),.some (vB true)]),
(212,cQ #[qS "is_number" 452,qS "is_number" 453,qS "/claim/cut.py" 454,vI 44 0,vI 1 0,vI 0 0,vI 0 0,vI 3 0,vR 207,vB true,vI 181 0,vR 208,vN,vR 209,vR 210,vR 211,vI 456 0,vI 44 0,qS "/claim/cut.py" 457]),
(213,fQ (.mk (sT "is_number") (sT "is_number") (L2.defArgs (top 16)) (FuncBody.stmts (L2.defBody (top 16))) (L2.defScope (top 16)) 3 [] vN vN vN (qS "labelways.kinds" 450) .none (vR 212) vN 0)),
(219,cQ #[qS "is_within" 459,qS "is_within" 460,qS "/claim/cut.py" 461,vI 46 0,vI 3 0,vI 0 0,vI 0 0,vI 3 0,vR 214,vB true,vI 181 0,vR 215,vN,vR 216,vR 217,vR 218,vI 465 0,vI 46 0,qS "/claim/cut.py" 466]),
(220,fQ (.mk (sT "is_within") (sT "is_within") (L2.defArgs (top 17)) (FuncBody.stmts (L2.defBody (top 17))) (L2.defScope (top 17)) 3 [] vN vN vN (qS "labelways.kinds" 450) .none (vR 219) vN 0)),
(226,cQ #[qS "is_tuple_of" 468,qS "is_tuple_of" 469,qS "/claim/cut.py" 470,vI 48 0,vI 2 0,vI 0 0,vI 0 0,vI 3 0,vR 221,vB true,vI 181 0,vR 222,vN,vR 223,vR 224,vR 225,vI 473 0,vI 48 0,qS "/claim/cut.py" 474]),
(227,fQ (.mk (sT "is_tuple_of") (sT "is_tuple_of") (L2.defArgs (top 18)) (FuncBody.stmts (L2.defBody (top 18))) (L2.defScope (top 18)) 3 [] vN vN vN (qS "labelways.kinds" 450) .none (vR 226) vN 0)),
(233,cQ #[qS "is_place" 476,qS "is_place" 477,qS "/claim/cut.py" 478,vI 50 0,vI 2 0,vI 0 0,vI 0 0,vI 3 0,vR 228,vB true,vI 181 0,vR 229,vN,vR 230,vR 231,vR 232,vI 481 0,vI 50 0,qS "/claim/cut.py" 482]),
(234,fQ (.mk (sT "is_place") (sT "is_place") (L2.defArgs (top 19)) (FuncBody.stmts (L2.defBody (top 19))) (L2.defScope (top 19)) 3 [] vN vN vN (qS "labelways.kinds" 450) .none (vR 233) vN 0)),
(240,cQ #[qS "is_long" 490,qS "is_long" 491,qS "/claim/cut.py" 492,vI 55 0,vI 1 0,vI 0 0,vI 0 0,vI 3 0,vR 235,vB true,vI 181 0,vR 236,vN,vR 237,vR 238,vR 239,vI 494 0,vI 55 0,qS "/claim/cut.py" 495]),
(241,fQ (.mk (sT "is_long") (sT "is_long") (L2.defArgs (top 23)) (FuncBody.stmts (L2.defBody (top 23))) (L2.defScope (top 23)) 3 [] vN vN vN (qS "labelways.webs" 484) .none (vR 240) vN 0)),
(247,cQ #[qS "ties_at" 497,qS "ties_at" 498,qS "/claim/cut.py" 499,vI 57 0,vI 2 0,vI 0 0,vI 0 0,vI 3 0,vR 242,vB true,vI 181 0,vR 243,vN,vR 244,vR 245,vR 246,vI 506 0,vI 57 0,qS "/claim/cut.py" 507]),
(248,fQ (.mk (sT "ties_at") (sT "ties_at") (L2.defArgs (top 24)) (FuncBody.stmts (L2.defBody (top 24))) (L2.defScope (top 24)) 3 [] vN vN vN (qS "labelways.webs" 484) .none (vR 247) vN 0)),
(254,cQ #[qS "long_of" 509,qS "long_of" 510,qS "/claim/cut.py" 511,vI 65 0,vI 3 0,vI 0 0,vI 0 0,vI 3 0,vR 249,vB true,vI 181 0,vR 250,vN,vR 251,vR 252,vR 253,vI 517 0,vI 65 0,qS "/claim/cut.py" 518]),
(255,fQ (.mk (sT "long_of") (sT "long_of") (L2.defArgs (top 25)) (FuncBody.stmts (L2.defBody (top 25))) (L2.defScope (top 25)) 3 [] vN vN vN (qS "labelways.webs" 484) .none (vR 254) vN 0)),
(259,cQ #[qS "lengths" 522,qS "lengths" 523,qS "/claim/cut.py" 524,vI 71 0,vI 1 0,vI 0 0,vI 0 0,vI 3 0,vR 256,vB true,vI 181 0,vR 257,vN,vN,vN,vR 258,vI 525 0,vI 71 0,qS "/claim/cut.py" 526]),
(260,fQ (.mk (sT "lengths") (sT "lengths") (L2.defArgs (top 27)) (FuncBody.stmts (L2.defBody (top 27))) (L2.defScope (top 27)) 3 [] vN vN vN (qS "labelways.lengths" 520) .none (vR 259) vN 0)),
(266,cQ #[qS "lengths_from" 528,qS "lengths_from" 529,qS "/claim/cut.py" 530,vI 73 0,vI 2 0,vI 0 0,vI 0 0,vI 3 0,vR 261,vB true,vI 181 0,vR 262,vN,vR 263,vR 264,vR 265,vI 539 0,vI 73 0,qS "/claim/cut.py" 540]),
(267,fQ (.mk (sT "lengths_from") (sT "lengths_from") (L2.defArgs (top 28)) (FuncBody.stmts (L2.defBody (top 28))) (L2.defScope (top 28)) 3 [] vN vN vN (qS "labelways.lengths" 520) .none (vR 266) vN 0)),
(273,cQ #[qS "nearest" 542,qS "nearest" 543,qS "/claim/cut.py" 544,vI 84 0,vI 1 0,vI 0 0,vI 0 0,vI 3 0,vR 268,vB true,vI 181 0,vR 269,vN,vR 270,vR 271,vR 272,vI 547 0,vI 84 0,qS "/claim/cut.py" 548]),
(274,fQ (.mk (sT "nearest") (sT "nearest") (L2.defArgs (top 29)) (FuncBody.stmts (L2.defBody (top 29))) (L2.defScope (top 29)) 3 [] vN vN vN (qS "labelways.lengths" 520) .none (vR 273) vN 0)),
(278,cQ #[qS "between_rows" 550,qS "between_rows" 551,qS "/claim/cut.py" 552,vI 86 0,vI 3 0,vI 0 0,vI 0 0,vI 3 0,vR 275,vB true,vI 181 0,vR 276,vN,vN,vN,vR 277,vI 553 0,vI 86 0,qS "/claim/cut.py" 554]),
(279,fQ (.mk (sT "between_rows") (sT "between_rows") (L2.defArgs (top 30)) (FuncBody.stmts (L2.defBody (top 30))) (L2.defScope (top 30)) 3 [] vN vN vN (qS "labelways.lengths" 520) .none (vR 278) vN 0)),
(283,cQ #[qS "next_by_row" 556,qS "next_by_row" 557,qS "/claim/cut.py" 558,vI 91 0,vI 3 0,vI 0 0,vI 0 0,vI 3 0,vR 280,vB true,vI 181 0,vR 281,vN,vN,vN,vR 282,vI 559 0,vI 91 0,qS "/claim/cut.py" 560]),
(284,fQ (.mk (sT "next_by_row") (sT "next_by_row") (L2.defArgs (top 31)) (FuncBody.stmts (L2.defBody (top 31))) (L2.defScope (top 31)) 3 [] vN vN vN (qS "labelways.lengths" 520) .none (vR 283) vN 0)),
(288,cQ #[qS "is_order" 564,qS "is_order" 565,qS "/claim/cut.py" 566,vI 96 0,vI 2 0,vI 0 0,vI 0 0,vI 3 0,vR 285,vB true,vI 181 0,vR 286,vN,vN,vN,vR 287,vI 567 0,vI 96 0,qS "/claim/cut.py" 568]),
(289,fQ (.mk (sT "is_order") (sT "is_order") (L2.defArgs (top 33)) (FuncBody.stmts (L2.defBody (top 33))) (L2.defScope (top 33)) 3 [] vN vN vN (qS "labelways.orders" 562) .none (vR 288) vN 0)),
(293,cQ #[qS "by_order" 570,qS "by_order" 571,qS "/claim/cut.py" 572,vI 101 0,vI 2 0,vI 0 0,vI 0 0,vI 3 0,vR 290,vB true,vI 181 0,vR 291,vN,vN,vN,vR 292,vI 573 0,vI 101 0,qS "/claim/cut.py" 574]),
(294,fQ (.mk (sT "by_order") (sT "by_order") (L2.defArgs (top 34)) (FuncBody.stmts (L2.defBody (top 34))) (L2.defScope (top 34)) 3 [] vN vN vN (qS "labelways.orders" 562) .none (vR 293) vN 0)),
(298,cQ #[qS "label_by_ranks" 576,qS "label_by_ranks" 577,qS "/claim/cut.py" 578,vI 107 0,vI 4 0,vI 0 0,vI 0 0,vI 3 0,vR 295,vB true,vI 181 0,vR 296,vN,vN,vN,vR 297,vI 579 0,vI 107 0,qS "/claim/cut.py" 580]),
(299,fQ (.mk (sT "label_by_ranks") (sT "label_by_ranks") (L2.defArgs (top 35)) (FuncBody.stmts (L2.defBody (top 35))) (L2.defScope (top 35)) 3 [] vN vN vN (qS "labelways.orders" 562) .none (vR 298) vN 0)),
(303,cQ #[qS "is_hub" 582,qS "is_hub" 583,qS "/claim/cut.py" 584,vI 110 0,vI 4 0,vI 0 0,vI 0 0,vI 3 0,vR 300,vB true,vI 181 0,vR 301,vN,vN,vN,vR 302,vI 585 0,vI 110 0,qS "/claim/cut.py" 586]),
(304,fQ (.mk (sT "is_hub") (sT "is_hub") (L2.defArgs (top 36)) (FuncBody.stmts (L2.defBody (top 36))) (L2.defScope (top 36)) 3 [] vN vN vN (qS "labelways.orders" 562) .none (vR 303) vN 0)),
(310,cQ #[qS "entry_by_rows" 588,qS "entry_by_rows" 589,qS "/claim/cut.py" 590,vI 114 0,vI 4 0,vI 0 0,vI 0 0,vI 3 0,vR 305,vB true,vI 181 0,vR 306,vN,vR 307,vR 308,vR 309,vI 597 0,vI 114 0,qS "/claim/cut.py" 598]),
(311,fQ (.mk (sT "entry_by_rows") (sT "entry_by_rows") (L2.defArgs (top 37)) (FuncBody.stmts (L2.defBody (top 37))) (L2.defScope (top 37)) 3 [] vN vN vN (qS "labelways.orders" 562) .none (vR 310) vN 0)),
(324,cQ #[qS "__init__" 614,qS "Keeper.__init__" 615,qS "/claim/cut.py" 616,vI 121 0,vI 3 0,vI 0 0,vI 0 0,vI 3 0,vR 319,vB true,vI 181 0,vR 320,vN,vR 321,vR 322,vR 323,vI 620 0,vI 121 0,qS "/claim/cut.py" 621]),
(325,fQ (.mk (sT "__init__") (sT "Keeper.__init__") (L2.defArgs (mth 39 0)) (FuncBody.stmts (L2.defBody (mth 39 0))) (L2.defScope (mth 39 0)) 3 [] vN vN vN (qS "labelways.keeper" 600) .none (vR 324) vN 0)),
(331,cQ #[qS "put" 623,qS "Keeper.put" 624,qS "/claim/cut.py" 625,vI 126 0,vI 4 0,vI 0 0,vI 0 0,vI 3 0,vR 326,vB true,vI 181 0,vR 327,vN,vR 328,vR 329,vR 330,vI 630 0,vI 126 0,qS "/claim/cut.py" 631]),
(332,fQ (.mk (sT "put") (sT "Keeper.put") (L2.defArgs (mth 39 1)) (FuncBody.stmts (L2.defBody (mth 39 1))) (L2.defScope (mth 39 1)) 3 [] vN vN vN (qS "labelways.keeper" 600) .none (vR 331) vN 0)),
(338,cQ #[qS "strike" 633,qS "Keeper.strike" 634,qS "/claim/cut.py" 635,vI 129 0,vI 3 0,vI 0 0,vI 0 0,vI 3 0,vR 333,vB true,vI 181 0,vR 334,vN,vR 335,vR 336,vR 337,vI 639 0,vI 129 0,qS "/claim/cut.py" 640]),
(339,fQ (.mk (sT "strike") (sT "Keeper.strike") (L2.defArgs (mth 39 2)) (FuncBody.stmts (L2.defBody (mth 39 2))) (L2.defScope (mth 39 2)) 3 [] vN vN vN (qS "labelways.keeper" 600) .none (vR 338) vN 0)),
(343,cQ #[qS "turn_to" 642,qS "Keeper.turn_to" 643,qS "/claim/cut.py" 644,vI 132 0,vI 2 0,vI 0 0,vI 0 0,vI 3 0,vR 340,vB true,vI 181 0,vR 341,vN,vN,vN,vR 342,vI 645 0,vI 132 0,qS "/claim/cut.py" 646]),
(344,fQ (.mk (sT "turn_to") (sT "Keeper.turn_to") (L2.defArgs (mth 39 3)) (FuncBody.stmts (L2.defBody (mth 39 3))) (L2.defScope (mth 39 3)) 3 [] vN vN vN (qS "labelways.keeper" 600) .none (vR 343) vN 0)),
(350,cQ #[qS "web_now" 648,qS "Keeper.web_now" 649,qS "/claim/cut.py" 650,vI 138 0,vI 1 0,vI 0 0,vI 0 0,vI 3 0,vR 345,vB true,vI 181 0,vR 346,vN,vR 347,vR 348,vR 349,vI 652 0,vI 138 0,qS "/claim/cut.py" 653]),
(351,fQ (.mk (sT "web_now") (sT "Keeper.web_now") (L2.defArgs (mth 39 4)) (FuncBody.stmts (L2.defBody (mth 39 4))) (L2.defScope (mth 39 4)) 3 [] vN vN vN (qS "labelways.keeper" 600) .none (vR 350) vN 0)),
(357,cQ #[qS "labels_now" 655,qS "Keeper.labels_now" 656,qS "/claim/cut.py" 657,vI 141 0,vI 1 0,vI 0 0,vI 0 0,vI 3 0,vR 352,vB true,vI 181 0,vR 353,vN,vR 354,vR 355,vR 356,vI 659 0,vI 141 0,qS "/claim/cut.py" 660]),
(358,fQ (.mk (sT "labels_now") (sT "Keeper.labels_now") (L2.defArgs (mth 39 5)) (FuncBody.stmts (L2.defBody (mth 39 5))) (L2.defScope (mth 39 5)) 3 [] vN vN vN (qS "labelways.keeper" 600) .none (vR 357) vN 0)),
(364,cQ #[qS "length_of" 662,qS "Keeper.length_of" 663,qS "/claim/cut.py" 664,vI 144 0,vI 3 0,vI 0 0,vI 0 0,vI 3 0,vR 359,vB true,vI 181 0,vR 360,vN,vR 361,vR 362,vR 363,vI 668 0,vI 144 0,qS "/claim/cut.py" 669]),
(365,fQ (.mk (sT "length_of") (sT "Keeper.length_of") (L2.defArgs (mth 39 6)) (FuncBody.stmts (L2.defBody (mth 39 6))) (L2.defScope (mth 39 6)) 3 [] vN vN vN (qS "labelways.keeper" 600) .none (vR 364) vN 0)),
(371,cQ #[qS "step_of" 671,qS "Keeper.step_of" 672,qS "/claim/cut.py" 673,vI 147 0,vI 3 0,vI 0 0,vI 0 0,vI 3 0,vR 366,vB true,vI 181 0,vR 367,vN,vR 368,vR 369,vR 370,vI 677 0,vI 147 0,qS "/claim/cut.py" 678]),
(372,fQ (.mk (sT "step_of") (sT "Keeper.step_of") (L2.defArgs (mth 39 7)) (FuncBody.stmts (L2.defBody (mth 39 7))) (L2.defScope (mth 39 7)) 3 [] vN vN vN (qS "labelways.keeper" 600) .none (vR 371) vN 0)),
(374,oM (vT "dict") .none (Data.dict #[kE P "__module__" 609 (qS "labelways.keeper" 600),kE P "__firstlineno__" 613 (vI 119 612),kE P "__init__" 622 (vR 325),kE P "put" 632 (vR 332),kE P "strike" 641 (vR 339),kE P "turn_to" 647 (vR 344),kE P "web_now" 654 (vR 351),kE P "labels_now" 661 (vR 358),kE P "length_of" 670 (vR 365),kE P "step_of" 679 (vR 372),kE P "__static_attributes__" 683 (vR 373),kE P "__dict__" 685 (vR 376),kE P "__weakref__" 687 (vR 377),kE P "__doc__" 688 vN] 4) #[]),
(375,oM (vT "type") .none (Data.cls (ClassData.mk (sT "Keeper") [vT "object"] [vR 375,vT "object"] 374 (sT "Keeper") true [] [] false .none false)) #[.none,.none,.some (qS "Keeper" 602),.some (qS "Keeper" 610),.some (Value.builtin "object.__new__"),.some (vB true)]),
(376,oM (vT "getset_descriptor") .none (Data.fields #[qS "__dict__" 684,vR 375,Value.builtin "function.__dict__",Value.builtin "function.__dict__#set"]) #[]),
(377,oM (vT "getset_descriptor") .none (Data.fields #[qS "__weakref__" 686,vR 375,Value.builtin "ExceptionGroup.__weakref__",vN]) #[]),
(385,cQ #[qS "with_tie" 691,qS "with_tie" 692,qS "/claim/cut.py" 693,vI 149 0,vI 4 0,vI 0 0,vI 0 0,vI 3 0,vR 380,vB true,vI 181 0,vR 381,vN,vR 382,vR 383,vR 384,vI 699 0,vI 149 0,qS "/claim/cut.py" 700]),
(386,fQ (.mk (sT "with_tie") (sT "with_tie") (L2.defArgs (top 40)) (FuncBody.stmts (L2.defBody (top 40))) (L2.defScope (top 40)) 3 [] vN vN vN (qS "labelways.keeper" 600) .none (vR 385) vN 0)),
(392,cQ #[qS "without_tie" 702,qS "without_tie" 703,qS "/claim/cut.py" 704,vI 156 0,vI 3 0,vI 0 0,vI 0 0,vI 3 0,vR 387,vB true,vI 181 0,vR 388,vN,vR 389,vR 390,vR 391,vI 709 0,vI 156 0,qS "/claim/cut.py" 710]),
(393,fQ (.mk (sT "without_tie") (sT "without_tie") (L2.defArgs (top 41)) (FuncBody.stmts (L2.defBody (top 41))) (L2.defScope (top 41)) 3 [] vN vN vN (qS "labelways.keeper" 600) .none (vR 392) vN 0)),
(399,cQ #[qS "pair_of" 712,qS "pair_of" 713,qS "/claim/cut.py" 714,vI 161 0,vI 3 0,vI 0 0,vI 0 0,vI 3 0,vR 394,vB true,vI 181 0,vR 395,vN,vR 396,vR 397,vR 398,vI 718 0,vI 161 0,qS "/claim/cut.py" 719]),
(400,fQ (.mk (sT "pair_of") (sT "pair_of") (L2.defArgs (top 42)) (FuncBody.stmts (L2.defBody (top 42))) (L2.defScope (top 42)) 3 [] vN vN vN (qS "labelways.keeper" 600) .none (vR 399) vN 0)),
(404,cQ #[qS "ties_but" 721,qS "ties_but" 722,qS "/claim/cut.py" 723,vI 165 0,vI 2 0,vI 0 0,vI 0 0,vI 3 0,vR 401,vB true,vI 181 0,vR 402,vN,vN,vN,vR 403,vI 724 0,vI 165 0,qS "/claim/cut.py" 725]),
(405,fQ (.mk (sT "ties_but") (sT "ties_but") (L2.defArgs (top 43)) (FuncBody.stmts (L2.defBody (top 43))) (L2.defScope (top 43)) 3 [] vN vN vN (qS "labelways.keeper" 600) .none (vR 404) vN 0)),
(411,cQ #[qS "_law_feed" 729,qS "_law_feed" 730,qS "/claim/cut.py" 731,vI 168 0,vI 1 0,vI 0 0,vI 0 0,vI 3 0,vR 406,vB true,vI 181 0,vR 407,vN,vR 408,vR 409,vR 410,vI 733 0,vI 168 0,qS "/claim/cut.py" 734]),
(412,fT "_law_feed" 45 (qS "law_labelways_k65_what_keepers_refuse" 727) 411),
(418,cQ #[qS "_law_take" 736,qS "_law_take" 737,qS "/claim/cut.py" 738,vI 170 0,vI 2 0,vI 0 0,vI 0 0,vI 3 0,vR 413,vB true,vI 181 0,vR 414,vN,vR 415,vR 416,vR 417,vI 745 0,vI 170 0,qS "/claim/cut.py" 746]),
(419,fT "_law_take" 46 (qS "law_labelways_k65_what_keepers_refuse" 727) 418),
(423,cQ #[qS "_law_same" 748,qS "_law_same" 749,qS "/claim/cut.py" 750,vI 184 0,vI 2 0,vI 0 0,vI 0 0,vI 3 0,vR 420,vB true,vI 181 0,vR 421,vN,vN,vN,vR 422,vI 751 0,vI 184 0,qS "/claim/cut.py" 752]),
(424,fT "_law_same" 47 (qS "law_labelways_k65_what_keepers_refuse" 727) 423),
(428,cQ #[qS "_law_web" 754,qS "_law_web" 755,qS "/claim/cut.py" 756,vI 192 0,vI 2 0,vI 0 0,vI 0 0,vI 3 0,vR 425,vB true,vI 181 0,vR 426,vN,vN,vN,vR 427,vI 757 0,vI 192 0,qS "/claim/cut.py" 758]),
(429,fT "_law_web" 48 (qS "law_labelways_k65_what_keepers_refuse" 727) 428),
(435,cQ #[qS "_law_order" 760,qS "_law_order" 761,qS "/claim/cut.py" 762,vI 204 0,vI 2 0,vI 0 0,vI 0 0,vI 3 0,vR 430,vB true,vI 181 0,vR 431,vN,vR 432,vR 433,vR 434,vI 767 0,vI 204 0,qS "/claim/cut.py" 768]),
(436,fT "_law_order" 49 (qS "law_labelways_k65_what_keepers_refuse" 727) 435),
(442,cQ #[qS "_law_deed" 770,qS "_law_deed" 771,qS "/claim/cut.py" 772,vI 210 0,vI 2 0,vI 0 0,vI 0 0,vI 3 0,vR 437,vB true,vI 181 0,vR 438,vN,vR 439,vR 440,vR 441,vI 780 0,vI 210 0,qS "/claim/cut.py" 781]),
(443,fT "_law_deed" 50 (qS "law_labelways_k65_what_keepers_refuse" 727) 442),
(447,cQ #[qS "_law_after" 783,qS "_law_after" 784,qS "/claim/cut.py" 785,vI 220 0,vI 2 0,vI 0 0,vI 0 0,vI 3 0,vR 444,vB true,vI 181 0,vR 445,vN,vN,vN,vR 446,vI 786 0,vI 220 0,qS "/claim/cut.py" 787]),
(448,fT "_law_after" 51 (qS "law_labelways_k65_what_keepers_refuse" 727) 447),
(454,cQ #[qS "_law_done" 789,qS "_law_done" 790,qS "/claim/cut.py" 791,vI 227 0,vI 2 0,vI 0 0,vI 0 0,vI 3 0,vR 449,vB true,vI 181 0,vR 450,vN,vR 451,vR 452,vR 453,vI 794 0,vI 227 0,qS "/claim/cut.py" 795]),
(455,fT "_law_done" 52 (qS "law_labelways_k65_what_keepers_refuse" 727) 454),
(459,cQ #[qS "_law_full_web" 797,qS "_law_full_web" 798,qS "/claim/cut.py" 799,vI 231 0,vI 1 0,vI 0 0,vI 0 0,vI 3 0,vR 456,vB true,vI 181 0,vR 457,vN,vN,vN,vR 458,vI 800 0,vI 231 0,qS "/claim/cut.py" 801]),
(460,fT "_law_full_web" 53 (qS "law_labelways_k65_what_keepers_refuse" 727) 459),
(464,cQ #[qS "_law_bad_deeds" 803,qS "_law_bad_deeds" 804,qS "/claim/cut.py" 805,vI 238 0,vI 2 0,vI 0 0,vI 0 0,vI 3 0,vR 461,vB true,vI 181 0,vR 462,vN,vN,vN,vR 463,vI 806 0,vI 238 0,qS "/claim/cut.py" 807]),
(465,fT "_law_bad_deeds" 54 (qS "law_labelways_k65_what_keepers_refuse" 727) 464),
(471,cQ #[qS "_law_refused" 809,qS "_law_refused" 810,qS "/claim/cut.py" 811,vI 252 0,vI 2 0,vI 0 0,vI 0 0,vI 3 0,vR 466,vB true,vI 181 0,vR 467,vN,vR 468,vR 469,vR 470,vI 816 0,vI 252 0,qS "/claim/cut.py" 817]),
(472,fT "_law_refused" 55 (qS "law_labelways_k65_what_keepers_refuse" 727) 471),
(478,cQ #[qS "_law_no_keeper" 819,qS "_law_no_keeper" 820,qS "/claim/cut.py" 821,vI 261 0,vI 2 0,vI 0 0,vI 0 0,vI 3 0,vR 473,vB true,vI 181 0,vR 474,vN,vR 475,vR 476,vR 477,vI 826 0,vI 261 0,qS "/claim/cut.py" 827]),
(479,fT "_law_no_keeper" 56 (qS "law_labelways_k65_what_keepers_refuse" 727) 478),
(483,cQ #[qS "_law_bad_orders" 829,qS "_law_bad_orders" 830,qS "/claim/cut.py" 831,vI 270 0,vI 1 0,vI 0 0,vI 0 0,vI 3 0,vR 480,vB true,vI 181 0,vR 481,vN,vN,vN,vR 482,vI 832 0,vI 270 0,qS "/claim/cut.py" 833]),
(484,fT "_law_bad_orders" 57 (qS "law_labelways_k65_what_keepers_refuse" 727) 483),
(490,cQ #[qS "_law_stands" 835,qS "_law_stands" 836,qS "/claim/cut.py" 837,vI 274 0,vI 3 0,vI 0 0,vI 0 0,vI 3 0,vR 485,vB true,vI 181 0,vR 486,vN,vR 487,vR 488,vR 489,vI 841 0,vI 274 0,qS "/claim/cut.py" 842]),
(491,fT "_law_stands" 58 (qS "law_labelways_k65_what_keepers_refuse" 727) 490),
(495,cQ #[qS "law" 844,qS "law" 845,qS "/claim/cut.py" 846,vI 278 0,vI 1 0,vI 0 0,vI 0 0,vI 3 0,vR 492,vB true,vI 181 0,vR 493,vN,vN,vN,vR 494,vI 847 0,vI 278 0,qS "/claim/cut.py" 848]),
(496,fT "law" 59 (qS "law_labelways_k65_what_keepers_refuse" 727) 495)]
noncomputable def Ka:List Addr:=[2,3,20,21,30,31,32,47,48,50,51,66,67,69,70,85,86,88,89,104,105,107,108,119,120,131,132,143,144,155,156,167,168,179,180,191,192,203,204,212,213,219,220,226,227,233,234,240,241,247,248,254,255,259,260,266,267,273,274,278,279,283,284,288,289,293,294,298,299,303,304,310,311,324,325,331,332,338,339,343,344,350,351,357,358,364,365,371,372,374,375,376,377,385,386,392,393,399,400,404,405,411,412,418,419,423,424,428,429,435,436,442,443,447,448,454,455,459,460,464,465,471,472,478,479,483,484,490,491,495,496]
theorem fkM {K:PySem.W.Frag}(x q:Str)(st:Stmt)(f:Addr)(pm cd:Value)(l:K.lookup f=some ⟨.type "function",.none,.func (PySem.W.fnOf x q (defArgs st) (defBody st) (defScope st) .none .none .none pm .none cd .none),#[]⟩:=by kernel_rfl) (c:PySem.W.codeIn K cd q=true:=by kernel_rfl)(k:PySem.W.keepIn K (.ref f)=true:=by kernel_rfl):Fun K x q st f (PySem.W.fnOf x q (defArgs st) (defBody st) (defScope st) .none .none .none pm .none cd .none):=zKF l c k
theorem zIp:∀{us:List Value},us.length=1->∃u0,us=[u0]
 | [u0],_=>⟨u0,rfl⟩
theorem zEw:∀{us:List Value},us.length=2->∃u0 u1,us=[u0,u1]
 | [u0,u1],_=>⟨u0,u1,rfl⟩
theorem zIo:∀{us:List Value},us.length=3->∃u0 u1 u2,us=[u0,u1,u2]
 | [u0,u1,u2],_=>⟨u0,u1,u2,rfl⟩
theorem usl4:∀{us:List Value},us.length=4->∃u0 u1 u2 u3,us=[u0,u1,u2,u3]
 | [u0,u1,u2,u3],_=>⟨u0,u1,u2,u3,rfl⟩
theorem walk {l:PySem.W.OpenLaw}{q:Program}{loose:List Str}{XP:(Str->Option Value)->Heap->Prop}{YP:World->Heap->Prop}{d:DefRec}{K:Params->PySem.W.Frag}(hn:l.most=some 63)(hdf:d.params.defaults=[])(hrec:∃dn,(PyProof.Rows.recsOf q).find? (fun e=>e.name==("nearest" : Str))=some dn)
 (hY:∀(w:World)(h:Heap),YP w h->(K w.params).In h)
 (F:∀(w:World)(mg:Str->Option Value)(fa:Addr)(h:Heap),(K w.params).In h->h.Ns mainGlobals mg->mg d.name=some (.ref fa) ->
  ∃(fd:FuncData)(c P:Addr),PySem.W.tabIn (K w.params) "nearest" = some (c,P)/\PySem.W.noTabs (K w.params)=true/\(∀(s:Shared)(u:Value),BindsTo s fd ⟨[u],[]⟩ [("_law_script",u)])/\∀base:Heap,(K w.params).In base->base.Ns mainGlobals mg->zIg mg base->zy l.prog w (K w.params) mg base CX0 13 fa fd ["_law_script"] (zIs (K w.params) P)) :
 PySem.W.WalkO q loose XP YP l.row.toRowW d [] (fun f vs=>PySem.call f vs):=
 L2.walk_T (n:=63) (k:=13) (x := "_law_script") (tn := "nearest") (CX:=CX0) (sp:=zIs) hn (by decide) hdf ⟨rfl,by decide,by decide,rfl⟩ hrec hY F (fun _ _ _ a ns hl hP hS=>⟨a,ns,rfl,hS,hl,hP,fun _=>rfl⟩) fun _ _ _ _ z=>z
theorem fk {K:PySem.W.Frag}(x:Str)(st:Stmt)(f:Addr)(pm cd:Value)(l:K.lookup f=some ⟨.type "function",.none,.func (PySem.W.fnOf x x (defArgs st) (defBody st) (defScope st) .none .none .none pm .none cd .none),#[]⟩:=by kernel_rfl) (c:PySem.W.codeIn K cd x=true:=by kernel_rfl)(k:PySem.W.keepIn K (.ref f)=true:=by kernel_rfl):Fun K x x st f (PySem.W.fnOf x x (defArgs st) (defBody st) (defScope st) .none .none .none pm .none cd .none):=zKF l c k
theorem fkC {K:PySem.W.Frag}(x:Str)(st:Stmt)(f:Addr)(pm:Value)(cc:Addr)(l:K.lookup f=some ⟨.type "function",.none,.func (PySem.W.fnOf x x (defArgs st) (defBody st) (defScope st) .none .none .none pm .none (.ref cc) .none),#[]⟩:=by kernel_rfl) (c:PySem.W.codeIn K (.ref cc) x=true:=by kernel_rfl)(k:PySem.W.keepIn K (.ref f)=true:=by kernel_rfl):zJl K x x st f (PySem.W.fnOf x x (defArgs st) (defBody st) (defScope st) .none .none .none pm .none (.ref cc) .none) cc:=zLh l c k
noncomputable abbrev pw:Program:=PySem.Challenge.pw_labelways_k65_what_keepers_refuse
noncomputable def V:Program:={ pw with main:={ pw.main with body:=[top 0,top 2,top 3,top 4,top 5,top 6,top 7,top 8,top 9,top 10,top 11,top 12,top 13,top 14,top 16,top 17,top 18,top 19,top 21,top 22,top 23,top 24,top 25,top 27,top 28,top 29,top 30,top 31,top 33,top 34,top 35,top 36,top 37,top 39,top 40,top 41,top 42,top 43,top 45,top 46,top 47,top 48,top 49,top 50,top 51,top 52,top 53,top 54,top 55,top 56,top 57,top 58,top 59] } }
noncomputable abbrev RR:PySem.W.RowW:=PySem.W.OpenRow.toRowW (PySem.Challenge.rw_labelways_k65_what_keepers_refuse).row
theorem Ke:∀P,Ka=(Kf P).map (·.1):=fun P=>by kernel_rfl
noncomputable abbrev HK:PySem.W.Hook:=PySem.W.kHook Kf Ka Ke
theorem left:PySem.W.LeftO pw V [] (fun s=>PySem.W.xlAt V [] s && PySem.W.recOk (PySem.W.RowW.records RR) s) (PySem.W.Hook.obs HK) (PySem.W.Hook.val HK) 9112:=L2.left_of (by kernel_rfl) (by decide) (fun _=>rfl) fun w os=>by kernel_rfl
noncomputable def dL:DefRec:={ name := "law",params:=defArgs sLaw,body:=defBody sLaw,scope:=defScope sLaw,pos:=⟨278,0,301,117⟩ }
theorem facts (w:World)(mg:Str->Option Value)(fa:Addr)(h:Heap)(KX:(Kf w.params).In h)(G:h.Ns mainGlobals mg)(hmg:mg "law" = some (.ref fa)):∃(fd:FuncData)(c P:Addr),PySem.W.tabIn (Kf w.params) "nearest" = some (c,P)/\PySem.W.noTabs (Kf w.params)=true/\(∀(s:Shared)(u:Value),BindsTo s fd ⟨[u],[]⟩ [("_law_script",u)])/\∀base:Heap,(Kf w.params).In base->base.Ns mainGlobals mg->zIg mg base->zy (PySem.Challenge.rw_labelways_k65_what_keepers_refuse).prog w (Kf w.params) mg base CX0 13 fa fd ["_law_script"] (zIs (Kf w.params) P):=by
 have mk:∀(x:Str)(f:Addr),PySem.W.nsIn (Kf w.params) mainGlobals x=some (some (.ref f))->mg x=some (.ref f):=fun x f e=>PySem.W.mg_of KX G e
 have mn:∀x:Str,PySem.W.nsIn (Kf w.params) mainGlobals x=some none->mg x=none:=fun x e=>PySem.W.mg_none_of KX G e
 have FFe:=fk (K:=Kf w.params) "_law_feed" zIz 412 (qS "law_labelways_k65_what_keepers_refuse" 727) (vR 411)
 have bFe:=FFe.binds (ps:=["_law_script"]) fun _ _ _ _ _ _ us hl=>by obtain⟨u0,rfl⟩:=zIp hl;rfl
 have mFe:=mk "_law_feed" 412 (by kernel_rfl)
 have FTk:=fk (K:=Kf w.params) "_law_take" zDy 419 (qS "law_labelways_k65_what_keepers_refuse" 727) (vR 418)
 have bTk:=FTk.binds (ps:=["_law_feed_here", "_law_many"]) fun _ _ _ _ _ _ us hl=>by obtain⟨u0,u1,rfl⟩:=zEw hl;rfl
 have mTk:=mk "_law_take" 419 (by kernel_rfl)
 have FSa:=fk (K:=Kf w.params) "_law_same" zFv 424 (qS "law_labelways_k65_what_keepers_refuse" 727) (vR 423)
 have bSa:=FSa.binds (ps:=["_law_found", "_law_due"]) fun _ _ _ _ _ _ us hl=>by obtain⟨u0,u1,rfl⟩:=zEw hl;rfl
 have mSa:=mk "_law_same" 424 (by kernel_rfl)
 have FWe:=fk (K:=Kf w.params) "_law_web" zFu 429 (qS "law_labelways_k65_what_keepers_refuse" 727) (vR 428)
 have bWe:=FWe.binds (ps:=["_law_feed_here", "_law_most"]) fun _ _ _ _ _ _ us hl=>by obtain⟨u0,u1,rfl⟩:=zEw hl;rfl
 have mWe:=mk "_law_web" 429 (by kernel_rfl)
 have FOd:=fk (K:=Kf w.params) "_law_order" zIx 436 (qS "law_labelways_k65_what_keepers_refuse" 727) (vR 435)
 have bOd:=FOd.binds (ps:=["_law_feed_here", "_law_many"]) fun _ _ _ _ _ _ us hl=>by obtain⟨u0,u1,rfl⟩:=zEw hl;rfl
 have mOd:=mk "_law_order" 436 (by kernel_rfl)
 have FDe:=fk (K:=Kf w.params) "_law_deed" zI0 443 (qS "law_labelways_k65_what_keepers_refuse" 727) (vR 442)
 have bDe:=FDe.binds (ps:=["_law_feed_here", "_law_web_here"]) fun _ _ _ _ _ _ us hl=>by obtain⟨u0,u1,rfl⟩:=zEw hl;rfl
 have mDe:=mk "_law_deed" 443 (by kernel_rfl)
 have FAf:=fk (K:=Kf w.params) "_law_after" sAft 448 (qS "law_labelways_k65_what_keepers_refuse" 727) (vR 447)
 have bAf:=FAf.binds (ps:=["_law_web_here", "_law_deed_here"]) fun _ _ _ _ _ _ us hl=>by obtain⟨u0,u1,rfl⟩:=zEw hl;rfl
 have mAf:=mk "_law_after" 448 (by kernel_rfl)
 have FDo:=fk (K:=Kf w.params) "_law_done" zGk 455 (qS "law_labelways_k65_what_keepers_refuse" 727) (vR 454)
 have bDo:=FDo.binds (ps:=["_law_keeper", "_law_deed_here"]) fun _ _ _ _ _ _ us hl=>by obtain⟨u0,u1,rfl⟩:=zEw hl;rfl
 have mDo:=mk "_law_done" 455 (by kernel_rfl)
 have FFw:=fk (K:=Kf w.params) "_law_full_web" zIy 460 (qS "law_labelways_k65_what_keepers_refuse" 727) (vR 459)
 have bFw:=FFw.binds (ps:=["_law_feed_here"]) fun _ _ _ _ _ _ us hl=>by obtain⟨u0,rfl⟩:=zIp hl;rfl
 have mFw:=mk "_law_full_web" 460 (by kernel_rfl)
 have FBd:=fk (K:=Kf w.params) "_law_bad_deeds" zI3 465 (qS "law_labelways_k65_what_keepers_refuse" 727) (vR 464)
 have bBd:=FBd.binds (ps:=["_law_feed_here", "_law_web_here"]) fun _ _ _ _ _ _ us hl=>by obtain⟨u0,u1,rfl⟩:=zEw hl;rfl
 have mBd:=mk "_law_bad_deeds" 465 (by kernel_rfl)
 have FRf:=fk (K:=Kf w.params) "_law_refused" zIw 472 (qS "law_labelways_k65_what_keepers_refuse" 727) (vR 471)
 have bRf:=FRf.binds (ps:=["_law_keeper", "_law_deed_here"]) fun _ _ _ _ _ _ us hl=>by obtain⟨u0,u1,rfl⟩:=zEw hl;rfl
 have mRf:=mk "_law_refused" 472 (by kernel_rfl)
 have FNk:=fk (K:=Kf w.params) "_law_no_keeper" sNoK 479 (qS "law_labelways_k65_what_keepers_refuse" 727) (vR 478)
 have bNk:=FNk.binds (ps:=["_law_web_here", "_law_thing"]) fun _ _ _ _ _ _ us hl=>by obtain⟨u0,u1,rfl⟩:=zEw hl;rfl
 have mNk:=mk "_law_no_keeper" 479 (by kernel_rfl)
 have FBo:=fk (K:=Kf w.params) "_law_bad_orders" zI2 484 (qS "law_labelways_k65_what_keepers_refuse" 727) (vR 483)
 have bBo:=FBo.binds (ps:=["_law_order_here"]) fun _ _ _ _ _ _ us hl=>by obtain⟨u0,rfl⟩:=zIp hl;rfl
 have mBo:=mk "_law_bad_orders" 484 (by kernel_rfl)
 have FSs:=fk (K:=Kf w.params) "_law_stands" zEd 491 (qS "law_labelways_k65_what_keepers_refuse" 727) (vR 490)
 have bSs:=FSs.binds (ps:=["_law_keeper", "_law_web_here", "_law_order_here"]) fun _ _ _ _ _ _ us hl=>by obtain⟨u0,u1,u2,rfl⟩:=zIo hl;rfl
 have mSs:=mk "_law_stands" 491 (by kernel_rfl)
 have FNu:=fk (K:=Kf w.params) "is_number" zKt 213 (qS "labelways.kinds" 450) (vR 212)
 have bNu:=FNu.binds (ps:=["thing"]) fun _ _ _ _ _ _ us hl=>by obtain⟨u0,rfl⟩:=zIp hl;rfl
 have mNu:=mk "is_number" 213 (by kernel_rfl)
 have FWi:=fk (K:=Kf w.params) "is_within" sWi 220 (qS "labelways.kinds" 450) (vR 219)
 have bWi:=FWi.binds (ps:=["thing", "least", "most"]) fun _ _ _ _ _ _ us hl=>by obtain⟨u0,u1,u2,rfl⟩:=zIo hl;rfl
 have mWi:=mk "is_within" 220 (by kernel_rfl)
 have FTo:=fk (K:=Kf w.params) "is_tuple_of" sTof 227 (qS "labelways.kinds" 450) (vR 226)
 have bTo:=FTo.binds (ps:=["thing", "count"]) fun _ _ _ _ _ _ us hl=>by obtain⟨u0,u1,rfl⟩:=zEw hl;rfl
 have mTo:=mk "is_tuple_of" 227 (by kernel_rfl)
 have FPl:=fk (K:=Kf w.params) "is_place" sPl 234 (qS "labelways.kinds" 450) (vR 233)
 have bPl:=FPl.binds (ps:=["n", "thing"]) fun _ _ _ _ _ _ us hl=>by obtain⟨u0,u1,rfl⟩:=zEw hl;rfl
 have mPl:=mk "is_place" 234 (by kernel_rfl)
 have FLg:=fk (K:=Kf w.params) "is_long" sIsL 241 (qS "labelways.webs" 484) (vR 240)
 have bLg:=FLg.binds (ps:=["thing"]) fun _ _ _ _ _ _ us hl=>by obtain⟨u0,rfl⟩:=zIp hl;rfl
 have mLg:=mk "is_long" 241 (by kernel_rfl)
 have FT:=fk (K:=Kf w.params) "ties_at" zFB 248 (qS "labelways.webs" 484) (vR 247)
 have bT:=FT.binds (ps:=["web", "place"]) fun _ _ _ _ _ _ us hl=>by obtain⟨u0,u1,rfl⟩:=zEw hl;rfl
 have mT:=mk "ties_at" 248 (by kernel_rfl)
 have FLo:=fk (K:=Kf w.params) "long_of" zFC 255 (qS "labelways.webs" 484) (vR 254)
 have bLo:=FLo.binds (ps:=["web", "one", "other"]) fun _ _ _ _ _ _ us hl=>by obtain⟨u0,u1,u2,rfl⟩:=zIo hl;rfl
 have mLo:=mk "long_of" 255 (by kernel_rfl)
 have FNe:=fkC (K:=Kf w.params) "nearest" zHO 274 (qS "labelways.lengths" 520) 273
 have bNe:=FNe.fn.binds (ps:=["waiting"]) fun _ _ _ _ _ _ us hl=>by obtain⟨u0,rfl⟩:=zIp hl;rfl
 have mNe:=mk "nearest" 274 (by kernel_rfl)
 have FF:=fk (K:=Kf w.params) "lengths_from" zHQ 267 (qS "labelways.lengths" 520) (vR 266)
 have bF:=FF.binds (ps:=["web", "start"]) fun _ _ _ _ _ _ us hl=>by obtain⟨u0,u1,rfl⟩:=zEw hl;rfl
 have mF:=mk "lengths_from" 267 (by kernel_rfl)
 have FLe:=fk (K:=Kf w.params) "lengths" zHP 260 (qS "labelways.lengths" 520) (vR 259)
 have bLe:=FLe.binds (ps:=["web"]) fun _ _ _ _ _ _ us hl=>by obtain⟨u0,rfl⟩:=zIp hl;rfl
 have mLe:=mk "lengths" 260 (by kernel_rfl)
 have FBw:=fk (K:=Kf w.params) "between_rows" sBwr 279 (qS "labelways.lengths" 520) (vR 278)
 have bBw:=FBw.binds (ps:=["here", "there", "other"]) fun _ _ _ _ _ _ us hl=>by obtain⟨u0,u1,u2,rfl⟩:=zIo hl;rfl
 have mBw:=mk "between_rows" 279 (by kernel_rfl)
 have FNb:=fk (K:=Kf w.params) "next_by_row" sNbr 284 (qS "labelways.lengths" 520) (vR 283)
 have bNb:=FNb.binds (ps:=["web", "one", "there"]) fun _ _ _ _ _ _ us hl=>by obtain⟨u0,u1,u2,rfl⟩:=zIo hl;rfl
 have mNb:=mk "next_by_row" 284 (by kernel_rfl)
 have FIo:=fk (K:=Kf w.params) "is_order" sOrd 289 (qS "labelways.orders" 562) (vR 288)
 have bIo:=FIo.binds (ps:=["web", "thing"]) fun _ _ _ _ _ _ us hl=>by obtain⟨u0,u1,rfl⟩:=zEw hl;rfl
 have mIo:=mk "is_order" 289 (by kernel_rfl)
 have FBy:=fk (K:=Kf w.params) "by_order" zI1 294 (qS "labelways.orders" 562) (vR 293)
 have bBy:=FBy.binds (ps:=["web", "order"]) fun _ _ _ _ _ _ us hl=>by obtain⟨u0,u1,rfl⟩:=zEw hl;rfl
 have mBy:=mk "by_order" 294 (by kernel_rfl)
 have FLb:=fk (K:=Kf w.params) "label_by_ranks" sLbr 299 (qS "labelways.orders" 562) (vR 298)
 have bLb:=FLb.binds (ps:=["web", "rows", "ranks", "place"]) fun _ _ _ _ _ _ us hl=>by obtain⟨u0,u1,u2,u3,rfl⟩:=usl4 hl;rfl
 have mLb:=mk "label_by_ranks" 299 (by kernel_rfl)
 have FIh:=fk (K:=Kf w.params) "is_hub" sIsh 304 (qS "labelways.orders" 562) (vR 303)
 have bIh:=FIh.binds (ps:=["rows", "ranks", "hub", "place"]) fun _ _ _ _ _ _ us hl=>by obtain⟨u0,u1,u2,u3,rfl⟩:=usl4 hl;rfl
 have mIh:=mk "is_hub" 304 (by kernel_rfl)
 have FEb:=fk (K:=Kf w.params) "entry_by_rows" sEbr 311 (qS "labelways.orders" 562) (vR 310)
 have bEb:=FEb.binds (ps:=["web", "rows", "place", "hub"]) fun _ _ _ _ _ _ us hl=>by obtain⟨u0,u1,u2,u3,rfl⟩:=usl4 hl;rfl
 have mEb:=mk "entry_by_rows" 311 (by kernel_rfl)
 have FWt:=fk (K:=Kf w.params) "with_tie" zFt 386 (qS "labelways.keeper" 600) (vR 385)
 have bWt:=FWt.binds (ps:=["web", "one", "other", "long"]) fun _ _ _ _ _ _ us hl=>by obtain⟨u0,u1,u2,u3,rfl⟩:=usl4 hl;rfl
 have mWt:=mk "with_tie" 386 (by kernel_rfl)
 have FWo:=fk (K:=Kf w.params) "without_tie" zFs 393 (qS "labelways.keeper" 600) (vR 392)
 have bWo:=FWo.binds (ps:=["web", "one", "other"]) fun _ _ _ _ _ _ us hl=>by obtain⟨u0,u1,u2,rfl⟩:=zIo hl;rfl
 have mWo:=mk "without_tie" 393 (by kernel_rfl)
 have FPa:=fk (K:=Kf w.params) "pair_of" zEe 400 (qS "labelways.keeper" 600) (vR 399)
 have bPa:=FPa.binds (ps:=["web", "one", "other"]) fun _ _ _ _ _ _ us hl=>by obtain⟨u0,u1,u2,rfl⟩:=zIo hl;rfl
 have mPa:=mk "pair_of" 400 (by kernel_rfl)
 have FBt:=fk (K:=Kf w.params) "ties_but" sBut 405 (qS "labelways.keeper" 600) (vR 404)
 have bBt:=FBt.binds (ps:=["web", "pair"]) fun _ _ _ _ _ _ us hl=>by obtain⟨u0,u1,rfl⟩:=zEw hl;rfl
 have mBt:=mk "ties_but" 405 (by kernel_rfl)
 have FZ:=fk (K:=Kf w.params) "law" sLaw 496 (qS "law_labelways_k65_what_keepers_refuse" 727) (vR 495)
 have mb0:=mn "len" (by kernel_rfl)
 have mb1:=mn "range" (by kernel_rfl)
 have mb2:=mn "tuple" (by kernel_rfl)
 have mb3:=mn "sorted" (by kernel_rfl)
 have mb4:=mn "min" (by kernel_rfl)
 have mb5:=mn "max" (by kernel_rfl)
 have mb6:=mn "list" (by kernel_rfl)
 have mb7:=mn "isinstance" (by kernel_rfl)
 have mb8:=mn "int" (by kernel_rfl)
 have mb9:=mn "bool" (by kernel_rfl)
 have mb10:=mn "all" (by kernel_rfl)
 have mb11:=mn "set" (by kernel_rfl)
 have mb12:=mn "zip" (by kernel_rfl)
 have mb13:=mn "str" (by kernel_rfl)
 have mb14:=mn "ValueError" (by kernel_rfl)
 have e:=hmg.symm.trans (mk "law" 496 (by kernel_rfl))
 cases e
 have FKI:=fkM (K:=Kf w.params) "__init__" "Keeper.__init__" sKI 325 (qS "labelways.keeper" 600) (vR 324)
 have bKI:=FKI.binds (ps:=["self", "web", "order"]) fun _ _ _ _ _ _ us hl=>by obtain⟨u0,u1,u2,rfl⟩:=zIo hl;rfl
 have FKP:=fkM (K:=Kf w.params) "put" "Keeper.put" sKP 332 (qS "labelways.keeper" 600) (vR 331)
 have bKP:=FKP.binds (ps:=["self", "one", "other", "long"]) fun _ _ _ _ _ _ us hl=>by obtain⟨u0,u1,u2,u3,rfl⟩:=usl4 hl;rfl
 have FKS:=fkM (K:=Kf w.params) "strike" "Keeper.strike" sKS 339 (qS "labelways.keeper" 600) (vR 338)
 have bKS:=FKS.binds (ps:=["self", "one", "other"]) fun _ _ _ _ _ _ us hl=>by obtain⟨u0,u1,u2,rfl⟩:=zIo hl;rfl
 have FKT:=fkM (K:=Kf w.params) "turn_to" "Keeper.turn_to" sKT 344 (qS "labelways.keeper" 600) (vR 343)
 have bKT:=FKT.binds (ps:=["self", "web"]) fun _ _ _ _ _ _ us hl=>by obtain⟨u0,u1,rfl⟩:=zEw hl;rfl
 have FKW:=fkM (K:=Kf w.params) "web_now" "Keeper.web_now" sKW 351 (qS "labelways.keeper" 600) (vR 350)
 have bKW:=FKW.binds (ps:=["self"]) fun _ _ _ _ _ _ us hl=>by obtain⟨u0,rfl⟩:=zIp hl;rfl
 have FKL:=fkM (K:=Kf w.params) "labels_now" "Keeper.labels_now" sKL 358 (qS "labelways.keeper" 600) (vR 357)
 have bKL:=FKL.binds (ps:=["self"]) fun _ _ _ _ _ _ us hl=>by obtain⟨u0,rfl⟩:=zIp hl;rfl
 have TKC:KC (Kf w.params) mg 375 325 332 339 344 351 358:=⟨mk "Keeper" 375 (by kernel_rfl),⟨by kernel_rfl,by kernel_rfl,by kernel_rfl,by kernel_rfl⟩,⟨by kernel_rfl,by kernel_rfl,by kernel_rfl,by kernel_rfl⟩,by unfold zCB;kernel_rfl,by unfold zCB;kernel_rfl,by unfold zCB;kernel_rfl,⟨by kernel_rfl,by kernel_rfl,by kernel_rfl⟩,⟨by kernel_rfl,by kernel_rfl,by kernel_rfl⟩,⟨by kernel_rfl,by kernel_rfl,by kernel_rfl⟩,⟨by kernel_rfl,by kernel_rfl,by kernel_rfl⟩,⟨by kernel_rfl,by kernel_rfl,by kernel_rfl⟩⟩
 have mML:mg "MOST_LONG" = some (.int 99 488):=PySem.W.mg_of KX G (by kernel_rfl)
 have mMT:mg "MOST_TIES" = some (.int 60 486):=PySem.W.mg_of KX G (by kernel_rfl)
 have ET:ErrG (Kf w.params) mg "NoTie" nsT 31 168 [51,70,120,180,89,156,144,192,108,132,204]:=⟨(mk "WayError" 31 (by kernel_rfl)),(mk "NoTie" 168 (by kernel_rfl)),by kernel_rfl,by kernel_rfl,by kernel_rfl,⟨by kernel_rfl,by kernel_rfl,by kernel_rfl,by kernel_rfl,by kernel_rfl,by kernel_rfl⟩,by show [mg "NoLabels",mg "NoLeast",mg "NoOrder",mg "NoPart",mg "NoPlan",mg "NoPosts",mg "NoRing",mg "NoRow",mg "NoText",mg "NoTree",mg "TooMany"]=_;rw[mk "NoLabels" 51 (by kernel_rfl),mk "NoLeast" 70 (by kernel_rfl),mk "NoOrder" 120 (by kernel_rfl),mk "NoPart" 180 (by kernel_rfl),mk "NoPlan" 89 (by kernel_rfl),mk "NoPosts" 156 (by kernel_rfl),mk "NoRing" 144 (by kernel_rfl),mk "NoRow" 192 (by kernel_rfl),mk "NoText" 108 (by kernel_rfl),mk "NoTree" 132 (by kernel_rfl),mk "TooMany" 204 (by kernel_rfl)];rfl,by kernel_rfl,by kernel_rfl,by kernel_rfl⟩
 have EO:ErrG (Kf w.params) mg "NoOrder" nsO 31 120 [51,70,180,89,156,144,192,108,168,132,204]:=⟨(mk "WayError" 31 (by kernel_rfl)),(mk "NoOrder" 120 (by kernel_rfl)),by kernel_rfl,by kernel_rfl,by kernel_rfl,⟨by kernel_rfl,by kernel_rfl,by kernel_rfl,by kernel_rfl,by kernel_rfl,by kernel_rfl⟩,by show [mg "NoLabels",mg "NoLeast",mg "NoPart",mg "NoPlan",mg "NoPosts",mg "NoRing",mg "NoRow",mg "NoText",mg "NoTie",mg "NoTree",mg "TooMany"]=_;rw[mk "NoLabels" 51 (by kernel_rfl),mk "NoLeast" 70 (by kernel_rfl),mk "NoPart" 180 (by kernel_rfl),mk "NoPlan" 89 (by kernel_rfl),mk "NoPosts" 156 (by kernel_rfl),mk "NoRing" 144 (by kernel_rfl),mk "NoRow" 192 (by kernel_rfl),mk "NoText" 108 (by kernel_rfl),mk "NoTie" 168 (by kernel_rfl),mk "NoTree" 132 (by kernel_rfl),mk "TooMany" 204 (by kernel_rfl)];rfl,by kernel_rfl,by kernel_rfl,by kernel_rfl⟩
 exact⟨_,273,269,by kernel_rfl,by kernel_rfl,fun s v=>.of_eq rfl,fun base hb _ hbm=>ok_law FZ (PySem.W.codeHd_of_K hb (show PySem.W.codeHdIn (Kf w.params) 273 269=true by kernel_rfl)) hbm TKC FKI bKI FKP bKP FKS bKS FKT bKT FKW bKW FKL bKL mML mMT ET EO FFe bFe mFe FTk bTk mTk FSa bSa mSa FWe bWe mWe FOd bOd mOd FDe bDe mDe FAf bAf mAf FDo bDo mDo FFw bFw mFw FBd bBd mBd FRf bRf mRf FNk bNk mNk FBo bBo mBo FSs bSs mSs FNu bNu mNu FWi bWi mWi FTo bTo mTo FPl bPl mPl FLg bLg mLg FT bT mT FLo bLo mLo FNe bNe mNe FF bF mF FLe bLe mLe FBw bBw mBw FNb bNb mNb FIo bIo mIo FBy bBy mBy FLb bLb mLb FIh bIh mIh FEb bEb mEb FWt bWt mWt FWo bWo mWo FPa bPa mPa FBt bBt mBt mb0 mb1 mb2 mb3 mb4 mb5 mb6 mb7 mb8 mb9 mb10 mb11 mb12 mb13 mb14⟩
end K65
open PySem PySem.W PyProof.Rows
set_option maxRecDepth 100000 in
set_option maxHeartbeats 0 in
theorem PySem.Challenge.cw_labelways_k65_what_keepers_refuse_holds : PySem.Challenge.rw_labelways_k65_what_keepers_refuse.Holds := by
 refine holds_law (by decide +kernel) fun said=>?_
 refine holds_open (q:=K65.V) (loose:=[]) (Xt:=fun s=>xlAt K65.V [] s && recOk (RowW.records K65.RR) s) (XP:=XL K65.V []) (Yf:=Hook.obs K65.HK) (Ya:=Hook.val K65.HK) (YP:=Hook.says K65.HK) (d:=K65.dL) (kwd:=[]) (N:=9112) K65.left (Hook.of K65.HK) (Hook.keeps K65.HK) (fun s e=>xl_of s (Bool.and_eq_true_iff.mp e).1) XL.keeps (by kernel_rfl) (by kernel_rfl) (by kernel_rfl) (fun s e=>recFacts_of (Bool.and_eq_true_iff.mp e).2) (by kernel_rfl) said (by decide +kernel) ⟨rfl,rfl,rfl,rfl,rfl,by decide +kernel⟩ ?hw ?hc
 case hw=>w_witness2
 case hc=>
  exact K65.walk (l:=PySem.Challenge.rw_labelways_k65_what_keepers_refuse) (K:=K65.Kf) rfl rfl ⟨((PyProof.Rows.recsOf K65.V).find? (fun e=>e.name==("nearest" : Str))).get (by decide +kernel),by simp⟩ (fun w h Y=>PySem.W.kIn_of Y) K65.facts
