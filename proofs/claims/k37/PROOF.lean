import PyProof.Rows.All
import Wide.All
import OpenK.AllK
import Wide.FinOn
import Lean
import PyProof.EqAt
import PyProof.EqKinds
import PyProof.TupleCall
import PyProof.ListRange
import PyProof.Rows.StrKeys3
import PyProof.ZipIter
import KE.KStateDown
import KE.KRevSl
import PyProof.Rows.Range3
import PySem.Challenge.RW_labelways_k37_whole_let_by_is_least
set_option Elab.async false
set_option linter.all false
set_option maxRecDepth 100000
section
open PySem PySem.Spec PyProof.Rows
abbrev zA:=@wpAny_bind
abbrev zB:=@List.length_map
abbrev zC:=@List.getElem?_eq_getElem
abbrev zD:=@List.getD_eq_getElem?_getD
abbrev zF:=@Heap.get?_push_of_some
abbrev zG:=@wpAny_pure
abbrev zI:=@Nat.le_refl
abbrev zJ:=@List.getElem?_map
abbrev zK:=@List.getElem?_eq_some_iff
abbrev zM:=@List.length_append
abbrev zN:=@List.map_append
abbrev zP:=@Option.some.inj
abbrev zQ:=@Heap.get?_push_size
abbrev zR:=@List.getElem?_append_right
abbrev zS:=@List.mem_of_getElem?
abbrev zU:=@decide_eq_true
abbrev zV:=@Heap.lt_size
abbrev zW:=@List.getElem?_append_left
abbrev zY:=@List.take_of_length_le
abbrev zZ:=@decide_eq_false
abbrev za:=@Nat.ne_of_lt
abbrev zb:=@List.mem_cons_of_mem
abbrev zc:=@List.size_toArray
abbrev zd:=@List.mem_cons_self
abbrev ze:=@List.mem_cons
abbrev zg:=@List.mem_append_right
abbrev zh:=@Nat.zero_le
abbrev zk:=@List.mem_singleton
abbrev zl:=@Nat.lt_of_lt_of_le
abbrev zm:=@Bool.false_ne_true
abbrev zo:=@List.append_nil
abbrev zp:=@List.mem_map
abbrev zr:=@List.length_take
abbrev zt:=@List.length_cons
abbrev zu:=@List.length_range
abbrev zv:=@List.length_filter_le
abbrev zx:=@List.getElem_of_mem
abbrev zy:=@List.take_add_one
abbrev zz:=@List.map_cons
abbrev zAC:=@List.mem_append
abbrev zAD:=@Nat.lt_of_le_of_lt
abbrev zAE:=@Nat.le_trans
abbrev zAF:=@Int.toNat_natCast
abbrev zAG:=@List.filter_cons_of_neg
abbrev zAH:=@List.length_replicate
abbrev zAI:=@Int.zero_add
abbrev zAJ:=@wpAny_mono
abbrev zAM:=@List.nodup_iff_pairwise_ne
abbrev zAN:=@List.nodup_cons
abbrev zAO:=@List.filter_nil
abbrev zAR:=@wpAny_holding
abbrev zAV:=@List.filter_cons_of_pos
abbrev zAW:=@Heap.get?_update_self
abbrev zAd:=@List.mem_range
abbrev zAe:=@List.getElem?_toArray
abbrev zAg:=@Option.map_some
abbrev zAh:=@Nat.lt_succ_of_lt
abbrev zAi:=@List.pairwise_iff_getElem
abbrev zAj:=@Heap.size_push
abbrev zAl:=@List.filter_append
abbrev zAn:=@List.getElem?_eq_none
abbrev zAo:=@Heap.get?_update_ne
abbrev zAq:=@List.lookup_cons
abbrev zAs:=@wpAny_newObj_type
abbrev zAt:=@List.pairwise_map
abbrev zAu:=@List.mem_filter
abbrev zAx:=@List.replicate_succ
abbrev zAz:=@List.length_singleton
abbrev zA1:=@wpAny_callSpecial?_slot
abbrev zA2:=@wpAny_Call_Name_kw
abbrev zA3:=@Nat.le_succ
abbrev zA4:=@List.mem_filterMap
abbrev zA5:=@List.getElem?_replicate
abbrev zA6:=@List.mem_append_left
abbrev zA7:=@wpAny_call_entry
abbrev zBA:=@List.getElem_mem
abbrev zBB:=@List.filter_cons
abbrev zBE:=@wpAny_loadPart_at
abbrev zBF:=@wpAny_tryCatch
abbrev zBH:=@List.all_eq_true
abbrev zBN:=@wpAny_truthy_bool
abbrev zBR:=@List.range_succ
abbrev zBS:=@List.map_congr_left
abbrev zBV:=@Nat.lt_irrefl
abbrev zBW:=@Bool.false_eq_true
abbrev zBZ:=@wpAny_seqItems
abbrev zBa:=@Classical.byContradiction
abbrev zBf:=@Nat.pow_le_pow_right
abbrev zBg:=@wpAny_call
abbrev zBh:=@List.length_set
abbrev zBo:=@Nat.le_of_lt
abbrev zBp:=@List.map_map
abbrev zBq:=@wpAny_standAt
abbrev zBr:=@List.sum_cons
abbrev zBs:=@List.getElem?_range
abbrev zBt:=@Int.le_refl
abbrev zBu:=@wpAny_typeNameOfWhole_keyiter
end
namespace L2
open PySem PySem.Spec PyProof.Rows
noncomputable abbrev Key:=Sum Int Str
noncomputable def zHZ:Key->Value->Bool
 | .inl k,v=>Value.isInt k v
 | .inr x,v=>Value.isStrOf x v
noncomputable def keyH (w:World):Key->Int
 | .inl k=>hashInt k
 | .inr x=>hashStr w x
theorem zBQ:∀{k:Key}{v:Value},zHZ k v=true->(∃i t,k=Sum.inl i/\v=Value.int i t)\/(∃x t,k=Sum.inr x/\v=Value.str x t)
 | .inl i,v,h=>by
  obtain⟨t,e⟩:=Value.isInt_shape (k:=i) (v:=v) h
  exact .inl ⟨i,t,rfl,e⟩
 | .inr x,v,h=>by
  obtain⟨t,e⟩:=Value.isStrOf_shape (x:=x) (v:=v) h
  exact .inr ⟨x,t,rfl,e⟩
theorem zIj (i:Int)(t:Tok):zHZ (.inl i) (.int i t)=true:=by simp[zHZ,Value.isInt]
theorem zIi (x:Str)(t:Tok):zHZ (.inr x) (.str x t)=true:=by simp[zHZ,Value.isStrOf]
theorem key_ll (a b:Int):decide ((Sum.inl a:Key)=Sum.inl b)=(a==b):=by
 by_cases e:a=b
 . subst e;simp
 . have h:¬ (Sum.inl a:Key)=Sum.inl b:=fun q=>e (Sum.inl.inj q)
   rw[zZ h]
   exact (beq_eq_false_iff_ne.mpr e).symm
theorem key_rr (a b:Str):decide ((Sum.inr a:Key)=Sum.inr b)=decide (a=b):=by
 by_cases e:a=b
 . subst e;simp
 . have h:¬ (Sum.inr a:Key)=Sum.inr b:=fun q=>e (Sum.inr.inj q)
   rw[zZ h,zZ e]
theorem key_lr (a:Int)(b:Str):decide ((Sum.inl a:Key)=Sum.inr b)=false:=zZ (fun q=>nomatch q)
theorem key_rl (a:Str)(b:Int):decide ((Sum.inr a:Key)=Sum.inl b)=false:=zZ (fun q=>nomatch q)
noncomputable def zA9 (prog:Program)(w:World):PySem.KeyKind prog w Key where
 is:=zHZ
 hash:=keyH w
 inj:=fun v a b ha hb=>by
  rcases zBQ ha with ⟨i,t,rfl,rfl⟩ | ⟨x,t,rfl,rfl⟩
  . rcases zBQ hb with ⟨j,u,rfl,e⟩ | ⟨y,u,rfl,e⟩
    . injection e with e1 _;rw[e1]
    . exact nomatch e
  . rcases zBQ hb with ⟨j,u,rfl,e⟩ | ⟨y,u,rfl,e⟩
    . exact nomatch e
    . injection e with e1 _;rw[e1]
 byValue:=fun k v h=>by
  rcases zBQ h with ⟨i,t,rfl,rfl⟩ | ⟨x,t,rfl,rfl⟩ <;> rfl
 pyHash:=fun hv h=>by
  rcases zBQ hv with ⟨i,t,rfl,rfl⟩ | ⟨x,t,rfl,rfl⟩
  . exact wpAny_pyHash_int h
  . exact wpAny_pyHash_str h
 eqBool:=fun hu hv h=>by
  rcases zBQ hu with ⟨i,t,rfl,rfl⟩ | ⟨x,t,rfl,rfl⟩
  . rcases zBQ hv with ⟨j,u,rfl,rfl⟩ | ⟨y,u,rfl,rfl⟩
    . rw[key_ll] at h;exact wpAny_eqBool_int h
    . rw[key_lr] at h;exact SeqAt.EqAt.int_str i t y u _ _ _ _ h
  . rcases zBQ hv with ⟨j,u,rfl,rfl⟩ | ⟨y,u,rfl,rfl⟩
    . rw[key_rl] at h;exact SeqAt.EqAt.str_int x t j u _ _ _ _ h
    . rw[key_rr] at h;exact wpAny_eqBool_str h
 «strs» := fun k x t v h=>by
  rcases zBQ h with ⟨i,u,rfl,e⟩ | ⟨y,u,rfl,e⟩
  . exact nomatch e
  . injection e with e1 _
    subst e1
    cases v <;> rfl
theorem zF7 (prog:Program)(w:World)(i:Int)(t:Tok):(zA9 prog w).is (.inl i) (.int i t)=true:=zIj i t
theorem zF6 (prog:Program)(w:World)(x:Str)(t:Tok):(zA9 prog w).is (.inr x) (.str x t)=true:=zIi x t
end L2
namespace L2
open PySem PySem.Spec PyProof.Rows
inductive V where
 | non | bl (b:Bool) | int (i:Int) | str (x:Str) | byt (b:Array UInt8) | flt (b:UInt64) | ref (a:Addr) | ty (n:String)
 deriving DecidableEq
noncomputable def zBT:V->Value->Prop
 | .non,u=>u=Value.none
 | .bl b,u=>u=Value.bool b
 | .int i,u=>∃t,u=Value.int i t
 | .str x,u=>∃t,u=Value.str x t
 | .byt b,u=>∃t,u=Value.bytes b t
 | .flt b,u=>∃t,u=Value.float b t
 | .ref a,u=>u=Value.ref a
 | .ty n,u=>u=Value.type n
noncomputable abbrev zBJ:List V->List Value->Prop:=Paired zBT
theorem zBJ.length {xs:List V}{us:List Value}(r:zBJ xs us):xs.length=us.length:=Paired.length r
theorem zBJ.get:∀{xs:List V}{us:List Value}{i:Nat}{x:V},zBJ xs us->xs[i]? = some x->∃u,us[i]? = some u/\zBT x u
 | _,_,_,_,.nil,e=>by simp at e
 | _,_,0,_,.cons r _,e=>by simp at e;subst e;exact⟨_,rfl,r⟩
 | _,_,i+1,x,.cons _ t,e=>by
  obtain⟨u,h1,h2⟩:=zBJ.get (i:=i) (x:=x) t (by simpa using e)
  exact⟨u,by simpa using h1,h2⟩
theorem zBJ.set {x:V}{u:Value}(r:zBT x u):∀{xs:List V}{us:List Value}(i:Nat),zBJ xs us->zBJ (xs.set i x) (us.set i u)
 | _,_,_,.nil=>.nil
 | _,_,0,.cons _ t=>.cons r t
 | _,_,i+1,.cons q t=>.cons q (zBJ.set r i t)
theorem zBJ.append:∀{xs ys:List V}{us ws:List Value},zBJ xs us->zBJ ys ws->zBJ (xs++ys) (us++ws)
 | _,_,_,_,.nil,s=>s
 | _,_,_,_,.cons r t,s=>.cons r (zBJ.append t s)
theorem zBJ.take:∀{xs:List V}{us:List Value}(n:Nat),zBJ xs us->zBJ (xs.take n) (us.take n)
 | _,_,0,_=>.nil
 | _,_,_+1,.nil=>.nil
 | _,_,n+1,.cons r t=>.cons r (zBJ.take n t)
theorem zBJ.drop:∀{xs:List V}{us:List Value}(n:Nat),zBJ xs us->zBJ (xs.drop n) (us.drop n)
 | _,_,0,r=>r
 | _,_,_+1,.nil=>.nil
 | _,_,n+1,.cons _ t=>zBJ.drop n t
noncomputable def zEy:Option V->Option Value->Prop
 | some v,some u=>zBT v u
 | none,none=>True
 | _,_=>False
noncomputable def KV {κ:Type}:List (κ×V)->List (κ×Value)->Prop:=Paired fun (p:κ×V)(q:κ×Value)=>p.1=q.1/\zBT p.2 q.2
noncomputable def kV:Key->V
 | .inl i=>.int i
 | .inr x=>.str x
inductive HO where
 /-- a list -/
 | lst (xs:List V)
 /-- a tuple (never changes) -/
 | tup (xs:List V)
 /-- a dict whose keys are ints and texts;one whose keys are tuples of ints and texts (the empty one is both) -/
 | dK (kvs:List (Key×V)) | dT (kvs:List (List Key×V))
 /-- a set of ints: its members,its size -/
 | set (S:Int->Bool)(n:Nat)
 /-- an instance of the class at C,its dict at dx,its attributes -/
 | ins (C dx:Addr)(fs:List (Str×V))
 /-- the dict of the instance at x -/
 | own (x:Addr)
 /-- the dict of an exception -/
 | xd (fs:List (Str×V))
 /-- a bound method,f of x -/
 | met (f x:Addr)
 /-- a range object lo,lo+1,.. below hi -/
 | rng (lo hi:Int)
 /-- a thing that is known to the object (the script;a dict while a loop walks it): read,never written while it is so -/
 | frz (o:Obj)(u:HO)
 /-- a code object's table -/
 | tbl (ps:Array Value)
 /-- any other thing,by what is true of its one object (a def of one's own: SetO a S n:=HO.ext fun h=>..) -/
 | ext (φ:Heap->Prop)
noncomputable abbrev Hp:=Addr->Option HO
noncomputable def upd (H:Hp)(a:Addr)(o:HO):Hp:=fun b=>if b=a then some o else H b
theorem zH {H:Hp}{a:Addr}{o:HO}:upd H a o a=some o:=by unfold upd;rw[if_pos rfl]
theorem zX {H:Hp}{a b:Addr}{o:HO}(h:b≠a):upd H a o b=H b:=by unfold upd;rw[if_neg h]
theorem zBX {H:Hp}{a:Addr}{o u:HO}:upd (upd H a o) a u=upd H a u:=by
 funext b;unfold upd;split <;> rfl
theorem zBw {H:Hp}{a b:Addr}{o u:HO}(h:H a=some o)(h':H b=some u)(d:o≠u):a≠b:=by
 intro e;subst e;rw[h] at h';exact d (zP h')
theorem zi {H:Hp}{a b:Addr}{o:HO}(h:H a=some o)(h':H b=none):a≠b:=by
 intro e;subst e;rw[h] at h';cases h'
section
variable (P:Program)(w:World)
noncomputable def zBM (H:Hp)(h:Heap)(a:Addr):HO->Prop
 | .lst xs=>xs.length<=sizeLine/\∃(its:List Value)(n:Nat),zBJ xs its/\h.get? a=some { cls:=.type "list",data:=.seq its.toArray n }
 | .tup xs=>(xs.length<=sizeLine/\∃o,h.get? a=some o/\o.dict=none)/\∃its:List Value,zBJ xs its/\IsTup h a its.toArray
 | .dK kvs=>kvs.length<=sizeLine/\(a==sysModules)=false/\∃vs,KV kvs vs/\h.DictOf (zA9 P w) a vs
 | .dT kvs=>kvs.length<=sizeLine/\(a==sysModules)=false/\∃xs:List (List Key×Addr×Value),
  Paired (fun (p:List Key×V)(q:List Key×Addr×Value)=>p.1=q.1/\H q.2.1=some (.tup (p.1.map kV))/\zBT p.2 q.2.2) kvs xs /\
  ∃o es ep,h.get? a=some o/\o.ExactDict/\o.data = .dict es ep/\es.toList=xs.map (entryOfKey (tupleKind (zA9 P w)))/\(xs.map (·.1)).Nodup
 | .set S n=>h.SetOf (intKind P w) a S n
 | .ins C dx fs=>H dx=some (.own a)/\fs.length<=1000/\dx≠a/\h.get? a=some (PySem.W.instObj C dx) /\
  ∃mA,h.Ns1 dx mA/\(∀f,zEy (fs.lookup f) (mA f))/\PySem.Within mA (fs.map (·.1))
 | .own _=>∃o,h.get? a=some o
 | .xd fs=>∃mA,h.Ns1 a mA/\∀f,zEy (fs.lookup f) (mA f)
 | .rng lo hi=>∃t u v,h.get? a=some { cls:=.type "range",data:=.fields #[.int lo t,.int hi u,.int 1 v] }
 | .frz o u=>h.get? a=some o/\zBM H h a u
 | .tbl ps=>h.get? a=some { cls:=.none,data:=.fields ps }
 | .met f x=>h.get? a=some (PySem.W.methodObj (.ref f) (.ref x))
 | .ext φ=>φ h/\(∃o,h.get? a=some o)/\∀h1 h2:Heap,φ h1->(∀o,h1.get? a=some o->h2.get? a=some o)->φ h2
noncomputable def HOk (H:Hp)(h:Heap):Prop:=∀a o,H a=some o->zBM P w H h a o
end
section
variable {P:Program}{w:World}{H H':Hp}{h h':Heap}{a:Addr}{o:HO}
theorem zBM.lt (x:zBM P w H h a o):a<h.objs.size:=by
 cases o with
 | lst xs=>obtain⟨_,_,_,_,e⟩:=x;exact zV e
 | tup xs=>obtain⟨_,_,_,p⟩:=x;exact p.lt
 | dK kvs=>obtain⟨_,_,_,_,o,_,_,e,_⟩:=x;exact zV e
 | dT kvs=>obtain⟨_,_,_,_,o,_,_,e,_⟩:=x;exact zV e
 | set S n=>obtain⟨o,_,_,_,e,_⟩:=x;exact zV e
 | ins C dx fs=>obtain⟨_,_,_,e,_⟩:=x;exact zV e
 | own y=>obtain⟨_,e⟩:=x;exact zV e
 | xd fs=>obtain⟨_,⟨_,_,_,e,_⟩,_⟩:=x;exact zV e
 | rng lo hi=>obtain⟨_,_,_,e⟩:=x;exact zV e
 | frz ob u=>obtain⟨e,_⟩:=x;exact zV e
 | tbl ps=>exact zV (show h.get? a=some _ from x)
 | met f y=>exact zV (show h.get? a=some _ from x)
 | ext φ=>obtain⟨_,⟨_,e⟩,_⟩:=x;exact zV e
theorem Paired.mapP {α β:Type}{F G:α->β->Prop}:∀{l₁:List α}{l₂:List β},Paired F l₁ l₂->(∀a b,F a b->G a b)->Paired G l₁ l₂
 | _,_,.nil,_=>.nil
 | _,_,.cons r t,f=>.cons (f _ _ r) (Paired.mapP t f)
theorem zBM.stay (x:zBM P w H h a o)(k:∀b u,(b=a\/H b=some (.own a))->h.get? b=some u->h'.get? b=some u)
 (ho:∀b,H b=some (.own a)->H' b=some (.own a))(ht:∀b xs,H b=some (.tup xs)->H' b=some (.tup xs)):zBM P w H' h' a o:=by
 induction o with
 | lst xs=>obtain⟨z,its,n,r,e⟩:=x;exact⟨z,its,n,r,k _ _ (.inl rfl) e⟩
 | tup xs=>obtain⟨⟨z,o2,e2,d2⟩,its,r,ob,e,c⟩:=x;exact⟨⟨z,o2,k _ _ (.inl rfl) e2,d2⟩,its,r,ob,k _ _ (.inl rfl) e,c⟩
 | dK kvs=>obtain⟨z,y,vs,r,ob,es,ep,e,c⟩:=x;exact⟨z,y,vs,r,ob,es,ep,k _ _ (.inl rfl) e,c⟩
 | dT kvs=>
  obtain⟨z,y,xs,r,ob,es,ep,e,c⟩:=x
  exact⟨z,y,xs,Paired.mapP r fun p q z=>⟨z.1,ht _ _ z.2.1,z.2.2⟩,ob,es,ep,k _ _ (.inl rfl) e,c⟩
 | set S n=>obtain⟨ob,es,ep,t,e,c⟩:=x;exact⟨ob,es,ep,t,k _ _ (.inl rfl) e,c⟩
 | ins C dx fs=>
  obtain⟨d,z,ne,e,mA,⟨od,es,ep,e2,c⟩,r⟩:=x
  exact⟨ho _ d,z,ne,k _ _ (.inl rfl) e,mA,⟨od,es,ep,k _ _ (.inr d) e2,c⟩,r⟩
 | own y=>obtain⟨ob,e⟩:=x;exact⟨ob,k _ _ (.inl rfl) e⟩
 | xd fs=>obtain⟨mA,⟨od,es,ep,e,c⟩,r⟩:=x;exact⟨mA,⟨od,es,ep,k _ _ (.inl rfl) e,c⟩,r⟩
 | rng lo hi=>obtain⟨t,u,v,e⟩:=x;exact⟨t,u,v,k _ _ (.inl rfl) e⟩
 | frz ob u ih=>obtain⟨e,q⟩:=x;exact⟨k _ _ (.inl rfl) e,ih q⟩
 | tbl ps=>
  have e:h.get? a=some { cls:=.none,data:=.fields ps }:=x
  show h'.get? a=some { cls:=.none,data:=.fields ps }
  exact k a _ (.inl rfl) e
 | met f y=>
  have e:h.get? a=some (PySem.W.methodObj (.ref f) (.ref y)):=x
  show h'.get? a=some (PySem.W.methodObj (.ref f) (.ref y))
  exact k a _ (.inl rfl) e
 | ext φ=>obtain⟨p,⟨o,e⟩,st⟩:=x;exact⟨st _ _ p fun o q=>k _ _ (.inl rfl) q,⟨o,k _ _ (.inl rfl) e⟩,st⟩
theorem HOk.lt (x:HOk P w H h)(e:H a=some o):a<h.objs.size:=(x a o e).lt
theorem HOk.fresh (x:HOk P w H h)(e:h.objs.size<=a):H a=none:=by
 cases q:H a with
 | none=>rfl
 | some u=>exact absurd (zl (x.lt q) e) (zBV _)
theorem HOk.kept (x:HOk P w H h)(k:∀b u,h.get? b=some u->h'.get? b=some u):HOk P w H h':=fun a o e=>
 (x a o e).stay (fun b u _ q=>k b u q) (fun _ q=>q) fun _ _ q=>q
theorem HOk.laid (x:HOk P w H h)(k:∀b u,h.get? b=some u->h'.get? b=some u)(hp:h.objs.size<=a)(new:zBM P w (upd H a o) h' a o):HOk P w (upd H a o) h':=fun b u e=>by
 have hn:=x.fresh hp
 by_cases hb:b=a
 . subst hb;rw[zH] at e;cases e;exact new
 . rw[zX hb] at e
   exact (x b u e).stay (fun c v _ q=>k c v q) (fun c q=>by rw[zX (zi q hn)];exact q) fun c xs q=>by rw[zX (zi q hn)];exact q
end
noncomputable def Rd (H:Hp)(a:Addr)(u:HO):Prop:=H a=some u\/∃o,H a=some (.frz o u)
theorem Rd.ok {P:Program}{w:World}{H:Hp}{h:Heap}{a:Addr}{u:HO}(r:Rd H a u)(x:HOk P w H h):zBM P w H h a u:=by
 rcases r with r | ⟨o,r⟩
 . exact x a u r
 . obtain⟨_,q⟩:=x a _ r
   exact q
noncomputable def Mut:Option HO->Prop
 | some (.lst _)=>True
 | some (.dK _)=>True
 | some (.dT _)=>True
 | some (.set _ _)=>True
 | some (.ins _ _ _)=>True
 | some (.ext _)=>True
 | _=>False
section
variable {P:Program}{w:World}{H:Hp}{h h':Heap}{x e:Addr}{o':HO}
theorem HOk.write (ok:HOk P w H h)(mu:Mut (H x))(he:e=x\/H e=some (.own x))(k:∀b u,b≠e->h.get? b=some u->h'.get? b=some u)(heo:∃u,h'.get? e=some u)
 (new:zBM P w (upd H x o') h' x o'):HOk P w (upd H x o') h':=fun b u q=>by
 have nown:∀c y,H c=some (.own y)->c≠x:=fun c y r z=>by subst z;rw[r] at mu;exact mu
 have ntup:∀c xs,H c=some (.tup xs)->c≠x:=fun c xs r z=>by subst z;rw[r] at mu;exact mu
 by_cases hb:b=x
 . subst hb;rw[zH] at q;cases q;exact new
 . rw[zX hb] at q
   by_cases hbe:b=e
   . have q':H b=some (.own x):=by
      rcases he with z | z
      . exact absurd (hbe.trans z) hb
      . rw[hbe];exact z
     rw[q] at q';cases q'
     obtain⟨v,hv⟩:=heo
     exact⟨v,by rw[hbe];exact hv⟩
   . refine (ok b u q).stay (fun c v hc r=>k c v ?_ r) (fun c r=>by rw[zX (nown c b r)];exact r) fun c xs r=>by rw[zX (ntup c xs r)];exact r
     rcases hc with rfl | hc
     . exact hbe
     . rintro rfl
       rcases he with z | z
       . exact nown c b hc z
       . rw[hc] at z;cases z;exact hb rfl
end
structure Un (fs ex:List Addr)(H H':Hp)(h h':Heap):Prop where
 keep:∀b o,h.get? b=some o->H b=none->b∉fs->b∉ex->h'.get? b=some o
 slot:∀b o,h.get? b=some o->H b=none->b∈fs->b∉ex->∃sl,h'.get? b=some { o with slots:=sl }
 free:∀b o,h.get? b=some o->H b=none->b∉ex->H' b=none
 there:∀b o,h.get? b=some o->b∉ex->∃o',h'.get? b=some o'
 tups:∀b xs,H b=some (.tup xs)->H' b=some (.tup xs)
 frzs:∀b o u,H b=some (.frz o u)->H' b=some (.frz o u)
 tbls:∀b ps,H b=some (.tbl ps)->∃more,H' b=some (.tbl (ps++more))
section
variable {fs fs' ex ex':List Addr}{H H1 H2:Hp}{h h1 h2 h':Heap}{a x e:Addr}{o:HO}
theorem Un.any (u:Un fs ex H H1 h h1){b:Addr}{ob:Obj}(q:h.get? b=some ob)(n:H b=none)(hx:b∉ex):∃sl,h1.get? b=some { ob with slots:=sl }:=by
 by_cases hb:b∈fs
 . exact u.slot b ob q n hb hx
 . exact⟨ob.slots,u.keep b ob q n hb hx⟩
theorem Un.trans (a:Un fs ex H H1 h h1)(b:Un fs ex H1 H2 h1 h2):Un fs ex H H2 h h2 where
 keep:=fun c ob q n hc hx=>b.keep c ob (a.keep c ob q n hc hx) (a.free c ob q n hx) hc hx
 slot:=fun c ob q n hc hx=>by
  obtain⟨sl,e1⟩:=a.slot c ob q n hc hx
  obtain⟨sl',e2⟩:=b.slot c _ e1 (a.free c ob q n hx) hc hx
  exact⟨sl',e2⟩
 free:=fun c ob q n hx=>by
  obtain⟨o',e1⟩:=a.there c ob q hx
  exact b.free c o' e1 (a.free c ob q n hx) hx
 there:=fun c ob q hx=>by
  obtain⟨o',e1⟩:=a.there c ob q hx
  exact b.there c o' e1 hx
 tups:=fun c xs q=>b.tups c xs (a.tups c xs q)
 frzs:=fun c ob xs q=>b.frzs c ob xs (a.frzs c ob xs q)
 tbls:=fun c ps q=>by
  obtain⟨m1,e1⟩:=a.tbls c ps q
  obtain⟨m2,e2⟩:=b.tbls c _ e1
  exact⟨m1++m2,by rw[e2,Array.append_assoc]⟩
theorem Un.kept (k:∀b u,h.get? b=some u->h'.get? b=some u):Un fs ex H H h h':=
 ⟨fun b ob q _ _ _=>k b ob q,fun b ob q _ _ _=>⟨ob.slots,k b ob q⟩,fun _ _ _ n _=>n,fun b ob q _=>⟨ob,k b ob q⟩,fun _ _ q=>q,fun _ _ _ q=>q,fun _ ps q=>⟨#[],by rw[q];simp⟩⟩
theorem Un.refl:Un fs ex H H h h:=Un.kept fun _ _ q=>q
theorem Un.laid (k:∀b u,h.get? b=some u->h'.get? b=some u)(hp:h.objs.size<=a)(hn:H a=none):Un fs ex H (upd H a o) h h' where
 keep:=fun b u q _ _ _=>k b u q
 slot:=fun b u q _ _ _=>⟨u.slots,k b u q⟩
 free:=fun b u q n _=>by rw[zX (za (zl (zV q) hp))];exact n
 there:=fun b u q _=>⟨u,k b u q⟩
 tups:=fun b xs q=>by rw[zX (zi q hn)];exact q
 frzs:=fun b u xs q=>by rw[zX (zi q hn)];exact q
 tbls:=fun b ps q=>⟨#[],by rw[zX (zi q hn),q];simp⟩
theorem Un.write (mu:Mut (H x))(he:e=x\/H e=some (.own x))(k:∀b u,b≠e->h.get? b=some u->h'.get? b=some u)(heo:∃u,h'.get? e=some u):Un fs ex H (upd H x o) h h':=by
 have hx:∀b,H b=none->b≠x:=fun b n z=>by subst z;rw[n] at mu;exact mu
 have hb:∀b,H b=none->b≠e:=fun b n z=>by
  subst z
  rcases he with r | r
  . exact hx b n r
  . rw[n] at r;cases r
 have hm:∀b u,H b=some u->¬ Mut (some u)->b≠x:=fun b u q nm z=>by subst z;rw[q] at mu;exact nm mu
 refine⟨fun b u q n _ _=>k b u (hb b n) q,fun b u q n _ _=>⟨u.slots,k b u (hb b n) q⟩,fun b u q n _=>by rw[zX (hx b n)];exact n,fun b u q _=>?_,
  fun b xs q=>by rw[zX (hm b _ q fun z=>z)];exact q,fun b u xs q=>by rw[zX (hm b _ q fun z=>z)];exact q,fun b ps q=>⟨#[],by rw[zX (hm b _ q fun z=>z),q];simp⟩⟩
 by_cases hbe:b=e
 . subst hbe;exact heo
 . exact⟨u,k b u hbe q⟩
end
noncomputable def trk (h:Heap)(H:Hp):List Addr:=(List.range h.objs.size).filter fun a=>(H a).isSome
noncomputable def zJa (h:Heap)(H:Hp):Heap:=PySem.W.hideAll h (trk h H)
theorem zIr (h:Heap)(H:Hp):(zJa h H).objs.size=h.objs.size:=PySem.W.hideAll_size _ _
theorem zKQ {h:Heap}{H:Hp}{b:Addr}{o:Obj}(e:h.get? b=some o)(n:H b=none):(zJa h H).get? b=some o:=
 PySem.W.hideAll_get _ e fun hm=>by
  have q:(H b).isSome=true:=(zAu.mp hm).2
  rw[n] at q;simp at q
theorem zMD {h:Heap}{H:Hp}{b:Addr}{o:Obj}(e:(zJa h H).get? b=some o):h.get? b=some o/\H b=none:=by
 have e':h.get? b=some o:=PySem.W.of_hideAll (trk h H) e
 refine⟨e',?_⟩
 cases q:H b with
 | none=>rfl
 | some x=>
  have hm:b∈trk h H:=zAu.mpr ⟨zAd.mpr (zV e'),by simp[q]⟩
  have z:(zJa h H).get? b=none:=PySem.W.hideAll_none (trk h H) hm
  rw[z] at e;cases e
noncomputable def zDz (g h:Heap)(L:Addr):List (Addr×Obj):=(List.range h.objs.size).filterMap fun a=>if a=L\/(g.get? a).isSome=true then none else (h.get? a).map fun o=>(a,o)
theorem zF8 {g h:Heap}{L a:Addr}{o:Obj}(h1:a≠L)(h2:g.get? a=none)(h3:h.get? a=some o):(a,o)∈zDz g h L:=
 zA4.mpr ⟨a,zAd.mpr (zV h3),by simp[h1,h2,h3]⟩
theorem zD5 {g h:Heap}{L:Addr}{p:Addr×Obj}(hp:p∈zDz g h L):p.1≠L/\g.get? p.1=none/\h.get? p.1=some p.2:=by
 obtain⟨b,_,e⟩:=zA4.mp hp
 split at e
 . cases e
 . rename_i hn
   cases q:h.get? b with
   | none=>rw[q] at e;simp at e
   | some u=>
    rw[q] at e
    simp only[zAg,Option.some.injEq] at e
    subst e
    refine⟨fun z=>hn (.inl z),?_,q⟩
    show g.get? b=none
    cases r:g.get? b with
    | none=>rfl
    | some v=>exact (hn (.inr (by simp[r]))).elim
theorem zKI {g h:Heap}{L:Addr}:News g L h (zDz g h L):=fun p hp=>let ⟨a,b,c⟩:=zD5 hp;⟨c,a,b⟩
end L2
namespace L2
open PySem PySem.Spec PyProof.Rows
structure Mod (K:PySem.W.Frag)(mg:Str->Option Value)(base:Heap):Prop where
 kin:K.In base
 glob:base.Ns mainGlobals mg
 blt:∃mb,base.Ns builtinsNs mb/\∀x:Str,x ≠ "__name__" -> mb x=bootBuiltins x
 nolimit:base.NoLimit
structure Cx where
 prog:Program
 w:World
 K:PySem.W.Frag
 mg:Str->Option Value
 base:Heap
 A:Around
 N:List Str
 s₀:Shared
 H₀:Hp
 env:Env
 outer:List Env
 stack:List Env
 ex:List Addr
 fn:Str->Bool
 calm:Bool
 pn:List (Addr×Obj)
 xe:Value->Shared->Prop
noncomputable def frs (l:List Env):List Addr:=l.filterMap (·.frame)
noncomputable abbrev Cx.fs (X:Cx):List Addr:=frs X.outer
noncomputable def Vis (sc:Scope)(x:Str):Prop:=sc.names.lookup x=some .local\/sc.names.lookup x=some .cell\/sc.names.lookup x=some .free
noncomputable def Loc (sc:Scope)(x:Str):Prop:=sc.names.lookup x=some .local\/sc.names.lookup x=some .cell
noncomputable def zJV (env:Env)(h:Heap)(m:Str->Option Value)(x:Str)(u:Value):Prop:=
 (env.kindOf x=some .local/\m x=some u)\/((env.kindOf x=some .cell\/env.kindOf x=some .free)/\∃c,env.cells.lookup x=some c/\h.IsCell c (some u))
structure Cx.Ok (X:Cx):Prop where
 mod:Mod X.K X.mg X.base
 kind:X.env.scope.kind = .function
 glob:X.env.globals=mainGlobals
 blt:X.env.builtins=builtinsNs
 above:X.s₀.heap.objs.size<=X.env.locals
 inj:∀x y c,X.env.cells.lookup x=some c->X.env.cells.lookup y=some c->x=y
 has:∀x,(X.env.kindOf x=some .cell\/X.env.kindOf x=some .free)->∃c,X.env.cells.lookup x=some c
 cab:∀x c,X.fn x=true->X.env.cells.lookup x=some c->X.s₀.heap.objs.size<=c
 hd:X.calm=true->X.A.handled=none
 frames:X.A.frames=some X.stack
 stk:X.stack=X.outer\/(X.stack=X.env::X.outer/\X.env.frame=some X.env.locals)
 exf:∀b∈X.ex,b≠X.env.locals/\∀x c,X.env.cells.lookup x=some c->c≠b
 bs:∀b o,X.base.get? b=some o->X.s₀.heap.get? b=some o/\X.H₀ b=none
 bsz:X.base.objs.size<=X.s₀.heap.objs.size
 noex:∀b o,X.base.get? b=some o->b∉X.ex
 exfs:∀b∈X.ex,b∉X.fs
 funs:X.s₀.heap.FunFrames X.base X.outer
 frf:∀b∈X.fs,X.H₀ b=none
structure Inv (X:Cx)(pins:List (Addr×Obj))(σ:List (Option V))(H:Hp)(s:Shared):Prop where
 ok:X.Ok
 os:s.os=X.s₀.os
 bare:AllBare s.gens
 base:Un X.fs X.ex X.H₀ H X.s₀.heap s.heap
 loc:∃m,s.heap.Ns X.env.locals m/\∀(i:Nat)(x:Str)(v:V),X.N[i]? = some x->σ[i]? = some (some v)->Vis X.env.scope x->∃u,zBT v u/\zJV X.env s.heap m x u
 cell:∀x c,X.env.cells.lookup x=some c->∃v,s.heap.IsCell c v
 free:H X.env.locals=none
 freeC:∀x c,X.env.cells.lookup x=some c->H c=none
 pin:∀p∈X.pn++pins,s.heap.get? p.1=some p.2/\H p.1=none/\p.1≠X.env.locals/\p.1∉X.fs/\∀v,p.2.data ≠ .cell v
 hok:HOk X.prog X.w H s.heap
 len:σ.length=X.N.length
section
variable {X:Cx}{pins:List (Addr×Obj)}{σ:List (Option V)}{H H':Hp}{s:Shared}{h':Heap}
theorem Cx.Ok.nofr (ok:X.Ok){b:Addr}{o:Obj}(e:X.base.get? b=some o):b∉X.fs:=fun hb=>by
 have:=(ok.funs.mem hb).1
 rw[e] at this;cases this
theorem Inv.bs (I:Inv X pins σ H s):∀b o,X.base.get? b=some o->s.heap.get? b=some o/\H b=none:=fun b o e=>
 ⟨I.base.keep b o (I.ok.bs b o e).1 (I.ok.bs b o e).2 (I.ok.nofr e) (I.ok.noex b o e),I.base.free b o (I.ok.bs b o e).1 (I.ok.bs b o e).2 (I.ok.noex b o e)⟩
theorem Inv.bk (I:Inv X pins σ H s):∀b o,X.base.get? b=some o->s.heap.get? b=some o:=fun b o e=>(I.bs b o e).1
theorem Inv.mod (I:Inv X pins σ H s):Mod X.K X.mg X.base:=I.ok.mod
theorem Inv.kIn (I:Inv X pins σ H s):X.K.In s.heap:=I.ok.mod.kin.keeps I.bk
theorem Inv.nolimit (I:Inv X pins σ H s):s.heap.NoLimit:=I.ok.mod.nolimit.keeps I.bk
theorem Inv.fr (I:Inv X pins σ H s):∃m,Fr X.base X.env.locals s.heap m:=
 let ⟨m,hn,_⟩:=I.loc
 ⟨m,hn,I.bk,zAE I.ok.bsz I.ok.above⟩
theorem Inv.lt (I:Inv X pins σ H s):X.env.locals<s.heap.objs.size:=let ⟨_,hn,_⟩:=I.loc;hn.lt
theorem Inv.sz (I:Inv X pins σ H s):X.s₀.heap.objs.size<=s.heap.objs.size:=zAE I.ok.above (zBo I.lt)
theorem Inv.nofs (I:Inv X pins σ H s){a:Addr}(h:s.heap.objs.size<=a):a∉X.fs:=fun hb=>by
 obtain⟨_,o,ho,_⟩:=I.ok.funs.mem hb
 exact absurd (zl (zV ho) (zAE I.sz h)) (zBV _)
theorem Inv.cne (I:Inv X pins σ H s):∀x c,X.env.cells.lookup x=some c->c≠X.env.locals:=fun x c e z=>by
 obtain⟨v,o,ho,hd⟩:=I.cell x c e
 obtain⟨m,⟨o',es,ep,ho',hd',_⟩,_⟩:=I.loc
 rw[z,ho'] at ho;cases ho;rw[hd'] at hd;cases hd
theorem Inv.funs (I:Inv X pins σ H s):s.heap.FunFrames X.base X.outer:=by
 have all:∀(l:List Env),(∀b∈frs l,b∈X.fs)->X.s₀.heap.FunFrames X.base l->s.heap.FunFrames X.base l:=by
  intro l
  induction l with
  | nil=>intro _ _;trivial
  | cons env r ih=>
   intro hs hl
   obtain⟨hk,⟨L,o,hf,hn,ho,hd⟩,hr⟩:=hl
   have hL:L∈X.fs:=hs L (by unfold frs;rw[List.filterMap_cons,hf];exact zd)
   obtain⟨sl,e⟩:=I.base.slot L o ho (I.ok.frf L hL) hL fun z=>I.ok.exfs L z hL
   exact⟨hk,⟨L,_,hf,hn,e,hd⟩,ih (fun b hb=>hs b (by unfold frs;rw[List.filterMap_cons,hf];exact zb _ hb)) hr⟩
 exact all X.outer (fun _ hb=>hb) I.ok.funs
theorem Inv.stack (I:Inv X pins σ H s):s.heap.FunFrames X.base X.stack:=by
 rcases I.ok.stk with e | ⟨e,hf⟩
 . rw[e];exact I.funs
 . rw[e]
   obtain⟨m,hn,_⟩:=I.loc
   refine .cons (by rw[I.ok.kind];decide) hf hn ?_ I.funs
   exact Heap.get?_none_of_le (zAE I.ok.bsz I.ok.above)
theorem Inv.stkSub (I:Inv X pins σ H s):∀b∈frs X.stack,b∈X.env.locals::X.fs:=fun b hb=>by
 rcases I.ok.stk with e | ⟨e,hf⟩
 . rw[e] at hb;exact zb _ hb
 . rw[e] at hb
   unfold frs at hb
   rw[List.filterMap_cons,hf] at hb
   exact hb
theorem Inv.stkFree (I:Inv X pins σ H s):∀b∈frs X.stack,H b=none:=fun b hb=>by
 rcases ze.mp (I.stkSub b hb) with e | hb
 . rw[e];exact I.free
 . obtain⟨_,o,ho,_⟩:=I.ok.funs.mem hb
   exact I.base.free b o ho (I.ok.frf b hb) fun z=>I.ok.exfs b z hb
theorem Inv.step {g':Array GenState}{t':Nat}{d':Drawn}{ch:List Addr}(I:Inv X pins σ H s)
 (hch:∀b∈ch,(b∈X.ex\/X.s₀.heap.objs.size<=b)/\b≠X.env.locals/\(∀x c,X.env.cells.lookup x=some c->c≠b)/\∀p∈X.pn++pins,p.1≠b)
 (keep:∀b o,b≠X.env.locals->b∉X.fs->b∉ch->s.heap.get? b=some o->H b=none->h'.get? b=some o)
 (slot:∀b o,b≠X.env.locals->b∈X.fs->b∉ch->s.heap.get? b=some o->H b=none->∃sl,h'.get? b=some { o with slots:=sl })(free:∀b o,b∉ch->s.heap.get? b=some o->H b=none->H' b=none)
 (there:∀b o,b∉ch->s.heap.get? b=some o->∃o',h'.get? b=some o')
 (tups:∀b xs,H b=some (.tup xs)->H' b=some (.tup xs))(frzs:∀b o u,H b=some (.frz o u)->H' b=some (.frz o u))(tbls:∀b ps,H b=some (.tbl ps)->∃more,H' b=some (.tbl (ps++more)))
 (ns:∀m,s.heap.Ns X.env.locals m->h'.Ns X.env.locals m)(hok:HOk X.prog X.w H' h')(hg:AllBare g') :
 Inv X pins σ H' { s with heap:=h',gens:=g',drawn:=d',toks:=t' }:=by
 have neL:∀b o,X.s₀.heap.get? b=some o->b≠X.env.locals:=fun b o e=>za (zl (zV e) I.ok.above)
 have neC:∀b o,X.s₀.heap.get? b=some o->b∉X.ex->b∉ch:=fun b o e hx hb=>by
  rcases (hch b hb).1 with z | z
  . exact hx z
  . exact absurd (zl (zV e) z) (zBV _)
 have cellK:∀x c,X.env.cells.lookup x=some c->∀v,s.heap.IsCell c v->h'.IsCell c v:=fun x c e v ⟨o,ho,hd⟩=>by
  have nch:c∉ch:=fun z=>(hch c z).2.2.1 x c e rfl
  by_cases hc:c∈X.fs
  . obtain⟨sl,q⟩:=slot c o (I.cne x c e) hc nch ho (I.freeC x c e)
    exact⟨_,q,hd⟩
  . exact⟨o,keep c o (I.cne x c e) hc nch ho (I.freeC x c e),hd⟩
 refine⟨I.ok,I.os,hg,⟨fun b o e n hb hx=>?_,fun b o e n hb hx=>?_,fun b o e n hx=>?_,fun b o e hx=>?_,fun b xs e=>tups b xs (I.base.tups b xs e),fun b o xs e=>frzs b o xs (I.base.frzs b o xs e),fun b ps e=>?_⟩,?_,fun x c e=>?_,?_,fun x c e=>?_,fun p hp=>?_,hok,I.len⟩
 . exact keep b o (neL b o e) hb (neC b o e hx) (I.base.keep b o e n hb hx) (I.base.free b o e n hx)
 . obtain⟨sl,e1⟩:=I.base.slot b o e n hb hx
   obtain⟨sl',e2⟩:=slot b _ (neL b o e) hb (neC b o e hx) e1 (I.base.free b o e n hx)
   exact⟨sl',e2⟩
 . obtain⟨o',e1⟩:=I.base.there b o e hx
   exact free b o' (neC b o e hx) e1 (I.base.free b o e n hx)
 . obtain⟨o',e1⟩:=I.base.there b o e hx
   exact there b o' (neC b o e hx) e1
 . obtain⟨m1,e1⟩:=I.base.tbls b ps e
   obtain⟨m2,e2⟩:=tbls b _ e1
   exact⟨m1++m2,by rw[e2,Array.append_assoc]⟩
 . obtain⟨m,hn,hl⟩:=I.loc
   refine⟨m,ns m hn,fun i x v e1 e2 e3=>?_⟩
   obtain⟨u,r,l⟩:=hl i x v e1 e2 e3
   refine⟨u,r,?_⟩
   rcases l with l | ⟨k,c,e,z⟩
   . exact .inl l
   . exact .inr ⟨k,c,e,cellK x c e _ z⟩
 . obtain⟨v,z⟩:=I.cell x c e
   exact⟨v,cellK x c e v z⟩
 . obtain⟨m,⟨o,_,_,ho,_⟩,_⟩:=I.loc
   exact free _ o (fun z=>(hch _ z).2.1 rfl) ho I.free
 . obtain⟨v,o,ho,hd⟩:=I.cell x c e
   exact free c o (fun z=>(hch c z).2.2.1 x c e rfl) ho (I.freeC x c e)
 . obtain⟨e,n,ne,nf,d⟩:=I.pin p hp
   have nch:p.1∉ch:=fun z=>(hch p.1 z).2.2.2 p hp rfl
   exact⟨keep p.1 p.2 ne nf nch e n,free p.1 p.2 nch e n,ne,nf,d⟩
theorem Inv.un {t':Nat}(I:Inv X pins σ H s)(u:Un X.fs [] H H' s.heap h')(hok:HOk X.prog X.w H' h'):Inv X pins σ H' { s with heap:=h',toks:=t' }:=by
 obtain⟨m,⟨o,es,ep,ho,r⟩,_⟩:=id I.loc
 obtain⟨sl,hL⟩:=u.any ho I.free (by simp)
 exact I.step (g':=s.gens) (d':=s.drawn) (ch:=[]) (fun _ z=>nomatch z) (fun b o _ hb _ e n=>u.keep b o e n hb (by simp)) (fun b o _ hb _ e n=>u.slot b o e n hb (by simp)) (fun b o _ e n=>u.free b o e n (by simp)) (fun b o _ e=>u.there b o e (by simp)) u.tups u.frzs u.tbls (fun m' hm=>by
  obtain⟨o',es',ep',ho',r'⟩:=hm
  rw[ho] at ho';cases ho'
  exact⟨_,es',ep',hL,r'⟩) hok I.bare
theorem Inv.call {g':Array GenState}{t':Nat}{d':Drawn}{ch:List Addr}(I:Inv X pins σ H s)(u:Un (frs X.stack) ch H H' s.heap h')(hok:HOk X.prog X.w H' h')(hg:AllBare g')
 (hch:∀b∈ch,(b∈X.ex\/X.s₀.heap.objs.size<=b)/\b≠X.env.locals/\(∀x c,X.env.cells.lookup x=some c->c≠b)/\∀p∈X.pn++pins,p.1≠b) :
 Inv X pins σ H' { s with heap:=h',gens:=g',drawn:=d',toks:=t' }:=by
 obtain⟨m,⟨o,es,ep,ho,r⟩,_⟩:=id I.loc
 obtain⟨sl,hL⟩:=u.any ho I.free fun z=>(hch _ z).2.1 rfl
 exact I.step (ch:=ch) hch (fun b o hL hb hc e n=>u.keep b o e n (fun z=>(ze.mp (I.stkSub b z)).elim hL hb) hc) (fun b o _ _ hc e n=>u.any e n hc) (fun b o hc e n=>u.free b o e n hc) (fun b o hc e=>u.there b o e hc) u.tups u.frzs u.tbls (fun m' hm=>by
  obtain⟨o',es',ep',ho',r'⟩:=hm
  rw[ho] at ho';cases ho'
  exact⟨_,es',ep',hL,r'⟩) hok hg
theorem Inv.turned {t':Nat}{it:Addr}(I:Inv X pins σ H s)(k:∀b o,b≠it->s.heap.get? b=some o->h'.get? b=some o)(hn:H it=none)(hL:it≠X.env.locals)
 (h1:it∈X.ex\/X.s₀.heap.objs.size<=it)(h2:∀x c,X.env.cells.lookup x=some c->c≠it)(h3:∀p∈X.pn++pins,p.1≠it):Inv X pins σ H { s with heap:=h',toks:=t' }:=by
 have nit:∀b u,H b=some u->b≠it:=fun b u e z=>by rw[z,hn] at e;cases e
 refine I.step (g':=s.gens) (d':=s.drawn) (ch:=[it]) (fun b hb=>?_) (fun b o _ _ hc e _=>k b o (fun z=>hc (by simp[z])) e) (fun b o _ _ hc e _=>⟨o.slots,k b o (fun z=>hc (by simp[z])) e⟩) (fun _ _ _ _ n=>n)
  (fun b o hc e=>⟨o,k b o (fun z=>hc (by simp[z])) e⟩) (fun _ _ e=>e) (fun _ _ _ e=>e) (fun b ps e=>⟨#[],by rw[e];simp⟩) (fun m hm=>?_) (fun b u e=>?_) I.bare
 . have e:b=it:=by simpa using hb
   subst e
   exact⟨h1,hL,h2,h3⟩
 . obtain⟨o,es,ep,ho,r⟩:=hm
   exact⟨o,es,ep,k _ o (Ne.symm hL) ho,r⟩
 . refine (I.hok b u e).stay (fun c v hc q=>k c v ?_ q) (fun _ q=>q) fun _ _ q=>q
   rcases hc with z | z
   . rw[z];exact nit b u e
   . exact nit c _ z
theorem Inv.tok (I:Inv X pins σ H s)(t:Nat):Inv X pins σ H { s with toks:=t }:=I.un (h':=s.heap) (t':=t) Un.refl I.hok
theorem Inv.kept {t':Nat}(I:Inv X pins σ H s)(k:∀b u,s.heap.get? b=some u->h'.get? b=some u):Inv X pins σ H { s with heap:=h',toks:=t' }:=I.un (Un.kept k) (I.hok.kept k)
theorem Inv.laid {a:Addr}{o:HO}{t':Nat}(I:Inv X pins σ H s)(k:∀b u,s.heap.get? b=some u->h'.get? b=some u)(hp:s.heap.objs.size<=a)(new:zBM X.prog X.w (upd H a o) h' a o) :
 Inv X pins σ (upd H a o) { s with heap:=h',toks:=t' }:=I.un (Un.laid k hp (I.hok.fresh hp)) (I.hok.laid k hp new)
theorem Inv.write {x e:Addr}{o:HO}{t':Nat}(I:Inv X pins σ H s)(mu:Mut (H x))(he:e=x\/H e=some (.own x))(k:∀b u,b≠e->s.heap.get? b=some u->h'.get? b=some u)(heo:∃u,h'.get? e=some u)
 (new:zBM X.prog X.w (upd H x o) h' x o):Inv X pins σ (upd H x o) { s with heap:=h',toks:=t' }:=I.un (Un.write mu he k heo) (I.hok.write mu he k heo new)
theorem Inv.weak {σ':List (Option V)}(I:Inv X pins σ H s)(hl:σ'.length=σ.length)(w:∀(i:Nat) v,σ'[i]? = some (some v)->σ[i]? = some (some v)):Inv X pins σ' H s:=
 ⟨I.ok,I.os,I.bare,I.base,let ⟨m,hn,hl'⟩:=I.loc;⟨m,hn,fun i x v e1 e2 e3=>hl' i x v e1 (w i v e2) e3⟩,I.cell,I.free,I.freeC,I.pin,I.hok,hl.trans I.len⟩
theorem Inv.pins_of {pins':List (Addr×Obj)}(I:Inv X pins σ H s)(h:∀p∈pins',s.heap.get? p.1=some p.2/\H p.1=none/\p.1≠X.env.locals/\p.1∉X.fs/\∀v,p.2.data ≠ .cell v):Inv X pins' σ H s:=
 ⟨I.ok,I.os,I.bare,I.base,I.loc,I.cell,I.free,I.freeC,fun p hp=>(zAC.mp hp).elim (fun z=>I.pin p (zA6 _ z)) (h p),I.hok,I.len⟩
theorem zGl {N:List Str}(hN:N.Nodup){i j:Nat}{x:Str}(a:N[i]? = some x)(b:N[j]? = some x):i=j:=by
 obtain⟨h1,e1⟩:=zK.mp a
 obtain⟨h2,e2⟩:=zK.mp b
 exact (List.getElem_inj hN).mp (e1.trans e2.symm)
theorem zHw {M:Model}{A:Around}{E:Value->Shared->Prop}{i:Nat}{x:Str}{v:V}{u:Value}{Q:Unit->Shared->Prop}(I:Inv X pins σ H s)(hN:X.N.Nodup)(hi:X.N[i]? = some x)(hx:Loc X.env.scope x)(r:zBT v u)
 (h:∀s',Inv X pins (σ.set i (some v)) H s'->(∃a,Heap.SameBut a s.heap s'.heap/\(a=X.env.locals\/X.env.cells.lookup x=some a))->Q () s')(hf:X.fn x=true\/X.env.scope.names.lookup x=some .local:=by first | exact .inl rfl | exact .inr rfl | assumption):wpAny M A (storeName X.env x u) Q E s:=by
 obtain⟨m,hn,hl⟩:=id I.loc
 have hcls:(X.env.scope.kind == .class || (X.env.scope.kind == .module && X.env.locals != X.env.globals))=false:=by rw[I.ok.kind];rfl
 have hiσ:i<σ.length:=by rw[I.len];exact (zK.mp hi).1
 have cne:=I.cne
 have tracked:∀{a:Addr}{h':Heap},(∃o,s.heap.get? a=some o/\H a=none)->Heap.SameBut a s.heap h'->HOk X.prog X.w H h':=fun {a h'} ha hs b ob e=>by
  obtain⟨_,_,hfree⟩:=ha
  refine (I.hok b ob e).stay (fun c w' hc q=>(hs.2 c ?_).trans q) (fun _ q=>q) fun _ _ q=>q
  rintro rfl
  rcases hc with rfl | hc
  . rw[hfree] at e;cases e
  . rw[hfree] at hc;cases hc
 rcases hx with hk | hk
 . refine wpAny_storeName_local hk hn (fun h' hn' hs=>?_) hcls
   obtain⟨oL,_,_,hoL,_⟩:=id hn
   refine h _ ⟨I.ok,I.os,I.bare,⟨fun b o e n hb hx=>?_,fun b o e n hb hx=>?_,I.base.free,fun b o e hx=>?_,I.base.tups,I.base.frzs,I.base.tbls⟩,⟨_,hn',fun j y v' e1 e2 e3=>?_⟩,fun y c e=>?_,I.free,I.freeC,fun p hp=>?_,tracked ⟨oL,hoL,I.free⟩ hs,by simpa using I.len⟩ ⟨_,hs,.inl rfl⟩
   . exact (hs.2 b (za (zl (zV e) I.ok.above))).trans (I.base.keep b o e n hb hx)
   . obtain⟨sl,e1⟩:=I.base.slot b o e n hb hx
     exact⟨sl,(hs.2 b (za (zl (zV e) I.ok.above))).trans e1⟩
   . obtain⟨o',e1⟩:=I.base.there b o e hx
     exact⟨o',(hs.2 b (za (zl (zV e) I.ok.above))).trans e1⟩
   . by_cases hj:j=i
     . subst hj
       rw[hi] at e1;cases e1
       rw[List.getElem?_set_self hiσ] at e2
       cases e2
       exact⟨u,r,.inl ⟨hk,by simp⟩⟩
     . rw[List.getElem?_set_ne (Ne.symm hj)] at e2
       obtain⟨u',r',q⟩:=hl j y v' e1 e2 e3
       refine⟨u',r',?_⟩
       rcases q with ⟨k,e⟩ | ⟨k,c,e,z⟩
       . refine .inl ⟨k,?_⟩
         have:y≠x:=fun e=>hj (zGl hN e1 (e ▸ hi))
         simp[this,e]
       . exact .inr ⟨k,c,e,z.sameBut hs (cne y c e)⟩
   . obtain⟨w',z⟩:=I.cell y c e
     exact⟨w',z.sameBut hs (cne y c e)⟩
   . obtain⟨e,n,ne,nf,d⟩:=I.pin p hp
     exact⟨(hs.2 p.1 ne).trans e,n,ne,nf,d⟩
 . have hfn:X.fn x=true:=by
    rcases hf with z | z
    . exact z
    . rw[z] at hk;cases hk
   obtain⟨c,hc⟩:=I.ok.has x (.inl hk)
   obtain⟨w',z⟩:=I.cell x c hc
   refine wpAny_storeName_cell I.ok.kind hk hc z (fun h' hc' hs=>?_)
   obtain⟨oc,hoc,hocd⟩:=id z
   refine h { s with heap:=h' } ⟨I.ok,I.os,I.bare,⟨fun b o e n hb hx=>?_,fun b o e n hb hx=>?_,I.base.free,fun b o e hx=>?_,I.base.tups,I.base.frzs,I.base.tbls⟩,⟨m,hn.sameBut hs (Ne.symm (cne x c hc)),fun j y v' e1 e2 e3=>?_⟩,fun y c' e=>?_,I.free,I.freeC,fun p hp=>?_,tracked ⟨oc,hoc,I.freeC x c hc⟩ hs,by simpa using I.len⟩ ⟨c,hs,.inr hc⟩
   . exact (hs.2 b (za (zl (zV e) (I.ok.cab x c hfn hc)))).trans (I.base.keep b o e n hb hx)
   . obtain⟨sl,e1⟩:=I.base.slot b o e n hb hx
     exact⟨sl,(hs.2 b (za (zl (zV e) (I.ok.cab x c hfn hc)))).trans e1⟩
   . obtain⟨o',e1⟩:=I.base.there b o e hx
     exact⟨o',(hs.2 b (za (zl (zV e) (I.ok.cab x c hfn hc)))).trans e1⟩
   . by_cases hj:j=i
     . subst hj
       rw[hi] at e1;cases e1
       rw[List.getElem?_set_self hiσ] at e2
       cases e2
       exact⟨u,r,.inr ⟨.inl hk,c,hc,hc'⟩⟩
     . rw[List.getElem?_set_ne (Ne.symm hj)] at e2
       obtain⟨u',r',q⟩:=hl j y v' e1 e2 e3
       refine⟨u',r',?_⟩
       rcases q with q | ⟨k,c',e,z'⟩
       . exact .inl q
       . refine .inr ⟨k,c',e,z'.sameBut hs ?_⟩
         rintro rfl
         exact hj (zGl hN e1 (I.ok.inj _ _ _ e hc ▸ hi))
   . by_cases hcc:c'=c
     . subst hcc;exact⟨_,hc'⟩
     . obtain⟨w2,z2⟩:=I.cell y c' e
       exact⟨w2,z2.sameBut hs hcc⟩
   . obtain⟨e,n,ne,nf,d⟩:=I.pin p hp
     refine⟨(hs.2 p.1 ?_).trans e,n,ne,nf,d⟩
     intro q
     rw[q,hoc] at e
     have q':oc=p.2:=zP e
     exact d w' (by rw[<-q'];exact hocd)
theorem zCy {M:Model}{A:Around}{E:Value->Shared->Prop}{i:Nat}{x:Str}{v:V}{u:Value}{Q:Unit->Shared->Prop}(I:Inv X pins σ H s)(hN:X.N.Nodup)(hi:X.N[i]? = some x)(hx:Loc X.env.scope x)(r:zBT v u)
 (h:∀s',Inv X pins (σ.set i (some v)) H s'->Q () s')(hf:X.fn x=true\/X.env.scope.names.lookup x=some .local:=by first | exact .inl rfl | exact .inr rfl | assumption):wpAny M A (storeName X.env x u) Q E s:=
 zHw I hN hi hx r (fun s' I' _=>h s' I') hf
theorem Inv.call' {s':Shared}{ch:List Addr}(I:Inv X pins σ H s)(ho:s'.os=s.os)(u:Un (frs X.stack) ch H H' s.heap s'.heap)(hok:HOk X.prog X.w H' s'.heap)(hg:AllBare s'.gens)
 (hch:∀b∈ch,(b∈X.ex\/X.s₀.heap.objs.size<=b)/\b≠X.env.locals/\(∀x c,X.env.cells.lookup x=some c->c≠b)/\∀p∈X.pn++pins,p.1≠b):Inv X pins σ H' s':=by
 obtain⟨h',g',d',t',o'⟩:=s'
 have e:o'=s.os:=ho
 subst e
 exact I.call (g':=g') (t':=t') (d':=d') u hok hg hch
end
noncomputable abbrev XK:=Value->Option Addr->Hp->Prop
noncomputable abbrev St:=List (Option V)
noncomputable abbrev VK:=V->Hp->Prop
noncomputable abbrev TE:=St->Hp->VK->Prop
noncomputable abbrev TT:=St->Hp->(Bool->Hp->Prop)->Prop
noncomputable abbrev TA:=St->Hp->(List V->Hp->Prop)->Prop
structure zHn where
 nx:St->Hp->Prop
 rt:VK
 bk:St->Hp->Prop:=fun _ _=>False
 ct:St->Hp->Prop:=fun _ _=>False
noncomputable abbrev TS:=zHn->St->Hp->Prop
noncomputable def EP (X:Cx)(pins:List (Addr×Obj))(σ:St)(Q:VK)(u:Value)(s':Shared):Prop:=∃v H',Inv X pins σ H' s'/\zBT v u/\Q v H'
noncomputable def TP (X:Cx)(pins:List (Addr×Obj))(σ:St)(Q:Bool->Hp->Prop)(b:Bool)(s':Shared):Prop:=∃H',Inv X pins σ H' s'/\Q b H'
noncomputable def AP (X:Cx)(pins:List (Addr×Obj))(σ:St)(Q:List V->Hp->Prop)(us:List Value)(s':Shared):Prop:=∃vs H',Inv X pins σ H' s'/\zBJ vs us/\Q vs H'
noncomputable def SP (X:Cx)(pins:List (Addr×Obj))(D:zHn)(f:Flow)(s':Shared):Prop:=
 match f with
 | .next=>∃ σ' H',Inv X pins σ' H' s'/\D.nx σ' H'
 | .brk=>∃ σ' H',Inv X pins σ' H' s'/\D.bk σ' H'
 | .cont=>∃ σ' H',Inv X pins σ' H' s'/\D.ct σ' H'
 | .ret u=>∃v σ' H',Inv X pins σ' H' s'/\zBT v u/\D.rt v H'
noncomputable def PE (X:Cx)(e:Expr)(t:TE):Prop:=
 ∀(pins:List (Addr×Obj))(s:Shared)(σ:St)(H:Hp)(Q:VK),Inv X pins σ H s->t σ H Q->wpAny (model X.prog X.w) X.A (eval e X.env) (EP X pins σ Q) X.xe s
noncomputable def PT (X:Cx)(e:Expr)(t:TT):Prop:=
 ∀(pins:List (Addr×Obj))(s:Shared)(σ:St)(H:Hp)(Q:Bool->Hp->Prop),Inv X pins σ H s->t σ H Q->wpAny (model X.prog X.w) X.A (isTrue e X.env (eval e X.env)) (TP X pins σ Q) X.xe s
noncomputable def PW (X:Cx)(e:Expr)(t:TT):Prop:=
 ∀(whole:Sem Value)(pins:List (Addr×Obj))(s:Shared)(σ:St)(H:Hp)(Q:Bool->Hp->Prop),Inv X pins σ H s->t σ H Q->wpAny (model X.prog X.w) X.A (isTrue e X.env whole) (TP X pins σ Q) X.xe s
theorem PW.pt {X:Cx}{e:Expr}{t:TT}(h:PW X e t):PT X e t:=h _
noncomputable def PA (X:Cx)(es:List Expr)(t:TA):Prop:=
 ∀(pos:Pos)(pins:List (Addr×Obj))(s:Shared)(σ:St)(H:Hp)(Q:List V->Hp->Prop),Inv X pins σ H s->t σ H Q->wpAny (model X.prog X.w) X.A (spliced (backTo pos (starEach es X.env))) (AP X pins σ Q) X.xe s
noncomputable def PS (X:Cx)(st:Stmt)(t:TS):Prop:=
 ∀(pins:List (Addr×Obj))(s:Shared)(σ:St)(H:Hp)(D:zHn),Inv X pins σ H s->t D σ H->wpAny (model X.prog X.w) X.A (exec st X.env) (SP X pins D) X.xe s
noncomputable def PSs (X:Cx)(st:List Stmt)(t:TS):Prop:=
 ∀(pins:List (Addr×Obj))(s:Shared)(σ:St)(H:Hp)(D:zHn),Inv X pins σ H s->t D σ H->wpAny (model X.prog X.w) X.A (execs st X.env) (SP X pins D) X.xe s
theorem thn {α:Type}{t:Sem α}{Q Q':α->Shared->Prop}{M:Model}{A:Around}{E:Value->Shared->Prop}{s:Shared}(h:wpAny M A t Q E s)(hQ:∀a s,Q a s->Q' a s):wpAny M A t Q' E s:=zAJ h hQ fun _ _ x=>x
end L2
namespace L2
open PySem PySem.Spec PyProof.Rows
section
variable {X:Cx}
noncomputable def tVar (i:Nat):TE:=fun σ H Q=>∃v,σ[i]? = some (some v)/\Q v H
noncomputable def tC (v:V):TE:=fun _ H Q=>Q v H
theorem pe_var {i:Nat}{x:Str}{pos:Pos}(hN:X.N[i]? = some x)(hv:Vis X.env.scope x)(hd:(x==("__debug__" : Str))=false:=by decide) (hcd:(x==("__classdict__" : Str))=false:=by decide):PE X (.Name x pos) (tVar i):=by
 intro pins s σ H Q I h
 obtain⟨v,e,h⟩:=h
 obtain⟨m,hn,hl⟩:=I.loc
 obtain⟨u,r,l⟩:=hl i x v hN e hv
 have fin:EP X pins σ Q u s:=⟨v,H,I,r,h⟩
 rcases l with ⟨hk,hm⟩ | ⟨hk,c,hc,hcell⟩
 . exact wpAny_Name (wpAny_loadName_local I.ok.kind hk hn hm fin) hd
 . rcases hk with hk | hk
   . exact wpAny_Name (wpAny_loadName_cell I.ok.kind hk hc hcell fin) hd
   . exact wpAny_Name (wpAny_loadName_free I.ok.kind hk hc hcell fin hcd) hd
theorem zj {i j pos}:PE X (.Constant (.int i) j pos) (tC (.int i)):=fun _ _ _ H _ I h=>wpAny_Constant_int ⟨.int i,H,I.tok _,⟨_,rfl⟩,h⟩
theorem zF4 {b j pos}:PE X (.Constant (.bool b) j pos) (tC (.bl b)):=fun _ _ _ H _ I h=>Constant_bool ⟨.bl b,H,I,rfl,h⟩
theorem zBy {j pos}:PE X (.Constant .none j pos) (tC .non):=fun _ _ _ H _ I h=>Constant_none ⟨.non,H,I,rfl,h⟩
theorem pe_str {x j pos}:PE X (.Constant (.str x) j pos) (tC (.str x)):=fun _ _ _ H _ I h=>Calls.Constant_str ⟨.str x,H,I.tok _,⟨_,rfl⟩,h⟩
noncomputable def Gl (X:Cx)(x:Str):Prop:=X.env.kindOf x=some .globalImplicit
theorem zDn {E:Value->Shared->Prop}{pins:List (Addr×Obj)}{s:Shared}{σ:St}{H:Hp}{x:Str}{u:Value}{pos:Pos}{Q:Value->Shared->Prop}(I:Inv X pins σ H s)(hg:Gl X x)(hm:X.mg x=some u)(h:Q u s)
 (hd:(x==("__debug__" : Str))=false:=by decide):wpAny (model X.prog X.w) X.A (eval (.Name x pos) X.env) Q E s:=
 Calls.Name_function_global I.ok.kind hg (Calls.loadGlobal_global (by rw[I.ok.glob];exact I.mod.glob.keeps I.bk) hm h) hd
theorem zCa {E:Value->Shared->Prop}{pins:List (Addr×Obj)}{s:Shared}{σ:St}{H:Hp}{x:Str}{u:Value}{pos:Pos}{Q:Value->Shared->Prop}(I:Inv X pins σ H s)(hg:Gl X x)(hm:X.mg x=none)(hv:bootBuiltins x=some u)(h:Q u s)
 (hn:x ≠ "__name__" := by decide) (hd:(x==("__debug__" : Str))=false:=by decide):wpAny (model X.prog X.w) X.A (eval (.Name x pos) X.env) Q E s:=by
 obtain⟨mb,h1,h2⟩:=I.mod.blt
 exact Calls.Name_function_global I.ok.kind hg (Calls.loadGlobal_builtin (by rw[I.ok.glob];exact I.mod.glob.keeps I.bk) hm (by rw[I.ok.blt];exact h1.keeps I.bk) ((h2 x hn).trans hv) h) hd
theorem zLm {x:Str}{v:V}{u:Value}{pos:Pos}(hg:Gl X x)(hm:X.mg x=some u)(r:zBT v u)(hd:(x==("__debug__" : Str))=false:=by decide):PE X (.Name x pos) (tC v):=
 fun _ _ _ H _ I h=>zDn I hg hm ⟨v,H,I,r,h⟩ hd
variable {a b:Expr}{ta tb:TE}{pos:Pos}
noncomputable def tB (t:TE):TT:=fun σ H Q=>t σ H fun x H1=>∃c,x = .bl c/\Q c H1
theorem zCe {e:Expr}{t:TE}(h:PE X e t)(he:∀whole,isTrue e X.env whole=(do let v <-whole;standAt e.pos;holding [v] (truthy v)):=by intro _;rfl):PT X e (tB t):=by
 intro pins s σ H Q I hw
 refine isTrue_plain (thn (h pins s σ H _ I hw) fun v s1 ⟨x,H1,I1,r1,q1⟩=>?_) (he _)
 obtain⟨d,rfl,q⟩:=q1
 cases r1
 exact zBN ⟨H1,I1,q⟩
variable {tA tB':TT}{rest:List Expr}
noncomputable def tAnd (t u:TT):TT:=fun σ H Q=>t σ H fun c H1=>if c=true then u σ H1 Q else Q false H1
noncomputable def tOr (t u:TT):TT:=fun σ H Q=>t σ H fun c H1=>if c=true then Q true H1 else u σ H1 Q
noncomputable def tNot (t:TT):TT:=fun σ H Q=>t σ H fun c H1=>Q (!c) H1
theorem zEj (ha:PT X a tA):PW X (.BoolOp .And [a] pos) tA:=by
 intro wh pins s σ H Q I h
 refine isTrue_and (thn (ha pins s σ H Q I h) fun c s1 e=>?_)
 cases c with
 | true=>exact isTrue_and_nil e
 | false=>exact e
theorem zEJ (ha:PT X a tA):PW X (.BoolOp .Or [a] pos) tA:=by
 intro wh pins s σ H Q I h
 refine isTrue_or (thn (ha pins s σ H Q I h) fun c s1 e=>?_)
 cases c with
 | false=>exact isTrue_or_nil e
 | true=>exact e
theorem zGg (ha:PT X a tA)(hb:PW X (.BoolOp .And (b::rest) pos) tB'):PW X (.BoolOp .And (a::b::rest) pos) (tAnd tA tB'):=by
 intro wh pins s σ H Q I h
 refine isTrue_and (thn (ha pins s σ H _ I h) fun c s1 ⟨H1,I1,q1⟩=>?_)
 cases c with
 | true=>exact hb wh pins s1 σ H1 Q I1 q1
 | false=>exact⟨H1,I1,q1⟩
theorem zHK (ha:PT X a tA)(hb:PW X (.BoolOp .Or (b::rest) pos) tB'):PW X (.BoolOp .Or (a::b::rest) pos) (tOr tA tB'):=by
 intro wh pins s σ H Q I h
 refine isTrue_or (thn (ha pins s σ H _ I h) fun c s1 ⟨H1,I1,q1⟩=>?_)
 cases c with
 | true=>exact⟨H1,I1,q1⟩
 | false=>exact hb wh pins s1 σ H1 Q I1 q1
theorem zDN (ha:PT X a tA):PT X (.UnaryOp .Not a pos) (tNot tA):=by
 intro pins s σ H Q I h
 exact isTrue_not (ha pins s σ H (fun c H1=>Q (!c) H1) I h)
noncomputable def tAndV (ta tb:TE):TE:=fun σ H Q=>ta σ H fun x H1=>∃c,x = .bl c/\if c=true then tb σ H1 Q else Q (.bl false) H1
noncomputable def tNotV (ta:TE):TE:=fun σ H Q=>ta σ H fun x H1=>∃c,x = .bl c/\Q (.bl (!c)) H1
theorem zFI {op} {t:TE}(h:PE X a t):PE X (.BoolOp op [a] pos) t:=fun pins s σ H Q I hw=>BoolOp_one (h pins s σ H Q I hw)
theorem zEL (ha:PE X a ta)(hb:PE X (.BoolOp .And (b::rest) pos) tb):PE X (.BoolOp .And (a::b::rest) pos) (tAndV ta tb):=by
 intro pins s σ H Q I h
 refine BoolOp_and (thn (ha pins s σ H _ I h) fun v s1 ⟨x,H1,I1,r1,q1⟩=>?_)
 obtain⟨c,rfl,q1⟩:=q1
 cases r1
 refine zBN ?_
 cases c with
 | true=>exact hb pins s1 σ H1 Q I1 q1
 | false=>exact⟨.bl false,H1,I1,rfl,q1⟩
theorem pe_not (ha:PE X a ta):PE X (.UnaryOp .Not a pos) (tNotV ta):=by
 intro pins s σ H Q I h
 refine UnaryOp_ (thn (ha pins s σ H _ I h) fun v s1 ⟨x,H1,I1,r1,q1⟩=>?_)
 obtain⟨c,rfl,q1⟩:=q1
 cases r1
 exact not_of (zBN ⟨.bl (!c),H1,I1,rfl,q1⟩)
noncomputable def tIf (t:TT)(ta tb:TE):TE:=fun σ H Q=>t σ H fun c H1=>if c=true then ta σ H1 Q else tb σ H1 Q
theorem zC2 {c:Expr}(hc:PT X c tA)(ha:PE X a ta)(hb:PE X b tb):PE X (.IfExp c a b pos) (tIf tA ta tb):=by
 intro pins s σ H Q I h
 refine wpAny_IfExp (thn (hc pins s σ H _ I h) fun d s1 ⟨H1,I1,q1⟩=>?_)
 cases d with
 | true=>exact ha pins s1 σ H1 Q I1 q1
 | false=>exact hb pins s1 σ H1 Q I1 q1
end
end L2
namespace L2
open PySem PySem.Spec PyProof.Rows
noncomputable def SqL (K:PySem.W.Frag)(H:Hp)(a:Addr)(xs:List V):Prop:=
 Rd H a (.lst xs) \/
  ∃(o:Obj)(its:Array Value)(n:Nat),K.lookup a=some o/\o.cls = .type "list" /\ o.dict=none/\o.data = .seq its n/\its.size<=sizeLine/\zBJ xs its.toList
noncomputable def SqT (K:PySem.W.Frag)(H:Hp)(a:Addr)(xs:List V):Prop:=
 Rd H a (.tup xs) \/
  ∃(o:Obj)(its:Array Value)(n:Nat),K.lookup a=some o/\o.cls = .type "tuple" /\ o.data = .seq its n/\its.size<=sizeLine/\zBJ xs its.toList
noncomputable def absV:Value->Option V
 | .none=>some .non
 | .bool b=>some (.bl b)
 | .int i _=>some (.int i)
 | .str x _=>some (.str x)
 | .bytes b _=>some (.byt b)
 | .float b _=>some (.flt b)
 | .ref a=>some (.ref a)
 | .type n=>some (.ty n)
 | _=>none
theorem zBT.abs {x:V}{u:Value}(r:zBT x u):absV u=some x:=by
 cases x with
 | non=>cases r;rfl
 | bl _=>cases r;rfl
 | int _=>obtain⟨t,rfl⟩:=r;rfl
 | str _=>obtain⟨t,rfl⟩:=r;rfl
 | byt _=>obtain⟨t,rfl⟩:=r;rfl
 | flt _=>obtain⟨t,rfl⟩:=r;rfl
 | ref _=>cases r;rfl
 | ty _=>cases r;rfl
theorem zBT.inj {x y:V}{u:Value}(r:zBT x u)(q:zBT y u):x=y:=zP (r.abs.symm.trans q.abs)
theorem zBJ.inj:∀{xs ys:List V}{us:List Value},zBJ xs us->zBJ ys us->xs=ys
 | _,_,_,.nil,.nil=>rfl
 | _,_,_,.cons r t,.cons r' t'=>by rw[r.inj r',zBJ.inj t t']
section
variable {X:Cx}{pins:List (Addr×Obj)}{σ:St}{H:Hp}{s:Shared}{a:Addr}{xs ys:List V}
theorem SqL.of {K:PySem.W.Frag}(h:H a=some (.lst xs)):SqL K H a xs:=.inl (.inl h)
theorem SqT.of {K:PySem.W.Frag}(h:H a=some (.tup xs)):SqT K H a xs:=.inl (.inl h)
theorem Inv.list (I:Inv X pins σ H s)(h:SqL X.K H a xs):∃its:List Value,zBJ xs its/\PlainL s.heap a its.toArray/\xs.length<=sizeLine:=by
 rcases h with h | ⟨o,its,n,hk,hc,hd,hs,hz,r⟩
 . obtain⟨z,its,n,r,e⟩:=h.ok I.hok
   exact⟨its,r,⟨_,n,e,rfl,rfl,rfl⟩,z⟩
 . refine⟨its.toList,r,⟨o,n,I.kIn a o hk,hc,hd,by simpa using hs⟩,?_⟩
   have e:=r.length
   simp only[Array.length_toList] at e
   omega
theorem Inv.tuple (I:Inv X pins σ H s)(h:SqT X.K H a xs):∃its:List Value,zBJ xs its/\IsTup s.heap a its.toArray/\xs.length<=sizeLine:=by
 rcases h with h | ⟨o,its,n,hk,hc,hs,hz,r⟩
 . obtain⟨⟨z,_⟩,its,r,p⟩:=h.ok I.hok
   exact⟨its,r,p,z⟩
 . refine⟨its.toList,r,⟨o,I.kIn a o hk,hc,n,by simpa using hs⟩,?_⟩
   have e:=r.length
   simp only[Array.length_toList] at e
   omega
theorem Inv.list_inj (I:Inv X pins σ H s)(h:SqL X.K H a xs)(h':SqL X.K H a ys):xs=ys:=by
 obtain⟨its,r,⟨o,n,e,_,_,d⟩,_⟩:=I.list h
 obtain⟨its',r',⟨o',n',e',_,_,d'⟩,_⟩:=I.list h'
 rw[e] at e';cases e'
 rw[d] at d'
 injection d' with d1 _
 have:its=its':=by simpa using congrArg Array.toList d1
 subst this
 exact r.inj r'
theorem Inv.tuple_inj (I:Inv X pins σ H s)(h:SqT X.K H a xs)(h':SqT X.K H a ys):xs=ys:=by
 obtain⟨its,r,⟨o,e,_,n,d⟩,_⟩:=I.tuple h
 obtain⟨its',r',⟨o',e',_,n',d'⟩,_⟩:=I.tuple h'
 rw[e] at e';cases e'
 rw[d] at d'
 injection d' with d1 _
 have:its=its':=by simpa using congrArg Array.toList d1
 subst this
 exact r.inj r'
end
noncomputable abbrev Cx.wish (X:Cx)(E:Value->Shared->Prop):Cx:={ X with xe:=E }
noncomputable abbrev Cx.nox (X:Cx):Cx:=X.wish fun _ _=>False
theorem Cx.Ok.wish {X:Cx}(ok:X.Ok)(E:Value->Shared->Prop):(X.wish E).Ok:=
 ⟨ok.mod,ok.kind,ok.glob,ok.blt,ok.above,ok.inj,ok.has,ok.cab,ok.hd,ok.frames,ok.stk,ok.exf,ok.bs,ok.bsz,ok.noex,ok.exfs,ok.funs,ok.frf⟩
theorem Cx.Ok.unwish {X:Cx}{E:Value->Shared->Prop}(ok:(X.wish E).Ok):X.Ok:=
 ⟨ok.mod,ok.kind,ok.glob,ok.blt,ok.above,ok.inj,ok.has,ok.cab,ok.hd,ok.frames,ok.stk,ok.exf,ok.bs,ok.bsz,ok.noex,ok.exfs,ok.funs,ok.frf⟩
section
variable {X:Cx}{pins:List (Addr×Obj)}{σ:St}{H:Hp}{s:Shared}{E:Value->Shared->Prop}
theorem Inv.wish (I:Inv X pins σ H s)(E:Value->Shared->Prop):Inv (X.wish E) pins σ H s:=⟨I.ok.wish E,I.os,I.bare,I.base,I.loc,I.cell,I.free,I.freeC,I.pin,I.hok,I.len⟩
theorem Inv.unwish (I:Inv (X.wish E) pins σ H s):Inv X pins σ H s:=⟨I.ok.unwish,I.os,I.bare,I.base,I.loc,I.cell,I.free,I.freeC,I.pin,I.hok,I.len⟩
theorem SP.unwish {D:zHn}{f:Flow}{s':Shared}(h:SP (X.wish E) pins D f s'):SP X pins D f s':=by
 cases f with
 | next=>obtain⟨σ',H',I,q⟩:=h;exact⟨σ',H',I.unwish,q⟩
 | brk=>obtain⟨σ',H',I,q⟩:=h;exact⟨σ',H',I.unwish,q⟩
 | cont=>obtain⟨σ',H',I,q⟩:=h;exact⟨σ',H',I.unwish,q⟩
 | ret u=>obtain⟨v,σ',H',I,r,q⟩:=h;exact⟨v,σ',H',I.unwish,r,q⟩
theorem PSs.nox {st:List Stmt}{t:TS}(h:PSs X.nox st t):PSs X st t:=fun pins s σ H D I hw=>
 zAJ (h pins s σ H D (I.wish _) hw) (fun _ _ q=>q.unwish) fun _ _ z=>False.elim z
end
section
variable {X:Cx}{st:Stmt}{rest:List Stmt}{t u:TS}{e:Expr}{te:TE}{pos:Pos}
noncomputable def tNext:TS:=fun D σ H=>D.nx σ H
noncomputable def tSeq (t u:TS):TS:=fun D σ H=>t { D with nx:=u D } σ H
theorem zAw:PSs X [] tNext:=fun _ _ σ H _ I h=>wpAny_execs_nil ⟨σ,H,I,h⟩
theorem zT (h1:PS X st t)(h2:PSs X rest u):PSs X (st::rest) (tSeq t u):=by
 intro pins s σ H D I h
 refine wpAny_execs_cons (thn (h1 pins s σ H { D with nx:=u D } I h) fun f s1 q=>?_)
 cases f with
 | next=>
  obtain⟨σ',H',I',q⟩:=q
  exact h2 pins s1 σ' H' D I' q
 | ret v=>exact q
 | brk=>exact q
 | cont=>exact q
theorem zf (h1:PS X st t):PSs X [st] t:=by
 intro pins s σ H D I h
 refine wpAny_execs_cons (thn (h1 pins s σ H D I h) fun f s1 q=>?_)
 cases f with
 | next=>exact wpAny_execs_nil q
 | ret v=>exact q
 | brk=>exact q
 | cont=>exact q
theorem Inv.quiet {pins:List (Addr×Obj)}{σ:St}{H:Hp}{s:Shared}(I:Inv X pins σ H s):interactive X.env=false:=by simp[interactive,I.ok.kind]
noncomputable def tDrop (te:TE):TS:=fun D σ H=>te σ H fun _ H1=>D.nx σ H1
theorem zCI (he:PE X e te)(hs:swapsWith e none pos.line X.env=pure false:=by rfl):PS X (.Expr e pos) (tDrop te):=by
 intro pins s σ H D I h
 exact wpAny_Expr_any (thn (he pins s σ H _ I h) fun v s1 ⟨x,H1,I1,r1,q1⟩=>⟨σ,H1,I1,q1⟩) I.quiet hs
noncomputable def tRet (te:TE):TS:=fun D σ H=>te σ H D.rt
theorem zAT (he:PE X e te):PS X (.Return (some e) pos) (tRet te):=by
 intro pins s σ H D I h
 exact wpAny_Return_some (thn (he pins s σ H _ I h) fun v s1 ⟨x,H1,I1,r1,q1⟩=>⟨x,σ,H1,I1,r1,q1⟩)
noncomputable def tIfS (c:TT)(t u:TS):TS:=fun D σ H=>c σ H fun b H1=>if b=true then t D σ H1 else u D σ H1
theorem zBz {c:Expr}{a b:List Stmt}{tc:TT}(hc:PT X c tc)(ha:PSs X a t)(hb:PSs X b u):PS X (.If c a b pos) (tIfS tc t u):=by
 intro pins s σ H D I h
 refine wpAny_If (thn (hc pins s σ H _ I h) fun d s1 ⟨H1,I1,q1⟩=>?_)
 cases d with
 | true=>exact ha pins s1 σ H1 D I1 q1
 | false=>exact hb pins s1 σ H1 D I1 q1
end
noncomputable abbrev TG:=V->St->Hp->(St->Hp->Prop)->Prop
noncomputable abbrev TGs:=List V->St->Hp->(St->Hp->Prop)->Prop
noncomputable def PG (X:Cx)(target:Expr)(t:TG):Prop:=
 ∀(pins:List (Addr×Obj))(s:Shared)(σ:St)(H:Hp)(v:V)(u:Value)(Q:St->Hp->Prop),Inv X pins σ H s->zBT v u->t v σ H Q ->
  wpAny (model X.prog X.w) X.A (assign target X.env u) (fun _ s'=>∃ σ' H',Inv X pins σ' H' s'/\Q σ' H') X.xe s
noncomputable def PGs (X:Cx)(ts:List Expr)(t:TGs):Prop:=
 ∀(pins:List (Addr×Obj))(s:Shared)(σ:St)(H:Hp)(vs:List V)(us:List Value)(Q:St->Hp->Prop),Inv X pins σ H s->zBJ vs us->t vs σ H Q ->
  wpAny (model X.prog X.w) X.A (assignInOrder ((assignEach ts X.env).map (·.2)) us) (fun _ s'=>∃ σ' H',Inv X pins σ' H' s'/\Q σ' H') X.xe s
noncomputable abbrev TSet:=V->V->V->Hp->(Hp->Prop)->Prop
noncomputable def PSet (X:Cx)(t:TSet):Prop:=
 ∀(pins:List (Addr×Obj))(s:Shared)(σ:St)(H:Hp)(o i v:V)(ov iv u:Value)(Q:Hp->Prop),Inv X pins σ H s->zBT o ov->zBT i iv->zBT v u->t o i v H Q ->
  wpAny (model X.prog X.w) X.A (setItem ov iv u) (fun _ s'=>∃H',Inv X pins σ H' s'/\Q H') X.xe s
section
variable {X:Cx}{pos:Pos}
noncomputable def zIs (i:Nat):TG:=fun v σ H Q=>Q (σ.set i (some v)) H
theorem zw {i:Nat}{x:Str}(hN:X.N.Nodup)(hi:X.N[i]? = some x)(hx:Loc X.env.scope x)(hf:X.fn x=true\/X.env.scope.names.lookup x=some .local:=by first | exact .inl rfl | exact .inr rfl | assumption):PG X (.Name x pos) (zIs i):=by
 intro pins s σ H v u Q I r h
 exact wpAny_assign_Name (zCy I hN hi hx r (fun s' I'=>⟨_,H,I',h⟩) hf)
noncomputable def gNil:TGs:=fun vs σ H Q=>vs=[]/\Q σ H
noncomputable def gCons (t:TG)(u:TGs):TGs:=fun vs σ H Q=>∃v r,vs=v::r/\t v σ H fun σ' H'=>u r σ' H' Q
theorem zCs:PGs X [] gNil:=by
 intro pins s σ H vs us Q I r h
 obtain⟨e,h⟩:=h
 subst e
 cases r
 exact assignInOrder_nil ⟨σ,H,I,h⟩
theorem zBI {e:Expr}{es:List Expr}{t:TG}{u:TGs}(h1:PG X e t)(h2:PGs X es u)
 (hs:(assignEach (e::es) X.env).map (·.2)=assign e X.env::(assignEach es X.env).map (·.2):=by rfl):PGs X (e::es) (gCons t u):=by
 intro pins s σ H vs us Q I r h
 obtain⟨v,vr,e1,h⟩:=h
 subst e1
 cases r with
 | cons r rr=>
  rw[hs]
  refine assignInOrder_cons (thn (h1 pins s σ H _ _ _ I r h) fun _ s1 ⟨σ1,H1,I1,q1⟩=>?_)
  exact h2 pins s1 σ1 H1 _ _ Q I1 rr q1
noncomputable def gTup (K:PySem.W.Frag)(n:Nat)(t:TGs):TG:=fun v σ H Q=>∃a xs,v = .ref a/\SqT K H a xs/\xs.length=n/\t xs σ H Q
theorem zDg {es:List Expr}{k:Nat}{t:TGs}{n:Nat}(hc:X.calm=true)(h:PGs X es t)
 (hn:(assignEach es X.env).length=n:=by rfl)(hst:(assignEach es X.env).findIdx? (·.1)=none:=by rfl):PG X (.Tuple es k pos) (gTup X.K n t):=by
 intro pins s σ H v u Q I r hw
 obtain⟨a,xs,e1,hq,hl,hw⟩:=hw
 subst e1
 cases r
 obtain⟨its,rv,ht,hz⟩:=I.tuple hq
 refine assign_Tuple_tuple (I.ok.hd hc) ht (by simp[hn,<-hl,rv.length]) hst fun h' hx=>?_
 have I1:Inv X pins σ H { s with heap:=h' }:=I.kept (t':=s.toks) fun b o e=>hx b o (za (zV e)) e
 exact h pins _ σ H xs _ Q I1 (by simpa using rv) hw
noncomputable def gSub (to ti:TE)(t:TSet):TG:=fun v σ H Q=>to σ H fun o H1=>ti σ H1 fun i H2=>t o i v H2 fun H3=>Q σ H3
theorem zCR {o i:Expr}{to ti:TE}{t:TSet}(ho:PE X o to)(hi:PE X i ti)(hs:PSet X t)
 (ha:∀v,assign (.Subscript o i pos) X.env v=(do
  let ov <-holding [v] (eval o X.env)
  let iv <-holding [v,ov] (eval i X.env)
  standAt pos
  holding [v,ov,iv] (setItem ov iv v)
  release [v,ov,iv] []):=by intro _;rfl):PG X (.Subscript o i pos) (gSub to ti t):=by
 intro pins s σ H v u Q I r h
 rw[ha]
 refine zA (zAR (thn (ho pins s σ H _ I h) fun ov s1 ⟨x,H1,I1,r1,q1⟩=>?_))
 refine zA (zAR (thn (hi pins s1 σ H1 _ I1 q1) fun iv s2 ⟨y,H2,I2,r2,q2⟩=>?_))
 refine zA (zBq (zA (zAR (thn (hs pins s2 σ H2 x y v ov iv u _ I2 r1 r2 r q2) fun _ s3 ⟨H3,I3,q3⟩=>?_))))
 exact wpAny_release ⟨σ,H3,I3,q3⟩
noncomputable def tAsg (te:TE)(g:TG):TS:=fun D σ H=>te σ H fun x H1=>g x σ H1 D.nx
theorem zCM {tg e:Expr}{te:TE}{g:TG}(he:PE X e te)(hg:PG X tg g)(hs:swapsWithSole [tg] e pos.line X.env=pure false:=by rfl)(hw:swappedStores [tg] e X.env=pure none:=by rfl)
 (h1:(assignEach [tg] X.env).map (·.2)=[assign tg X.env]:=by rfl):PS X (.Assign [tg] e pos) (tAsg te g):=by
 intro pins s σ H D I h
 refine wpAny_Assign_stores (thn (he pins s σ H _ I h) fun v s1 ⟨x,H1,I1,r1,q1⟩=>?_) hs hw
 rw[h1]
 exact thn (hg pins s1 σ H1 x v _ I1 r1 q1) fun _ s2 q=>q
theorem zAP {i:Nat}{x:Str}{e:Expr}{te:TE}{pos':Pos}(hN:X.N.Nodup)(hi:X.N[i]? = some x)(hx:Loc X.env.scope x)(he:PE X e te)(hs:swapsWith e (some (.Name x pos')) pos.line X.env=pure false:=by rfl)(hf:X.fn x=true\/X.env.scope.names.lookup x=some .local:=by first | exact .inl rfl | exact .inr rfl | assumption) :
 PS X (.Assign [.Name x pos'] e pos) (tAsg te (zIs i)):=by
 intro pins s σ H D I h
 refine wpAny_Assign_Name (thn (he pins s σ H _ I h) fun v s1 ⟨y,H1,I1,r1,q1⟩=>?_) hs
 exact zCy I1 hN hi hx r1 (fun s2 I2=>⟨_,H1,I2,q1⟩) hf
end
section
variable {X:Cx}{pos:Pos}
noncomputable def tWhile (c:TT)(tb:TS):TS:=fun D σ H=>∃W:Nat->St->Hp->Prop,(∃m,W m σ H)/\∀m σ H,W m σ H ->
 c σ H fun b H1=>if b=true then ∃N:St->Hp->Prop,(∀ σ' H',N σ' H'->∃m',m'<m/\W m' σ' H')/\tb { D with nx:=N,ct:=N,bk:=D.nx } σ H1 else D.nx σ H1
theorem zGj {c:Expr}{body:List Stmt}{tc:TT}{tb:TS}(hp:PassesOwn (model X.prog X.w) X.A X.env X.xe)(hc:PT X c tc)(hb:PSs X body tb):PS X (.While c body [] pos) (tWhile tc tb):=by
 intro pins s σ H D I h
 obtain⟨W,⟨m0,w0⟩,turn⟩:=h
 refine wpAny_While (codeAny_whileLoop (fun n s'=>∃ σ' H',Inv X pins σ' H' s'/\W n σ' H') ?_ m0 ⟨σ,H,I,w0⟩)
 rintro n s1 ⟨σ1,H1,I1,w1⟩
 refine wpAny_passesOwn hp (thn (hc pins s1 σ1 H1 _ I1 (turn n σ1 H1 w1)) fun b s2 ⟨H2,I2,q2⟩=>?_)
 cases b with
 | true=>
  obtain⟨N,hN,q2⟩:=q2
  rw[if_pos rfl]
  refine wpAny_passesOwn hp (thn (hb pins s2 σ1 H2 _ I2 q2) fun f s3 q3=>?_)
  cases f with
  | next=>
   obtain⟨σ3,H3,I3,n3⟩:=q3
   obtain⟨m',hm,w3⟩:=hN σ3 H3 n3
   exact⟨m',hm,σ3,H3,I3,w3⟩
  | cont=>
   obtain⟨σ3,H3,I3,n3⟩:=q3
   obtain⟨m',hm,w3⟩:=hN σ3 H3 n3
   exact⟨m',hm,σ3,H3,I3,w3⟩
  | brk=>exact q3
  | ret v=>exact q3
 | false=>
  rw[if_neg zm]
  exact wpAny_execs_nil ⟨σ1,H2,I2,q2⟩
end
structure It where
 go:Nat->Hp->Prop
 yld:Nat->Hp->V->Hp->Prop
 stop:Nat->Hp->Prop
noncomputable def zDE (X:Cx)(pins:List (Addr×Obj))(H:Hp)(b:Addr):Prop:=
 H b=none/\b≠X.env.locals/\b∉X.fs/\(b∈X.ex\/X.s₀.heap.objs.size<=b)/\(∀x c,X.env.cells.lookup x=some c->c≠b)/\∀p∈X.pn++pins,p.1≠b
theorem Inv.fpOk {X:Cx}{pins:List (Addr×Obj)}{σ:St}{H H':Hp}{s:Shared}{b:Addr}(I:Inv X pins σ H s)(hb:s.heap.objs.size<=b)(hn:H' b=none):zDE X pins H' b:=by
 refine⟨hn,Nat.ne_of_gt (zl I.lt hb),I.nofs hb,.inr (zAE I.sz hb),fun x c e z=>?_,fun p hp z=>?_⟩
 . obtain⟨v,q⟩:=I.cell x c e
   exact absurd (zl q.lt (by rw[z];exact hb)) (zBV _)
 . exact absurd (zl (zV (I.pin p hp).1) (by rw[z];exact hb)) (zBV _)
structure Turn (P:Program)(w:World)(K:PySem.W.Frag)(tg:Expr)(J:It)(fp:List Addr)(it:Addr)(tn:Nat->Heap->Prop):Prop where
 mem:it∈fp
 obj:∀i h,tn i h->∀b∈fp,∃o,h.get? b=some o/\∀v,o.data ≠ .cell v
 keep:∀i h h',tn i h->(∀b∈fp,∀o,h.get? b=some o->h'.get? b=some o)->tn i h'
 item:∀(X:Cx),X.prog=P->X.w=w->X.K=K->X.calm=true->∀(i:Nat)(pins:List (Addr×Obj))(s:Shared)(σ:St)(H:Hp)(E:Value->Shared->Prop),Inv X pins σ H s->(∀b∈fp,zDE X pins H b)->tn i s.heap->J.go i H ->
  wpAny (model P w) X.A (pyNext (.ref it)) (fun r s1=>∃u,r=some u /\
   wpAny (model P w) X.A (letOwnedTupleGo tg (.ref it) u) (fun _ s2=>∃x H',Inv X pins σ H' s2/\zBT x u/\J.yld i H x H'/\tn (i+1) s2.heap/\∀b∈fp,H' b=none) E s1) E s
 done:∀(X:Cx),X.prog=P->X.w=w->X.K=K->X.calm=true->∀(i:Nat)(pins:List (Addr×Obj))(s:Shared)(σ:St)(H:Hp)(E:Value->Shared->Prop),Inv X pins σ H s->(∀b∈fp,zDE X pins H b)->tn i s.heap->J.stop i H ->
  wpAny (model P w) X.A (pyNext (.ref it)) (fun r s1=>r=none/\Inv X pins σ H s1) E s
 self:∀(A:Around)(i:Nat)(s:Shared)(Q:Value->Shared->Prop)(E:Value->Shared->Prop),tn i s.heap->Q (.ref it) s->wpAny (model P w) A (pyIter (.ref it)) Q E s
noncomputable abbrev TI:=St->Hp->(It->Hp->Prop)->Prop
noncomputable def PIE (X:Cx)(pins:List (Addr×Obj))(σ:St)(tg:Expr)(R:It->Hp->Prop)(itv:Value)(s2:Shared):Prop:=
 ∃(it:Addr)(fp:List Addr)(tn:Nat->Heap->Prop)(J:It)(H':Hp),itv = .ref it/\Inv X pins σ H' s2/\Turn X.prog X.w X.K tg J fp it tn/\tn 0 s2.heap/\(∀b∈fp,zDE X pins H' b)/\R J H'
noncomputable def PI (X:Cx)(tg iter:Expr)(wi:TI):Prop:=
 ∀(pins:List (Addr×Obj))(s:Shared)(σ:St)(H:Hp)(R:It->Hp->Prop),Inv X pins σ H s->wi σ H R ->
  wpAny (model X.prog X.w) X.A (eval iter X.env) (fun v s1=>wpAny (model X.prog X.w) X.A (pyIter v) (PIE X pins σ tg R) X.xe s1) X.xe s
theorem zKS {M:Model}{A:Around}{E:Value->Shared->Prop}{s:Shared}{tg:Expr}{it:Addr}{u:Value}{o:Obj}{n:String}{vs:Array Value}{Q:Unit->Shared->Prop}(ho:s.heap.get? it=some o)(hc:o.cls = .type n)(hd:o.data = .fields vs)
 (hn:["enumerate", "zip", "dict_itemiterator", "dict_reverseitemiterator", "odict_iterator", "itertools.zip_longest", "itertools.pairwise"].contains n=false) (hQ:Q () s):wpAny M A (letOwnedTupleGo tg (.ref it) u) Q E s:=by
 unfold letOwnedTupleGo
 cases tg <;> first
  | exact zG hQ
  | (cases u <;> first
   | exact zG hQ
   | (refine zA (wpAny_load ho ?_)
      rw[hc,hd]
      show wpAny M A (if (["enumerate", "zip", "dict_itemiterator", "dict_reverseitemiterator", "odict_iterator", "itertools.zip_longest", "itertools.pairwise"].contains n && vs[0]? == some (rawInt _))=true then _ else _) Q E s
      rw[if_neg (by intro h;rw[hn,Bool.false_and] at h;cases h)]
      exact zG hQ))
noncomputable def Itl (K:PySem.W.Frag)(a:Addr):It:=
 ⟨fun i H=>∃xs x,SqL K H a xs/\xs[i]? = some x,fun i H x H'=>H'=H/\∀xs,SqL K H a xs->xs[i]? = some x,fun i H=>∃xs,SqL K H a xs/\xs.length<=i⟩
noncomputable def Itt (K:PySem.W.Frag)(a:Addr):It:=
 ⟨fun i H=>∃xs x,SqT K H a xs/\xs[i]? = some x,fun i H x H'=>H'=H/\∀xs,SqT K H a xs->xs[i]? = some x,fun i H=>∃xs,SqT K H a xs/\xs.length<=i⟩
noncomputable def Itr (lo:Int)(n:Nat):It:=⟨fun i _=>i<n,fun i H x H'=>H'=H/\x = .int (lo+i),fun i _=>n<=i⟩
theorem zHp {P:Program}{w:World}{K:PySem.W.Frag}{tg:Expr}(a it:Addr):Turn P w K tg (Itl K a) [it] it (fun i h=>h.IsListIter it a i) where
 mem:=by simp
 obj:=fun i h st b hb=>by
  have e:b=it:=by simpa using hb
  subst e
  obtain⟨o,e,c,d⟩:=st
  exact⟨o,e,fun v z=>by rw[d] at z;cases z⟩
 keep:=fun i h h' st k=>st.at fun o e=>k it (by simp) o e
 item:=by
  intro X hP hw hK hc i pins s σ H E I hf st hg
  subst hP hw hK
  obtain⟨xs,x,hq,hx⟩:=hg
  obtain⟨its,rv,p,hz⟩:=I.list hq
  obtain⟨u,hu,ru⟩:=rv.get hx
  obtain⟨f0,f1,f2,f3,f4,f5⟩:=hf it (by simp)
  refine wpAny_pyNext_list_item st p.isList (x:=u) (by simpa using hu) fun h' st' sb=>?_
  have I1:Inv X pins σ H { s with heap:=h' }:=I.turned (t':=s.toks) (fun b o hb e=>(sb.2 b hb).trans e) f0 f1 f3 f4 f5
  obtain⟨o,e,c,d⟩:=id st'
  exact⟨u,rfl,zKS (s:={ s with heap:=h' }) e c d (by decide) ⟨x,H,I1,ru,⟨rfl,fun ys hy=>by rw[I.list_inj hy hq];exact hx⟩,st',fun b hb=>(hf b hb).1⟩⟩
 done:=by
  intro X hP hw hK hc i pins s σ H E I hf st hg
  subst hP hw hK
  obtain⟨xs,hq,hx⟩:=hg
  obtain⟨its,rv,p,hz⟩:=I.list hq
  obtain⟨f0,f1,f2,f3,f4,f5⟩:=hf it (by simp)
  have hl:=rv.length
  exact wpAny_pyNext_list_end (I.ok.hd hc) st p.isList (by simp;omega) fun h' eb=>⟨rfl,I.turned (t':=s.toks) (fun b o hb e=>eb b o hb e) f0 f1 f3 f4 f5⟩
 self:=fun _ _ _ _ _ st h=>wpAny_pyIter_listiter st h
theorem zHB {P:Program}{w:World}{K:PySem.W.Frag}{tg:Expr}(a it:Addr):Turn P w K tg (Itt K a) [it] it (fun i h=>h.IsTupleIter it a i) where
 mem:=by simp
 obj:=fun i h st b hb=>by
  have e:b=it:=by simpa using hb
  subst e
  obtain⟨o,e,c,d⟩:=st
  exact⟨o,e,fun v z=>by rw[d] at z;cases z⟩
 keep:=fun i h h' st k=>st.at fun o e=>k it (by simp) o e
 item:=by
  intro X hP hw hK hc i pins s σ H E I hf st hg
  subst hP hw hK
  obtain⟨xs,x,hq,hx⟩:=hg
  obtain⟨its,rv,p,hz⟩:=I.tuple hq
  obtain⟨u,hu,ru⟩:=rv.get hx
  obtain⟨f0,f1,f2,f3,f4,f5⟩:=hf it (by simp)
  refine wpAny_pyNext_tuple_item st (show s.heap.IsTuple a its.toArray from p) (x:=u) (by simpa using hu) fun h' st' sb=>?_
  have I1:Inv X pins σ H { s with heap:=h' }:=I.turned (t':=s.toks) (fun b o hb e=>(sb.2 b hb).trans e) f0 f1 f3 f4 f5
  obtain⟨o,e,c,d⟩:=id st'
  exact⟨u,rfl,zKS (s:={ s with heap:=h' }) e c d (by decide) ⟨x,H,I1,ru,⟨rfl,fun ys hy=>by rw[I.tuple_inj hy hq];exact hx⟩,st',fun b hb=>(hf b hb).1⟩⟩
 done:=by
  intro X hP hw hK hc i pins s σ H E I hf st hg
  subst hP hw hK
  obtain⟨xs,hq,hx⟩:=hg
  obtain⟨its,rv,p,hz⟩:=I.tuple hq
  obtain⟨f0,f1,f2,f3,f4,f5⟩:=hf it (by simp)
  have hl:=rv.length
  exact wpAny_pyNext_tuple_end (I.ok.hd hc) st (show s.heap.IsTuple a its.toArray from p) (by simp;omega) fun h' eb=>⟨rfl,I.turned (t':=s.toks) (fun b o hb e=>eb b o hb e) f0 f1 f3 f4 f5⟩
 self:=fun _ _ _ _ _ st h=>wpAny_pyIter_tupleiter st h
theorem zHC {P:Program}{w:World}{K:PySem.W.Frag}{tg:Expr}(it:Addr)(lo:Int)(n:Nat):Turn P w K tg (Itr lo n) [it] it (fun i h=>IsRangeIter h it (lo+(i:Nat)*1) ((n:Int)-(i:Nat)) 1) where
 mem:=by simp
 obj:=fun i h st b hb=>by
  have e:b=it:=by simpa using hb
  subst e
  exact⟨_,st,fun v z=>by
   have z':Data.fields _=Data.cell v:=z
   cases z'⟩
 keep:=fun i h h' st k=>k it (by simp) _ st
 item:=by
  intro X hP hw hK hc i pins s σ H E I hf st hg
  subst hP hw hK
  obtain⟨f0,f1,f2,f3,f4,f5⟩:=hf it (by simp)
  have W:=Walks.range (prog:=X.prog) (w:=X.w) (I.ok.hd hc) it lo 1 n
  refine W.item i s _ _ hg st fun v h' tk hv st' kk=>?_
  obtain⟨t,rfl⟩:=hv
  have I1:Inv X pins σ H { s with heap:=h',toks:=tk }:=I.turned (fun b o hb e=>kk b o (by simpa using hb) e) f0 f1 f3 f4 f5
  refine⟨_,rfl,zKS (s:={ s with heap:=h',toks:=tk }) (n := "range_iterator") st' rfl rfl (by decide) ⟨.int (lo+i),H,I1,⟨t,?_⟩,⟨rfl,rfl⟩,st',fun b hb=>(hf b hb).1⟩⟩
  rw[Int.mul_one]
 done:=by
  intro X hP hw hK hc i pins s σ H E I hf st hg
  subst hP hw hK
  obtain⟨f0,f1,f2,f3,f4,f5⟩:=hf it (by simp)
  exact wpAny_pyNext_range_end (I.ok.hd hc) st (by have:n<=i:=hg;omega) fun h' eb=>⟨rfl,I.turned (t':=s.toks) (fun b o hb e=>eb b o hb e) f0 f1 f3 f4 f5⟩
 self:=fun _ _ _ _ _ st h=>wpAny_pyIter_rangeiter st h
end L2
namespace L2
open PySem PySem.Spec PyProof.Rows
section
variable {X:Cx}{tg:Expr}
noncomputable def iList (K:PySem.W.Frag)(tl:TE):TI:=fun σ H R=>tl σ H fun x H1=>∃a,x = .ref a/\(∃xs,SqL K H1 a xs)/\R (Itl K a) H1
noncomputable def iTup (K:PySem.W.Frag)(tl:TE):TI:=fun σ H R=>tl σ H fun x H1=>∃a,x = .ref a/\(∃xs,SqT K H1 a xs)/\R (Itt K a) H1
theorem zBv {l:Expr}{tl:TE}(hl:PE X l tl):PI X tg l (iList X.K tl):=by
 intro pins s σ H R I h
 refine thn (hl pins s σ H _ I h) fun v s1 ⟨x,H1,I1,r1,q1⟩=>?_
 obtain⟨a,e,⟨xs,hq⟩,q⟩:=q1
 subst e
 cases r1
 obtain⟨its,rv,p,hz⟩:=I1.list hq
 refine wpAny_pyIter_list p.isList ?_
 refine⟨s1.heap.objs.size,[s1.heap.objs.size],_,_,H1,rfl,I1.kept (t':=s1.toks) fun b o e=>zF _ e,zHp a _,⟨_,zQ _ rfl,rfl,rfl⟩,fun b hb=>?_,q⟩
 have e:b=s1.heap.objs.size:=by simpa using hb
 subst e
 exact I1.fpOk (zI _) (I1.hok.fresh (zI _))
theorem zC0 {l:Expr}{tl:TE}(hl:PE X l tl):PI X tg l (iTup X.K tl):=by
 intro pins s σ H R I h
 refine thn (hl pins s σ H _ I h) fun v s1 ⟨x,H1,I1,r1,q1⟩=>?_
 obtain⟨a,e,⟨xs,hq⟩,q⟩:=q1
 subst e
 cases r1
 obtain⟨its,rv,p,hz⟩:=I1.tuple hq
 refine wpAny_pyIter_tuple (show s1.heap.IsTuple a its.toArray from p) ?_
 refine⟨s1.heap.objs.size,[s1.heap.objs.size],_,_,H1,rfl,I1.kept (t':=s1.toks) fun b o e=>zF _ e,zHB a _,⟨_,zQ _ rfl,rfl,rfl⟩,fun b hb=>?_,q⟩
 have e:b=s1.heap.objs.size:=by simpa using hb
 subst e
 exact I1.fpOk (zI _) (I1.hok.fresh (zI _))
theorem zGf {pins:List (Addr×Obj)}{σ:St}{H:Hp}{s:Shared}{R:It->Hp->Prop}{E:Value->Shared->Prop}{lo hi:Int}{t u v:Tok}{tk:Nat}(I:Inv X pins σ H s)(h1 : -(2 ^ 62)<=lo)(h2:lo<2 ^ 62)(h3 : -(2 ^ 62)<=hi)(h4:hi<2 ^ 62)
 (q:R (Itr lo (hi-lo).toNat) H):wpAny (model X.prog X.w) X.A (pyIter (.ref s.heap.objs.size)) (PIE X pins σ tg R) E { s with heap:=s.heap.push { cls:=.type "range",data:=.fields #[.int lo t,.int hi u,.int 1 v] },toks:=tk }:=by
 refine wpAny_pyIter_range (IsRange.new ..) (small_one h1 h2 h3 h4) ?_
 have I1:Inv X pins σ H { s with heap:=s.heap.push { cls:=.type "range",data:=.fields #[.int lo t,.int hi u,.int 1 v] },toks:=tk }:=I.kept fun b o e=>zF _ e
 refine⟨(s.heap.push { cls:=.type "range",data:=.fields #[.int lo t,.int hi u,.int 1 v] }).objs.size,[(s.heap.push { cls:=.type "range",data:=.fields #[.int lo t,.int hi u,.int 1 v] }).objs.size],_,_,H,rfl,
  I1.kept (t':=tk) fun b o e=>zF _ e,zHC _ lo (hi-lo).toNat,?_,fun b hb=>?_,q⟩
 . have e1:lo+((0:Nat):Int)*1=lo:=by simp
   have e2:(((hi-lo).toNat:Nat):Int)-((0:Nat):Int)=Builtin.Range.rangeSize lo hi 1:=by rw[rangeSize_one];split <;> omega
   show IsRangeIter _ _ (lo+((0:Nat):Int)*1) ((((hi-lo).toNat:Nat):Int)-((0:Nat):Int)) 1
   rw[e1,e2]
   exact zQ _ rfl
 . have e:b=(s.heap.push { cls:=.type "range",data:=.fields #[.int lo t,.int hi u,.int 1 v] }).objs.size:=by simpa using hb
   subst e
   exact I1.fpOk (zI _) (I1.hok.fresh (zI _))
noncomputable def iRng1 (ta:TA):TI:=fun σ H R=>ta σ H fun vs H1=>∃j:Int,vs=[.int j] /\ -(2 ^ 62)<=j/\j<2 ^ 62/\R (Itr 0 j.toNat) H1
noncomputable def iRng2 (ta:TA):TI:=fun σ H R=>ta σ H fun vs H1=>∃i j:Int,vs=[.int i,.int j]/\(-(2 ^ 62)<=i/\i<2 ^ 62 /\ -(2 ^ 62)<=j/\j<2 ^ 62)/\R (Itr i (j-i).toNat) H1
theorem zAZ {a:Expr}{ta:TA}{p pos:Pos}(hg:Gl X "range") (hm:X.mg "range" = none) (ha:PA X [a] ta)(hs:starEach [a] X.env=[(false,eval a X.env)]:=by rfl):PI X tg (.Call (.Name "range" p) [a] [] pos) (iRng1 ta):=by
 intro pins s σ H R I h
 refine Call_ (zCa I hg hm boot_range (PyProof.Rows.callWith_type1 (thn (ha pos pins s σ H _ I h) fun us s1 ⟨vs,H1,I1,r1,q1⟩=>?_) hs rfl))
 obtain⟨j,e,q1,q2,q⟩:=q1
 subst e
 cases r1 with
 | cons r rr=>
  cases rr
  obtain⟨t,rfl⟩:=r
  exact call_range_1 (zGf I1 (by omega) (by omega) q1 q2 (by simpa using q))
theorem zFG {a b:Expr}{ta:TA}{p pos:Pos}(hg:Gl X "range") (hm:X.mg "range" = none) (ha:PA X [a,b] ta)(hs:starEach [a,b] X.env=[(false,eval a X.env),(false,eval b X.env)]:=by rfl)(hs2:starEach [b] X.env=[(false,eval b X.env)]:=by rfl) :
 PI X tg (.Call (.Name "range" p) [a,b] [] pos) (iRng2 ta):=by
 intro pins s σ H R I h
 refine Call_ (zCa I hg hm boot_range (PyProof.Rows.callWith_type1 (thn (ha pos pins s σ H _ I h) fun us s1 ⟨vs,H1,I1,r1,q1⟩=>?_) (by rw[hs,hs2]) (by rw[hs2];rfl)))
 obtain⟨i,j,e,⟨q1,q2,q3,q4⟩,q⟩:=q1
 subst e
 cases r1 with
 | cons r rr=>
  cases rr with
  | cons r' rr=>
   cases rr
   obtain⟨t,rfl⟩:=r
   obtain⟨t',rfl⟩:=r'
   exact call_range_2 (zGf I1 q1 q2 q3 q4 q)
noncomputable def tFor (wi:TI)(g:TG)(tb:TS):TS:=fun D σ H=>wi σ H fun J H1=>∃W:Nat->Nat->St->Hp->Prop,(∃m,W 0 m σ H1)/\∀i m σ H,W i m σ H ->
 (J.stop i H/\D.nx σ H)\/(J.go i H/\∃N:St->Hp->Prop,(∀ σ' H',N σ' H'->∃m',m'<m/\W (i+1) m' σ' H')/\∀x H',J.yld i H x H'->g x σ H' fun σ2 H2=>tb { D with nx:=N,ct:=N,bk:=D.nx } σ2 H2)
noncomputable def zEK (fp:List Addr)(h:Heap):List (Addr×Obj):=fp.filterMap fun b=>(h.get? b).map fun o=>(b,o)
theorem zCE {fp:List Addr}{h:Heap}{b:Addr}{o:Obj}(hb:b∈fp)(e:h.get? b=some o):(b,o)∈zEK fp h:=zA4.mpr ⟨b,hb,by rw[e];rfl⟩
theorem zIU {fp:List Addr}{h:Heap}{p:Addr×Obj}(hp:p∈zEK fp h):p.1∈fp/\h.get? p.1=some p.2:=by
 obtain⟨b,hb,e⟩:=zA4.mp hp
 cases q:h.get? b with
 | none=>rw[q] at e;cases e
 | some o=>
  rw[q] at e
  have e':(b,o)=p:=zP e
  subst e'
  exact⟨hb,q⟩
theorem Inv.pinned {pins:List (Addr×Obj)}{σ:St}{H:Hp}{s:Shared}{fp:List Addr}(I:Inv X pins σ H s)(hf:∀b∈fp,zDE X pins H b)(ho:∀b∈fp,∃o,s.heap.get? b=some o/\∀v,o.data ≠ .cell v):Inv X (pins++zEK fp s.heap) σ H s:=
 I.pins_of fun p hp=>(zAC.mp hp).elim (fun z=>I.pin p (zg _ z)) fun z=>by
  obtain⟨hb,e⟩:=zIU z
  obtain⟨f0,f1,f2,_⟩:=hf p.1 hb
  obtain⟨o,e',d⟩:=ho p.1 hb
  rw[e] at e';cases e'
  exact⟨e,f0,f1,f2,d⟩
theorem Inv.unpinned {pins pl:List (Addr×Obj)}{σ:St}{H:Hp}{s:Shared}(I:Inv X (pins++pl) σ H s):Inv X pins σ H s:=I.pins_of fun p hp=>I.pin p (zg _ (zA6 _ hp))
theorem zBY {iter:Expr}{body:List Stmt}{wi:TI}{g:TG}{tb:TS}{pos:Pos}(hp:PassesOwn (model X.prog X.w) X.A X.env X.xe)(hc:X.calm=true)(hi:PI X tg iter wi)(hg:PG X tg g)(hb:PSs X body tb)
 (hs:∀x,foldedSetIterable iter X.env x=pure x:=by intro _;rfl):PS X (.For tg iter body [] pos) (tFor wi g tb):=by
 intro pins s σ H D I h
 refine wpAny_For (thn (hi pins s σ H _ I h) fun v s1 h1=>thn h1 fun itv s2 h2=>?_) hs
 obtain⟨it,fp,tn,J,H2,e,I2,T,st2,f2,W,⟨m0,w0⟩,turn⟩:=h2
 subst e
 have stat:∀{H':Hp},(∀b∈fp,H' b=none)->∀b∈fp,zDE X pins H' b:=fun hn b hb=>⟨hn b hb,(f2 b hb).2⟩
 refine codeAny_forLoop_any (fun n s'=>∃i σ' H',Inv X pins σ' H' s'/\tn i s'.heap/\(∀b∈fp,H' b=none)/\W i n σ' H') ?_ m0 ⟨0,σ,H2,I2,st2,fun b hb=>(f2 b hb).1,w0⟩
 rintro n s3 ⟨i,σ3,H3,I3,st3,fr3,w3⟩
 rcases turn i n σ3 H3 w3 with ⟨stop,qn⟩ | ⟨go,N,hN,step⟩
 . refine wpAny_passesOwn hp (thn (T.done X rfl rfl rfl hc i pins s3 σ3 H3 X.xe I3 (stat fr3) st3 stop) fun r s4 ⟨hr,I4⟩=>?_)
   subst hr
   exact wpAny_execs_nil ⟨σ3,H3,I4,qn⟩
 . refine wpAny_passesOwn hp (thn (T.item X rfl rfl rfl hc i pins s3 σ3 H3 X.xe I3 (stat fr3) st3 go) fun r s4 ⟨u,hr,h4⟩=>?_)
   subst hr
   refine wpAny_passesOwn hp (thn h4 fun _ s5 ⟨x,H5,I5,r5,y5,st5,fr5⟩=>?_)
   have I5':=I5.pinned (stat fr5) (T.obj _ _ st5)
   refine wpAny_passesOwn hp (thn (hg _ s5 σ3 H5 x u _ I5' r5 (step x H5 y5)) fun _ s6 ⟨σ6,H6,I6,q6⟩=>?_)
   refine wpAny_passesOwn hp (thn (hb _ s6 σ6 H6 _ I6 q6) fun f s7 q7=>?_)
   have again:∀{σ7:St}{H7:Hp},Inv X (pins++zEK fp s5.heap) σ7 H7 s7->N σ7 H7->∃m,m<n/\∃i σ' H',Inv X pins σ' H' s7/\tn i s7.heap/\(∀b∈fp,H' b=none)/\W i m σ' H':=fun {σ7 H7} I7 n7=>by
    obtain⟨m',hm,w7⟩:=hN σ7 H7 n7
    refine⟨m',hm,i+1,σ7,H7,I7.unpinned,T.keep _ _ _ st5 fun b hb o e=>(I7.pin (b,o) (zg _ (zg _ (zCE hb e)))).1,fun b hb=>?_,w7⟩
    obtain⟨o,e,d⟩:=T.obj _ _ st5 b hb
    exact (I7.pin (b,o) (zg _ (zg _ (zCE hb e)))).2.1
   cases f with
   | next=>obtain⟨σ7,H7,I7,n7⟩:=q7;exact again I7 n7
   | cont=>obtain⟨σ7,H7,I7,n7⟩:=q7;exact again I7 n7
   | brk=>obtain⟨σ7,H7,I7,q7⟩:=q7;exact⟨σ7,H7,I7.unpinned,q7⟩
   | ret v=>obtain⟨x7,σ7,H7,I7,r7,q7⟩:=q7;exact⟨x7,σ7,H7,I7.unpinned,r7,q7⟩
end
theorem zDV {K:PySem.W.Frag}{a:Addr}{xs:List V}{g:TG}{tb:TS}{D:zHn}{σ:St}{H:Hp}(Pv:Nat->St->Hp->Prop)(h0:Pv 0 σ H)(hl:∀i σ H,i<=xs.length->Pv i σ H->SqL K H a xs)
 (hs:∀i x σ H,xs[i]? = some x->Pv i σ H->g x σ H fun σ2 H2=>tb { D with nx:=Pv (i+1),ct:=Pv (i+1),bk:=D.nx } σ2 H2)(hd:∀ σ H,Pv xs.length σ H->D.nx σ H) :
 ∃W:Nat->Nat->St->Hp->Prop,(∃m,W 0 m σ H)/\∀i m σ H,W i m σ H ->
  ((Itl K a).stop i H/\D.nx σ H)\/((Itl K a).go i H/\∃N:St->Hp->Prop,(∀ σ' H',N σ' H'->∃m',m'<m/\W (i+1) m' σ' H')/\∀x H',(Itl K a).yld i H x H'->g x σ H' fun σ2 H2=>tb { D with nx:=N,ct:=N,bk:=D.nx } σ2 H2):=by
 refine⟨fun i m σ H=>m=xs.length-i/\i<=xs.length/\Pv i σ H,⟨xs.length,by simp,zh _,h0⟩,?_⟩
 rintro i m σ H ⟨rfl,hi,p⟩
 have q:=hl i σ H hi p
 by_cases hlt:i<xs.length
 . refine .inr ⟨⟨xs,xs[i],q,by simp[hlt]⟩,Pv (i+1),fun σ' H' p'=>⟨xs.length-(i+1),by omega,rfl,hlt,p'⟩,fun x H' y=>?_⟩
   obtain⟨e,y⟩:=y
   subst e
   exact hs i x σ _ (y xs q) p
 . have e:i=xs.length:=by omega
   subst e
   exact .inl ⟨⟨xs,q,zI _⟩,hd σ H p⟩
theorem zGE {K:PySem.W.Frag}{a:Addr}{xs:List V}{g:TG}{tb:TS}{D:zHn}{σ:St}{H:Hp}(Pv:Nat->St->Hp->Prop)(h0:Pv 0 σ H)(hl:∀i σ H,i<=xs.length->Pv i σ H->SqT K H a xs)
 (hs:∀i x σ H,xs[i]? = some x->Pv i σ H->g x σ H fun σ2 H2=>tb { D with nx:=Pv (i+1),ct:=Pv (i+1),bk:=D.nx } σ2 H2)(hd:∀ σ H,Pv xs.length σ H->D.nx σ H) :
 ∃W:Nat->Nat->St->Hp->Prop,(∃m,W 0 m σ H)/\∀i m σ H,W i m σ H ->
  ((Itt K a).stop i H/\D.nx σ H)\/((Itt K a).go i H/\∃N:St->Hp->Prop,(∀ σ' H',N σ' H'->∃m',m'<m/\W (i+1) m' σ' H')/\∀x H',(Itt K a).yld i H x H'->g x σ H' fun σ2 H2=>tb { D with nx:=N,ct:=N,bk:=D.nx } σ2 H2):=by
 refine⟨fun i m σ H=>m=xs.length-i/\i<=xs.length/\Pv i σ H,⟨xs.length,by simp,zh _,h0⟩,?_⟩
 rintro i m σ H ⟨rfl,hi,p⟩
 have q:=hl i σ H hi p
 by_cases hlt:i<xs.length
 . refine .inr ⟨⟨xs,xs[i],q,by simp[hlt]⟩,Pv (i+1),fun σ' H' p'=>⟨xs.length-(i+1),by omega,rfl,hlt,p'⟩,fun x H' y=>?_⟩
   obtain⟨e,y⟩:=y
   subst e
   exact hs i x σ _ (y xs q) p
 . have e:i=xs.length:=by omega
   subst e
   exact .inl ⟨⟨xs,q,zI _⟩,hd σ H p⟩
theorem zBK {lo:Int}{n:Nat}{g:TG}{tb:TS}{D:zHn}{σ:St}{H:Hp}(Pv:Nat->St->Hp->Prop)(h0:Pv 0 σ H)
 (hs:∀i σ H,i<n->Pv i σ H->g (.int (lo+i)) σ H fun σ2 H2=>tb { D with nx:=Pv (i+1),ct:=Pv (i+1),bk:=D.nx } σ2 H2)(hd:∀ σ H,Pv n σ H->D.nx σ H) :
 ∃W:Nat->Nat->St->Hp->Prop,(∃m,W 0 m σ H)/\∀i m σ H,W i m σ H ->
  ((Itr lo n).stop i H/\D.nx σ H)\/((Itr lo n).go i H/\∃N:St->Hp->Prop,(∀ σ' H',N σ' H'->∃m',m'<m/\W (i+1) m' σ' H')/\∀x H',(Itr lo n).yld i H x H'->g x σ H' fun σ2 H2=>tb { D with nx:=N,ct:=N,bk:=D.nx } σ2 H2):=by
 refine⟨fun i m σ H=>m=n-i/\i<=n/\Pv i σ H,⟨n,by simp,zh _,h0⟩,?_⟩
 rintro i m σ H ⟨rfl,hi,p⟩
 by_cases hlt:i<n
 . refine .inr ⟨hlt,Pv (i+1),fun σ' H' p'=>⟨n-(i+1),by omega,rfl,hlt,p'⟩,fun x H' y=>?_⟩
   obtain⟨e,y⟩:=y
   subst e y
   exact hs i σ _ hlt p
 . have e:i=n:=by omega
   subst e
   exact .inl ⟨zI _,hd σ H p⟩
end L2
namespace L2
open PySem PySem.Spec PyProof.Rows
noncomputable abbrev R2:=V->V->Hp->VK->Prop
noncomputable def OpR (X:Cx)(f:Value->Value->Sem Value)(r:R2):Prop:=
 ∀(pins:List (Addr×Obj))(s:Shared)(σ:St)(H:Hp)(x y:V)(v u:Value)(Q:VK),Inv X pins σ H s->zBT x v->zBT y u->r x y H Q ->
  wpAny (model X.prog X.w) X.A (f v u) (EP X pins σ Q) X.xe s
noncomputable def UnR (X:Cx)(f:Value->Sem Value)(r:V->Hp->VK->Prop):Prop:=
 ∀(pins:List (Addr×Obj))(s:Shared)(σ:St)(H:Hp)(x:V)(v:Value)(Q:VK),Inv X pins σ H s->zBT x v->r x H Q ->
  wpAny (model X.prog X.w) X.A (f v) (EP X pins σ Q) X.xe s
noncomputable def zCo (X:Cx)(f:Value)(r:List V->Hp->VK->Prop):Prop:=
 ∀(pins:List (Addr×Obj))(s:Shared)(σ:St)(H:Hp)(xs:List V)(us:List Value)(Q:VK),Inv X pins σ H s->zBJ xs us->r xs H Q ->
  wpAny (model X.prog X.w) X.A (call f us) (EP X pins σ Q) X.xe s
noncomputable def TruR (X:Cx)(r:V->Hp->(Bool->Hp->Prop)->Prop):Prop:=
 ∀(pins:List (Addr×Obj))(s:Shared)(σ:St)(H:Hp)(x:V)(v:Value)(Q:Bool->Hp->Prop),Inv X pins σ H s->zBT x v->r x H Q ->
  wpAny (model X.prog X.w) X.A (truthy v) (TP X pins σ Q) X.xe s
noncomputable def tOp (r:R2)(ta tb:TE):TE:=fun σ H Q=>ta σ H fun x H1=>tb σ H1 fun y H2=>r x y H2 Q
noncomputable def tUn (r:V->Hp->VK->Prop)(ta:TE):TE:=fun σ H Q=>ta σ H fun x H1=>r x H1 Q
noncomputable def rI (C:Int->Int->Prop)(g:Int->Int->V):R2:=fun x y H Q=>∃i j,x = .int i/\y = .int j/\C i j/\Q (g i j) H
noncomputable def rI0 (g:Int->Int->V):R2:=fun x y H Q=>∃i j,x = .int i/\y = .int j/\Q (g i j) H
noncomputable def rU (g:Int->V):V->Hp->VK->Prop:=fun x H Q=>∃i,x = .int i/\Q (g i) H
section
variable {X:Cx}{a b c:Expr}{ta tb tc:TE}{pos:Pos}
theorem binT (ha:PE X a ta)(hb:PE X b tb){pins:List (Addr×Obj)}{s:Shared}{σ:St}{H:Hp}{R:V->V->Hp->Prop}(I:Inv X pins σ H s)
 (h:ta σ H fun x H1=>tb σ H1 fun y H2=>R x y H2){Q:Value->Shared->Prop}{f:Value->Value->Sem Value}
 (hf:∀v u s2 x y H2,Inv X pins σ H2 s2->zBT x v->zBT y u->R x y H2->wpAny (model X.prog X.w) X.A (f v u) Q X.xe s2) :
 wpAny (model X.prog X.w) X.A (eval a X.env) (fun v s₁=>wpAny (model X.prog X.w) X.A (eval b X.env) (fun u s₂=>wpAny (model X.prog X.w) X.A (f v u) Q X.xe s₂) X.xe s₁) X.xe s:=by
 refine thn (ha pins s σ H _ I h) fun v s1 ⟨x,H1,I1,r1,q1⟩=>?_
 refine thn (hb pins s1 σ H1 _ I1 q1) fun u s2 ⟨y,H2,I2,r2,q2⟩=>?_
 exact hf v u s2 x y H2 I2 r1 r2 q2
theorem zAc {op:Operator}{r:R2}(ho:OpR X (binaryOp op) r)(ha:PE X a ta)(hb:PE X b tb):PE X (.BinOp a op b pos) (tOp r ta tb):=by
 intro pins s σ H Q I h
 exact wpAny_BinOp (binT ha hb I h fun v u s2 x y H2 I2 rx ry q=>ho pins s2 σ H2 x y v u Q I2 rx ry q)
theorem zFH {op:UnaryOp}{r:V->Hp->VK->Prop}(ho:UnR X (unaryOp op) r)(ha:PE X a ta):PE X (.UnaryOp op a pos) (tUn r ta):=by
 intro pins s σ H Q I h
 exact UnaryOp_ (thn (ha pins s σ H _ I h) fun v s1 ⟨x,H1,I1,r1,q1⟩=>ho pins s1 σ H1 x v Q I1 r1 q1)
theorem opI {f:Value->Value->Sem Value}{C:Int->Int->Prop}{g:Int->Int->Int}
 (rule:∀(i j:Int)(t u:Tok)(s:Shared)(Q:Value->Shared->Prop)(E:Value->Shared->Prop),C i j->Q (.int (g i j) s.toks) { s with toks:=s.toks+1 }->wpAny (model X.prog X.w) X.A (f (.int i t) (.int j u)) Q E s) :
 OpR X f (rI C fun i j=>.int (g i j)):=by
 intro pins s σ H x y v u Q I rx ry h
 obtain⟨i,j,rfl,rfl,hc,q⟩:=h
 obtain⟨t,rfl⟩:=rx
 obtain⟨t',rfl⟩:=ry
 exact rule i j t t' s _ _ hc ⟨.int (g i j),H,I.tok _,⟨_,rfl⟩,q⟩
theorem opI0 {f:Value->Value->Sem Value}{g:Int->Int->Int}
 (rule:∀(i j:Int)(t u:Tok)(s:Shared)(Q:Value->Shared->Prop)(E:Value->Shared->Prop),Q (.int (g i j) s.toks) { s with toks:=s.toks+1 }->wpAny (model X.prog X.w) X.A (f (.int i t) (.int j u)) Q E s) :
 OpR X f (rI0 fun i j=>.int (g i j)):=by
 intro pins s σ H x y v u Q I rx ry h
 obtain⟨i,j,rfl,rfl,q⟩:=h
 obtain⟨t,rfl⟩:=rx
 obtain⟨t',rfl⟩:=ry
 exact rule i j t t' s _ _ ⟨.int (g i j),H,I.tok _,⟨_,rfl⟩,q⟩
theorem opB0 {f:Value->Value->Sem Value}{g:Int->Int->Bool}
 (rule:∀(i j:Int)(t u:Tok)(s:Shared)(Q:Value->Shared->Prop)(E:Value->Shared->Prop),Q (.bool (g i j)) s->wpAny (model X.prog X.w) X.A (f (.int i t) (.int j u)) Q E s) :
 OpR X f (rI0 fun i j=>.bl (g i j)):=by
 intro pins s σ H x y v u Q I rx ry h
 obtain⟨i,j,rfl,rfl,q⟩:=h
 obtain⟨t,rfl⟩:=rx
 obtain⟨t',rfl⟩:=ry
 exact rule i j t t' s _ _ ⟨.bl (g i j),H,I,rfl,q⟩
noncomputable def CDiv (i j:Int):Prop:=0<j/\j<1073741824
noncomputable def CPow (i j:Int):Prop:=0<=j/\j<=1000000/\i.natAbs<2 ^ 64
noncomputable def CMul (i j:Int):Prop:=(-(2 ^ 64)<i/\i<2 ^ 64)\/(-(2 ^ 64)<j/\j<2 ^ 64)
theorem CMul.ok {i j:Int}(h:CMul i j):IntMulOk i j:=by
 rcases h with ⟨h1,h2⟩ | ⟨h1,h2⟩
 . exact .of_left (intBits_le_64 h1 h2)
 . exact .of_right (intBits_le_64 h1 h2)
theorem zHA (k:Nat):(0:Int)<=2 ^ k:=by
 rw[two_pow_cast]
 exact Int.natCast_nonneg _
theorem zBe:OpR X (binaryOp .Add) (rI0 fun i j=>.int (i+j)):=opI0 fun _ _ _ _ _ _ _ q=>add_int q
theorem zEM:OpR X (binaryOp .Sub) (rI0 fun i j=>.int (i-j)):=opI0 fun _ _ _ _ _ _ _ q=>sub_int q
theorem zFJ:OpR X (binaryOp .Mult) (rI CMul fun i j=>.int (i*j)):=opI fun _ _ _ _ _ _ _ hc q=>mul_int q hc.ok
theorem zEn:OpR X (binaryOp .FloorDiv) (rI CDiv fun i j=>.int (i/j)):=opI fun i j _ _ _ _ _ hc q=>by
 have h1:(0:Int)<j:=hc.1
 have h2:j<1073741824:=hc.2
 exact floordiv_int (by omega) (by rw[Int.fdiv_eq_ediv_of_nonneg i (by omega)];exact q) (.inl (PyProof.noPylong_small (by omega)))
theorem zDh:OpR X (binaryOp .Mod) (rI (fun _ j=>0<j) fun i j=>.int (i%j)):=opI fun i j _ _ _ _ _ hc q=>by
 have h1:(0:Int)<j:=hc
 exact mod_int' (by omega) (by rw[Int.fmod_eq_emod_of_nonneg i (by omega)];exact q)
theorem op_pow:OpR X (binaryOp .Pow) (rI CPow fun i j=>.int (i ^ j.toNat)):=opI fun _ _ _ _ _ _ _ hc q=>pow_int_small hc.1 hc.2.1 hc.2.2 q
theorem zCN:OpR X (binaryOp .LShift) (rI CPow fun i j=>.int (i*2 ^ j.toNat)):=opI fun _ _ _ _ _ _ _ hc q=>lshift_int_small hc.1 hc.2.1 hc.2.2 q
theorem zKz:OpR X (binaryOp .RShift) (rI (fun _ j=>0<=j) fun i j=>.int (i/2 ^ j.toNat)):=opI fun i j _ _ _ _ _ hc q=>
 rshift_int hc (by rw[Int.fdiv_eq_ediv_of_nonneg i (zHA _)];exact q)
theorem zFK:OpR X (binaryOp .BitAnd) (rI0 fun i j=>.int (Builtin.bitAnd i j)):=opI0 fun _ _ _ _ _ _ _ q=>and_int q
theorem op_or:OpR X (binaryOp .BitOr) (rI0 fun i j=>.int (Builtin.bitOr i j)):=opI0 fun _ _ _ _ _ _ _ q=>or_int q
theorem unI {f:Value->Sem Value}{g:Int->Int}
 (rule:∀(i:Int)(t:Tok)(s:Shared)(Q:Value->Shared->Prop)(E:Value->Shared->Prop),Q (.int (g i) s.toks) { s with toks:=s.toks+1 }->wpAny (model X.prog X.w) X.A (f (.int i t)) Q E s) :
 UnR X f (rU fun i=>.int (g i)):=by
 intro pins s σ H x v Q I rx h
 obtain⟨i,rfl,q⟩:=h
 obtain⟨t,rfl⟩:=rx
 exact rule i t s _ _ ⟨.int (g i),H,I.tok _,⟨_,rfl⟩,q⟩
theorem zDM:UnR X (unaryOp .USub) (rU fun i=>.int (-i)):=unI fun _ _ _ _ _ q=>neg_int q
end
noncomputable def scal:V->V->Bool
 | .non,.non=>true | .non,.int _=>true | .int _,.non=>true | .non,.bl _=>true | .bl _,.non=>true | .non,.str _=>true | .str _,.non=>true
 | .int _,.int _=>true | .bl _,.bl _=>true | .str _,.str _=>true | .byt _,.byt _=>true
 | .int _,.str _=>true | .str _,.int _=>true | .bl _,.str _=>true | .str _,.bl _=>true
 | _,_=>false
noncomputable def rEq:R2:=fun x y H Q=>scal x y=true/\Q (.bl (decide (x=y))) H
noncomputable def rNe:R2:=fun x y H Q=>scal x y=true/\Q (.bl (!decide (x=y))) H
theorem zI9 {i j:Int}:decide (V.int i=V.int j)=(i==j):=by
 rw[Bool.eq_iff_iff]
 simp
theorem zLB {i j:Bool}:decide (V.bl i=V.bl j)=(i==j):=by
 rw[Bool.eq_iff_iff]
 simp
theorem zI8 {i j:Str}:decide (V.str i=V.str j)=(i==j):=by
 rw[Bool.eq_iff_iff]
 simp
theorem zJA {i j:Array UInt8}:decide (V.byt i=V.byt j)=(i.toList==j.toList):=by
 rw[Bool.eq_iff_iff]
 cases i
 cases j
 simp
section
variable {X:Cx}{a b c:Expr}{ta tb tc:TE}{pos:Pos}
theorem zBC {pins:List (Addr×Obj)}{σ:St}{H:Hp}{s:Shared}{Q:VK}{k k':Bool}(I:Inv X pins σ H s)(q:Q (.bl k) H)(e:k=k'):EP X pins σ Q (.bool k') s:=by
 subst e
 exact⟨.bl k,H,I,rfl,q⟩
theorem zCU:OpR X (compareOp .Eq) rEq:=by
 intro pins s σ H x y v u Q I rx ry h
 obtain⟨hs,q⟩:=h
 cases x with
 | non=>
  cases rx
  cases y with
  | non=>cases ry;exact PySem.EqNone.eq_none_none (zBC I q (by simp))
  | bl j=>cases ry;exact PySem.EqNone.eq_none_bool (zBC I q (by simp))
  | int j=>obtain⟨t',rfl⟩:=ry;exact PySem.EqNone.eq_none_int (zBC I q (by simp))
  | str j=>obtain⟨t',rfl⟩:=ry;exact PySem.EqNone.eq_none_str (zBC I q (by simp))
  | _=>exact absurd (show false=true from hs) zm
 | bl i=>
  cases rx
  cases y with
  | non=>cases ry;exact PySem.EqNone.eq_bool_none (zBC I q (by simp))
  | bl j=>cases ry;exact eq_bool (zBC I q zLB)
  | str j=>obtain⟨t',rfl⟩:=ry;exact PySem.EqMixed.eq_bool_str (zBC I q (by simp))
  | _=>exact absurd (show false=true from hs) zm
 | int i=>
  obtain⟨t,rfl⟩:=rx
  cases y with
  | non=>cases ry;exact PySem.EqNone.eq_int_none (zBC I q (by simp))
  | int j=>obtain⟨t',rfl⟩:=ry;exact eq_int (zBC I q zI9)
  | str j=>obtain⟨t',rfl⟩:=ry;exact PySem.EqMixed.eq_int_str (zBC I q (by simp))
  | _=>exact absurd (show false=true from hs) zm
 | str i=>
  obtain⟨t,rfl⟩:=rx
  cases y with
  | non=>cases ry;exact PySem.EqNone.eq_str_none (zBC I q (by simp))
  | bl j=>cases ry;exact PySem.EqMixed.eq_str_bool (zBC I q (by simp))
  | int j=>obtain⟨t',rfl⟩:=ry;exact PySem.EqMixed.eq_str_int (zBC I q (by simp))
  | str j=>obtain⟨t',rfl⟩:=ry;exact eq_str (zBC I q zI8)
  | _=>exact absurd (show false=true from hs) zm
 | byt i=>
  obtain⟨t,rfl⟩:=rx
  cases y with
  | byt j=>obtain⟨t',rfl⟩:=ry;exact PySem.W.eq_bytes (zBC I q zJA)
  | _=>exact absurd (show false=true from hs) zm
 | _=>cases y <;> exact absurd (show false=true from hs) zm
theorem zHN:OpR X (compareOp .NotEq) rNe:=by
 intro pins s σ H x y v u Q I rx ry h
 obtain⟨hs,q⟩:=h
 cases x with
 | non=>
  cases rx
  cases y with
  | non=>cases ry;exact PySem.EqNone.ne_none_none (zBC I q (by simp))
  | bl j=>cases ry;exact PySem.EqNone.ne_none_bool (zBC I q (by simp))
  | int j=>obtain⟨t',rfl⟩:=ry;exact PySem.EqNone.ne_none_int (zBC I q (by simp))
  | str j=>obtain⟨t',rfl⟩:=ry;exact PySem.EqNone.ne_none_str (zBC I q (by simp))
  | _=>exact absurd (show false=true from hs) zm
 | bl i=>
  cases rx
  cases y with
  | non=>cases ry;exact PySem.EqNone.ne_bool_none (zBC I q (by simp))
  | bl j=>cases ry;exact ne_bool (zBC I q (congrArg not zLB))
  | str j=>obtain⟨t',rfl⟩:=ry;exact PySem.EqMixed.ne_bool_str (zBC I q (by simp))
  | _=>exact absurd (show false=true from hs) zm
 | int i=>
  obtain⟨t,rfl⟩:=rx
  cases y with
  | non=>cases ry;exact PySem.EqNone.ne_int_none (zBC I q (by simp))
  | int j=>obtain⟨t',rfl⟩:=ry;exact ne_int (zBC I q (congrArg not zI9))
  | str j=>obtain⟨t',rfl⟩:=ry;exact PySem.EqMixed.ne_int_str (zBC I q (by simp))
  | _=>exact absurd (show false=true from hs) zm
 | str i=>
  obtain⟨t,rfl⟩:=rx
  cases y with
  | non=>cases ry;exact PySem.EqNone.ne_str_none (zBC I q (by simp))
  | bl j=>cases ry;exact PySem.EqMixed.ne_str_bool (zBC I q (by simp))
  | int j=>obtain⟨t',rfl⟩:=ry;exact PySem.EqMixed.ne_str_int (zBC I q (by simp))
  | str j=>obtain⟨t',rfl⟩:=ry;exact ne_str (zBC I q (congrArg not zI8))
  | _=>exact absurd (show false=true from hs) zm
 | byt i=>
  obtain⟨t,rfl⟩:=rx
  cases y with
  | byt j=>obtain⟨t',rfl⟩:=ry;exact PySem.W.ne_bytes (zBC I q (congrArg not zJA))
  | _=>exact absurd (show false=true from hs) zm
 | _=>cases y <;> exact absurd (show false=true from hs) zm
theorem zLq:OpR X (compareOp .Lt) (rI0 fun i j=>.bl (decide (i<j))):=opB0 fun _ _ _ _ _ _ _ q=>lt_int q
theorem zLr:OpR X (compareOp .LtE) (rI0 fun i j=>.bl (decide (i<=j))):=opB0 fun _ _ _ _ _ _ _ q=>le_int q
theorem zHO:OpR X (compareOp .Gt) (rI0 fun i j=>.bl (decide (j<i))):=opB0 fun _ _ _ _ _ _ _ q=>gt_int q
theorem op_ge:OpR X (compareOp .GtE) (rI0 fun i j=>.bl (decide (j<=i))):=opB0 fun _ _ _ _ _ _ _ q=>ge_int q
theorem zC3:OpR X (compareOp .Is) (fun x y H Q=>y = .non/\Q (.bl (decide (x = .non))) H):=by
 intro pins s σ H x y v u Q I rx ry h
 obtain⟨rfl,q⟩:=h
 cases ry
 refine is_none_gen (zBC I q ?_)
 cases x <;> first
  | (cases rx;rfl)
  | (obtain⟨t,rfl⟩:=rx;rfl)
theorem zF5:OpR X (compareOp .IsNot) (fun x y H Q=>y = .non/\Q (.bl (!decide (x = .non))) H):=by
 intro pins s σ H x y v u Q I rx ry h
 obtain⟨rfl,q⟩:=h
 cases ry
 refine isnot_none_gen (zBC I q ?_)
 cases x <;> first
  | (cases rx;rfl)
  | (obtain⟨t,rfl⟩:=rx;rfl)
theorem zAa (b:Expr){op:CmpOp}(h:op ≠ .In:=by decide)(h2:op ≠ .NotIn:=by decide):behindInMarks op b=false:=by
 have e1:(op==CmpOp.In)=false:=by cases op <;> first | rfl | exact absurd rfl h
 have e2:(op==CmpOp.NotIn)=false:=by cases op <;> first | rfl | exact absurd rfl h2
 cases b <;> simp[behindInMarks,e1,e2]
theorem zCt {op:CmpOp}{r:R2}(ho:OpR X (compareOp op) r)(ha:PE X a ta)(hb:PE X b tb)(hm:behindInMarks op b=false):PE X (.Compare a [op] [b] pos) (tOp r ta tb):=by
 intro pins s σ H Q I h
 exact wpAny_Compare1 (binT ha hb I h fun v u s2 x y H2 I2 rx ry q=>ho pins s2 σ H2 x y v u Q I2 rx ry q) hm
noncomputable def tTest (t:TE):TT:=fun σ H Q=>t σ H fun x H'=>∃k,x = .bl k/\Q k H'
theorem zAQ {op:CmpOp}{r:R2}(ho:OpR X (compareOp op) r)(ha:PE X a ta)(hb:PE X b tb)(hm:behindInMarks op b=false):PT X (.Compare a [op] [b] pos) (tTest (tOp r ta tb)):=by
 intro pins s σ H Q I h
 refine wpAny_isTrue_Compare1 (thn (ha pins s σ H _ I h) fun v s1 ⟨x,H1,I1,r1,q1⟩=>thn (hb pins s1 σ H1 _ I1 q1) fun u s2 ⟨y,H2,I2,r2,q2⟩=>
  thn (ho pins s2 σ H2 x y v u _ I2 r1 r2 q2) fun c s3 ⟨z,H3,I3,r3,k,e,q3⟩=>?_) hm
 subst e
 cases r3
 exact zBN ⟨H3,I3,q3⟩
noncomputable def TruV (K:PySem.W.Frag)(x:V)(H:Hp)(k:Bool):Prop:=
 match x with
 | .non=>k=false
 | .bl b=>k=b
 | .int i=>k=(i != 0)
 | .str y=>y.length<=sizeLine/\k=((y.length:Int) != 0)
 | .byt y=>y.size<=sizeLine/\k=((y.size:Int) != 0)
 | .ref p=>(∃xs,SqL K H p xs/\k = !xs.isEmpty)\/(∃xs,SqT K H p xs/\k = !xs.isEmpty)\/∃kvs,H p=some (.dK kvs)/\k = !kvs.isEmpty
 | _=>False
theorem zHc {κ:Type}{kvs:List (κ×V)}{vs:List (κ×Value)}(r:KV kvs vs):(!vs.isEmpty) = !kvs.isEmpty:=by
 cases r <;> rfl
theorem zER {xs:List V}{its:List Value}(r:zBJ xs its):(!its.toArray.isEmpty) = !xs.isEmpty:=by
 cases r <;> simp
theorem zFO:(sizeLine:Nat)<2 ^ 63:=by rw[sizeLine_eq];decide
theorem tru_ok:TruR X (fun x H Q=>∃k,TruV X.K x H k/\Q k H):=by
 intro pins s σ H x v Q I rx h
 obtain⟨k,e,q⟩:=h
 have hl:=zFO
 have hs:sizeLine=16777216:=sizeLine_eq
 cases x with
 | non=>
  cases rx
  have e':k=false:=e
  subst e'
  exact truthy_none ⟨H,I,q⟩
 | bl b=>
  cases rx
  have e':k=b:=e
  subst e'
  exact zBN ⟨H,I,q⟩
 | int i=>
  obtain⟨t,rfl⟩:=rx
  have e':k=(i != 0):=e
  subst e'
  exact PySem.P.truthy_int ⟨H,I,q⟩
 | str y=>
  obtain⟨t,rfl⟩:=rx
  obtain⟨hy,e'⟩:y.length<=sizeLine/\k=((y.length:Int) != 0):=e
  subst e'
  exact PySem.P.truthy_str (by omega) ⟨H,I.tok _,q⟩
 | byt y=>
  obtain⟨t,rfl⟩:=rx
  obtain⟨hy,e'⟩:y.size<=sizeLine/\k=((y.size:Int) != 0):=e
  subst e'
  exact PySem.W.truthy_bytes (by omega) ⟨H,I.tok _,q⟩
 | ref p=>
  cases rx
  have e':(∃xs,SqL X.K H p xs/\k = !xs.isEmpty)\/(∃xs,SqT X.K H p xs/\k = !xs.isEmpty)\/∃kvs,H p=some (.dK kvs)/\k = !kvs.isEmpty:=e
  rcases e' with ⟨xs,hx,e'⟩ | ⟨xs,hx,e'⟩ | ⟨kvs,hx,e'⟩
  . subst e'
    obtain⟨its,r,pl,hz⟩:=I.list hx
    have hlen:=r.length
    exact wpAny_truthy_list pl.isList (by simp only[zc];omega) ⟨H,I.tok _,by rw[zER r];exact q⟩
  . subst e'
    obtain⟨its,r,pl,hz⟩:=I.tuple hx
    have hlen:=r.length
    exact truthy_tuple pl (by simp only[zc];omega) ⟨H,I.tok _,by rw[zER r];exact q⟩
  . subst e'
    obtain⟨hz,hS,vs,r,m⟩:kvs.length<=sizeLine/\(p==sysModules)=false/\∃vs,KV kvs vs/\s.heap.DictOf (zA9 X.prog X.w) p vs:=I.hok p _ hx
    have hlen:kvs.length=vs.length:=Paired.length r
    exact wpAny_truthy_dict hS m (by omega) ⟨H,I.tok _,by rw[zHc r];exact q⟩
 | _=>exact (show False from e).elim
theorem zJ7 (ha:PE X a ta)(he:∀whole,isTrue a X.env whole=(do let v <-whole;standAt a.pos;holding [v] (truthy v))) :
 PT X a (fun σ H Q=>ta σ H fun x H'=>∃k,TruV X.K x H' k/\Q k H'):=by
 intro pins s σ H Q I h
 exact isTrue_plain (thn (ha pins s σ H _ I h) fun v s1 ⟨x,H1,I1,r1,q1⟩=>tru_ok pins s1 σ H1 x v Q I1 r1 q1) (he _)
theorem zCn {x:V}{us:List Value}(r:zBJ [x] us):∃u,us=[u]/\zBT x u:=by
 cases r with
 | cons r1 r2=>cases r2;exact⟨_,rfl,r1⟩
theorem vals2 {x y:V}{us:List Value}(r:zBJ [x,y] us):∃u w',us=[u,w']/\zBT x u/\zBT y w':=by
 cases r with
 | cons r1 r2=>
  cases r2 with
  | cons r3 r4=>cases r4;exact⟨_,_,rfl,r1,r3⟩
theorem zFk (hc:X.calm=true):zCo X (.builtin "min") (fun xs H Q=>∃i j,xs=[.int i,.int j]/\Q (.int (if j<i then j else i)) H):=by
 intro pins s σ H xs us Q I r h
 obtain⟨i,j,rfl,q⟩:=h
 obtain⟨u,w',rfl,⟨t,rfl⟩,⟨t',rfl⟩⟩:=vals2 r
 refine min_two_ints (I.ok.hd hc) fun h' tk k=>⟨_,H,I.kept k,?_,q⟩
 by_cases hj:j<i
 . rw[if_pos hj,if_pos hj];exact⟨_,rfl⟩
 . rw[if_neg hj,if_neg hj];exact⟨_,rfl⟩
end
end L2
namespace L2
open PySem PySem.Spec PyProof.Rows
structure ObjM (h:Heap)(x dx C:Addr)(mA:Str->Option Value):Prop where
 obj:h.get? x=some (PySem.W.instObj C dx)
 ns:h.Ns1 dx mA
 ne:dx≠x
theorem zIf {h:Heap}{dx:Addr}{mA:Str->Option Value}(n:h.Ns1 dx mA):∃od,h.get? dx=some od/\∀name,PySem.W.lookIn name od=some (mA name):=by
 obtain⟨o,es,ep,ho,hd,hk,_,hm⟩:=n
 refine⟨o,ho,fun name=>?_⟩
 have e:=hm name
 unfold nsFind findBy at e
 rw[<-Array.find?_toList] at e
 unfold PySem.W.lookIn
 rw[hd]
 dsimp only
 split
 . rename_i y q
   rw[q] at e
   exact congrArg some e
 . rename_i q
   rw[q] at e
   have a:es.toList.any (·.refKey)=false:=by
    rw[List.any_eq_false]
    intro y hy
    obtain⟨z,t,hkey⟩:=hk y (Array.mem_toList_iff.mp hy)
    simp[DictEntry.refKey,hkey]
   have a':¬ es.toList.any (·.refKey)=true:=by rw[a];exact zm
   rw[if_neg a']
   exact congrArg some e
theorem ObjM.look {h:Heap}{x dx C:Addr}{mA:Str->Option Value}(I:ObjM h x dx C mA):∃od,PySem.W.InstAt h x (PySem.W.instObj C dx) C (some od)/\∀name,PySem.W.lookIn name od=some (mA name):=
 let ⟨od,ho,hl⟩:=zIf I.ns
 ⟨od,⟨I.obj,rfl,rfl,ho⟩,hl⟩
section
variable {prog:Program}{w:World}{A:Around}{E:Value->Shared->Prop}{s:Shared}{K:PySem.W.Frag}{x dx C f:Addr}{mA:Str->Option Value}{name:Str}{v:Value}
end
noncomputable def zHl (f:Str)(v:V):List (Str×V)->List (Str×V)
 | []=>[(f,v)]
 | (g,x)::r=>if g=f then (g,v)::r else (g,x)::zHl f v r
theorem zDk (f g:Str)(v:V):∀fs:List (Str×V),(zHl f v fs).lookup g=if g=f then some v else fs.lookup g
 | []=>by
  show List.lookup g [(f,v)]=_
  by_cases h:g=f
  . have hb:(g==f)=true:=beq_iff_eq.mpr h
    simp only[List.lookup,hb,if_pos h]
  . have hb:(g==f)=false:=beq_eq_false_iff_ne.mpr h
    simp only[List.lookup,hb,if_neg h]
 | (k,x)::r=>by
  have ih:=zDk f g v r
  rw[show zHl f v ((k,x)::r)=(if k=f then (k,v)::r else (k,x)::zHl f v r) from rfl]
  by_cases hk:k=f
  . rw[if_pos hk]
    by_cases h:g=k
    . have hb:(g==k)=true:=beq_iff_eq.mpr h
      simp only[List.lookup,hb,if_pos (h.trans hk)]
    . have hb:(g==k)=false:=beq_eq_false_iff_ne.mpr h
      simp only[List.lookup,hb,if_neg (fun e:g=f=>h (e.trans hk.symm))]
  . rw[if_neg hk]
    by_cases h:g=k
    . have hb:(g==k)=true:=beq_iff_eq.mpr h
      simp only[List.lookup,hb,if_neg (fun e:g=f=>hk (h.symm.trans e))]
    . have hb:(g==k)=false:=beq_eq_false_iff_ne.mpr h
      simp only[List.lookup,hb]
      exact ih
theorem zDp (f:Str)(v:V):∀fs:List (Str×V),f∈(zHl f v fs).map (·.1)/\∀g,g∈fs.map (·.1)->g∈(zHl f v fs).map (·.1)
 | []=>⟨by simp[zHl],fun g h=>by simp at h⟩
 | (k,x)::r=>by
  obtain⟨i1,i2⟩:=zDp f v r
  rw[show zHl f v ((k,x)::r)=(if k=f then (k,v)::r else (k,x)::zHl f v r) from rfl]
  by_cases hk:k=f
  . rw[if_pos hk]
    subst hk
    exact⟨by simp,fun g h=>by simpa using h⟩
  . rw[if_neg hk]
    refine⟨?_,fun g h=>?_⟩
    . rw[zz]
      exact zb _ i1
    . rw[zz] at h ⊢
      rcases ze.mp h with e | e
      . exact ze.mpr (.inl e)
      . exact zb _ (i2 g e)
theorem zEy.some_of {v:V}{o:Option Value}(r:zEy (some v) o):∃u,o=some u/\zBT v u:=by
 cases o with
 | none=>exact (show False from r).elim
 | some u=>exact⟨u,rfl,r⟩
section
variable {P:Program}{w:World}{H H':Hp}{h h':Heap}{a C dx:Addr}{fs fs':List (Str×V)}
theorem zMO (hok:HOk P w H h)(e:H a=some (.ins C dx fs)):∃mA,ObjM h a dx C mA/\(∀f,zEy (fs.lookup f) (mA f))/\PySem.Within mA (fs.map (·.1))/\fs.length<=1000/\H dx=some (.own a):=by
 obtain⟨d,z,ne,ob,mA,n,r,q⟩:=(show zBM P w H h a (.ins C dx fs) from hok a _ e)
 exact⟨mA,⟨ob,n,ne⟩,r,q,z,d⟩
end
structure Cls (K:PySem.W.Frag)(C:Addr):Prop where
 pg:PySem.W.plainGet K C Str.empty=true
 hd:PySem.W.hasDictIn K C=true
 po:PySem.W.plainOver K C=true
 sa:PySem.W.findIn K (.ref C) "__setattr__" = some (some (.builtin "object.__setattr__"))
theorem Cls.get {K:PySem.W.Frag}{C:Addr}(c:Cls K C)(f:Str):PySem.W.plainGet K C f=true:=c.pg
section
variable {X:Cx}{pins:List (Addr×Obj)}{σ:St}{H:Hp}{s:Shared}{a C dx:Addr}{fs:List (Str×V)}{f:Str}{v:V}{A:Around}{E:Value->Shared->Prop}
end
section
variable {X:Cx}{o e value:Expr}{f:Str}{pos pos' tpos:Pos}{ta tv:TE}
end
section
variable {X:Cx}{pins:List (Addr×Obj)}{σ:St}{H:Hp}{s:Shared}{A:Around}{E:Value->Shared->Prop}{Q:Value->Shared->Prop}{c:Value}{b:Bool}
inductive zHi (K:PySem.W.Frag)(H:Hp):V->Value->Prop where
 | non:zHi K H .non (.type "NoneType")
 | bl (x:Bool):zHi K H (.bl x) (.type "bool")
 | int (i:Int):zHi K H (.int i) (.type "int")
 | str (x:Str):zHi K H (.str x) (.type "str")
 | flt (x:UInt64):zHi K H (.flt x) (.type "float")
 | lst {a:Addr}{xs:List V}(e:H a=some (.lst xs)):zHi K H (.ref a) (.type "list")
 | frz {a:Addr}{o:Obj}{xs:List V}(e:H a=some (.frz o (.lst xs))):zHi K H (.ref a) (.type "list")
 | tup {a:Addr}{xs:List V}(e:H a=some (.tup xs)):zHi K H (.ref a) (.type "tuple")
 | dK {a:Addr}{kvs:List (Key×V)}(e:H a=some (.dK kvs)):zHi K H (.ref a) (.type "dict")
 | dT {a:Addr}{kvs:List (List Key×V)}(e:H a=some (.dT kvs)):zHi K H (.ref a) (.type "dict")
 | ins {a C dx:Addr}{fs:List (Str×V)}(e:H a=some (.ins C dx fs))(cl:Cls K C)(ha:PySem.W.findIn K (.ref C) "__class__" = some (some (.builtin "object.__class__")))
  (hn:PySem.W.specialIn K (.builtin "object.__class__") "__get__" = some (some (.builtin "getset_descriptor.__get__"))) (htk:PySem.W.takesIn K (.builtin "object.__class__")=some true)
  (hm:PySem.W.mroIn K C (.type "object")=some true):zHi K H (.ref a) (.ref C)
theorem zIn {x:V}{u t:Value}(I:Inv X pins σ H s)(rx:zBT x u)(ty:zHi X.K H x t)(e:PySem.W.kitOne X.K t c=some b)(h:∀tk,Q (.bool b) { s with toks:=tk }) :
 wpAny (model X.prog X.w) A (call (.builtin "isinstance") [u,c]) Q E s:=by
 cases ty with
 | non=>cases (show u=Value.none from rx);exact PySem.W.kia_one PySem.W.kitx_none I.kIn True.intro e (fun z=>nomatch z) h
 | bl y=>cases (show u=Value.bool y from rx);exact PySem.W.kia_one PySem.W.kitx_bool I.kIn True.intro e (fun z=>nomatch z) h
 | int i=>obtain⟨t,q⟩:=(show ∃t,u=Value.int i t from rx);cases q;exact PySem.W.kia_one PySem.W.kitx_int I.kIn True.intro e (fun z=>nomatch z) h
 | str y=>obtain⟨t,q⟩:=(show ∃t,u=Value.str y t from rx);cases q;exact PySem.W.kia_one PySem.W.kitx_str I.kIn True.intro e (fun z=>nomatch z) h
 | flt y=>obtain⟨t,q⟩:=(show ∃t,u=Value.float y t from rx);cases q;exact PySem.W.kia_one PySem.W.kitx_float I.kIn True.intro e (fun z=>nomatch z) h
 | @lst a xs ea=>
  cases (show u=Value.ref a from rx)
  obtain⟨_,_,n,_,h1⟩:=(show zBM X.prog X.w H s.heap a (.lst xs) from I.hok a _ ea)
  exact PySem.W.kia_one PySem.W.kitx_list I.kIn ⟨_,h1,rfl⟩ e (fun z=>nomatch z) h
 | @frz a ob xs ea=>
  cases (show u=Value.ref a from rx)
  obtain⟨_,_,_,n,_,h1⟩:=(show zBM X.prog X.w H s.heap a (.frz ob (.lst xs)) from I.hok a _ ea)
  exact PySem.W.kia_one PySem.W.kitx_list I.kIn ⟨_,h1,rfl⟩ e (fun z=>nomatch z) h
 | @tup a xs ea=>
  cases (show u=Value.ref a from rx)
  obtain⟨_,_,_,p⟩:=(show zBM X.prog X.w H s.heap a (.tup xs) from I.hok a _ ea)
  obtain⟨o,h1,h2,_⟩:=p
  exact PySem.W.kia_one PySem.W.kitx_tuple I.kIn ⟨o,h1,h2⟩ e (fun z=>nomatch z) h
 | @dK a kvs ea=>
  cases (show u=Value.ref a from rx)
  obtain⟨_,_,vs,_,p⟩:=(show zBM X.prog X.w H s.heap a (.dK kvs) from I.hok a _ ea)
  obtain⟨o,es,ep,h1,h2,_⟩:=p
  exact PySem.W.kia_one PySem.W.kitx_dict I.kIn ⟨o,h1,h2.1⟩ e (fun z=>nomatch z) h
 | @dT a kvs ea=>
  cases (show u=Value.ref a from rx)
  obtain⟨_,_,xs,_,o,es,ep,h1,h2,_⟩:=(show zBM X.prog X.w H s.heap a (.dT kvs) from I.hok a _ ea)
  exact PySem.W.kia_one PySem.W.kitx_dict I.kIn ⟨o,h1,h2.1⟩ e (fun z=>nomatch z) h
 | @ins a C dx fs ea cl ha hn htk hm=>
  cases (show u=Value.ref a from rx)
  obtain⟨mA,O,_⟩:=zMO I.hok ea
  obtain⟨od,J,_⟩:=O.look
  exact PySem.W.kia_one (PySem.W.kitx_own (cl.get _) cl.hd ha hn htk hm) I.kIn J e (fun z=>nomatch z) h
end
end L2
namespace L2
open PySem PySem.Spec PyProof.Rows
structure zCq (k:Nat)(A:Around):Prop where
 hd:A.handled=none
 dp:A.depth+3*k+5<recursionLimit
 un:A.units+16*k+200<cLine
 gd:A.guards=some []
theorem zCq.mono {j k:Nat}{A:Around}(r:zCq k A)(h:j<=k):zCq j A:=⟨r.hd,by have:=r.dp;omega,by have:=r.un;omega,r.gd⟩
theorem zCq.deeper {k:Nat}{A:Around}(r:zCq (k+1) A)(env:Env):zCq k (A.deeper env):=
 ⟨r.hd,by have:=r.dp;show A.depth+1+3*k+5<_;omega,by have:=r.un;show A.units+3+16*k+200<_;omega,r.gd⟩
theorem zCq.in1 {k:Nat}{A:Around}(r:zCq (k+1) A):zCq k A.in1:=
 ⟨r.hd,by have:=r.dp;show A.depth+3*k+5<_;omega,by have:=r.un;show A.units+1+16*k+200<_;omega,r.gd⟩
theorem zHW {A:Around}{C:Addr}{us:List Value}{kw:List (Str×Value)}:(A.under (.builtin "type.__call__" ⟨.ref C::us,kw⟩)).depth=A.depth+1:=by
 first | rfl | simp[Around.under,Code.weight,Code.isCreation,Code.isGuard,Code.isCaller,Code.frames,Code.isFrame,guardIds]
theorem zHV {A:Around}{C:Addr}{us:List Value}{kw:List (Str×Value)}:(A.under (.builtin "type.__call__" ⟨.ref C::us,kw⟩)).units=A.units+1:=by
 first | rfl | simp[Around.under,Code.cUnits,Code.frames,Code.isFrame]
theorem zCq.make {k:Nat}{A:Around}(r:zCq (k+1) A)(C:Addr)(us:List Value)(kw:List (Str×Value)):zCq k (A.under (.builtin "type.__call__" ⟨.ref C::us,kw⟩)):=
 ⟨r.hd,by have:=r.dp;rw[zHW];omega,by have:=r.un;rw[zHV];omega,by first | exact r.gd | (simp[Around.under,Code.guards,Code.isGuard,guardIds,pushGuards];exact r.gd)⟩
theorem zCq.depth {k:Nat}{A:Around}(r:zCq k A):A.depth<recursionLimit:=by have:=r.dp;omega
theorem zCq.units {k:Nat}{A:Around}(r:zCq k A):A.units+64<cLine:=by have:=r.un;omega
noncomputable def tNil:TA:=fun _ H Q=>Q [] H
noncomputable def zLK (ta:TE)(tr:TA):TA:=fun σ H Q=>ta σ H fun x H1=>tr σ H1 fun xs H2=>Q (x::xs) H2
section
variable {X:Cx}{e:Expr}{es:List Expr}{te:TE}{t:TA}{pos:Pos}
theorem zO:PA X [] tNil:=fun _ _ _ _ H Q I h=>Calls.spliced_nil ⟨[],H,I,.nil,h⟩
theorem zE (ha:PE X e te)(hr:PA X es t)(hs:starEach (e::es) X.env=(false,eval e X.env)::starEach es X.env:=by rfl):PA X (e::es) (zLK te t):=by
 intro pos pins s σ H Q I h
 rw[hs]
 show wpAny _ _ (spliced ((false,eval e X.env)::backTo pos (starEach es X.env))) _ _ s
 refine Calls.spliced_cons (thn (ha pins s σ H _ I h) fun u s1 ⟨x,H1,I1,r1,q1⟩=>?_)
 exact thn (hr pos pins s1 σ H1 _ I1 q1) fun us s2 ⟨xs,H2,I2,r2,q2⟩=>⟨x::xs,H2,I2,.cons r1 r2,q2⟩
noncomputable def tTup (t:TA):TE:=fun σ H Q=>t σ H fun xs H1=>xs.length<=sizeLine/\∀p,H1 p=none->Q (.ref p) (upd H1 p (.tup xs))
noncomputable def tLst (t:TA):TE:=fun σ H Q=>t σ H fun xs H1=>xs.length<=sizeLine/\∀p,H1 p=none->Q (.ref p) (upd H1 p (.lst xs))
theorem zB8 {x1} (h:PA X es t):PE X (.Tuple es x1 pos) (tTup t):=by
 intro pins s σ H Q I hq
 refine wpAny_Tuple_spliced (thn (h pos pins s σ H _ I hq) fun us s1 ⟨xs,H1,I1,r,z,q⟩=>⟨by rw[<-r.length];exact z,?_⟩)
 have hf:H1 s1.heap.objs.size=none:=I1.hok.fresh (zI _)
 refine⟨.ref s1.heap.objs.size,upd H1 s1.heap.objs.size (.tup xs),I1.laid (t':=s1.toks) (fun b u e=>zF _ e) (zI _) ?_,rfl,q _ hf⟩
 exact⟨⟨z,_,zQ _ rfl,rfl⟩,us,r,⟨_,zQ _ rfl,rfl,_,rfl⟩⟩
theorem zB9 (h:PA X es t):PE X (.List es pos) (tLst t):=by
 intro pins s σ H Q I hq
 refine wpAny_List_spliced (thn (h pos pins s σ H _ I hq) fun us s1 ⟨xs,H1,I1,r,z,q⟩=>⟨by rw[<-r.length];exact z,?_⟩)
 have hf:H1 s1.heap.objs.size=none:=I1.hok.fresh (zI _)
 refine⟨.ref s1.heap.objs.size,upd H1 s1.heap.objs.size (.lst xs),I1.laid (t':=s1.toks) (fun b u e=>zF _ e) (zI _) ?_,rfl,q _ hf⟩
 exact⟨z,us,0,r,zQ _ rfl⟩
end
noncomputable abbrev Sp:=List V->Hp->VK->XK->Prop
noncomputable abbrev CXT:=List Env->Hp->Shared->XK->Value->Shared->Prop
structure zMe (P:Program)(w:World)(K:PySem.W.Frag)(mg:Str->Option Value)(base:Heap)(A:Around)(outer:List Env)(s:Shared)(H:Hp):Prop where
 frames:A.frames=some outer
 mod:Mod K mg base
 bs:∀b o,base.get? b=some o->s.heap.get? b=some o/\H b=none
 bsz:base.objs.size<=s.heap.objs.size
 funs:s.heap.FunFrames base outer
 frf:∀b∈frs outer,H b=none
 hok:HOk P w H s.heap
 bare:AllBare s.gens
noncomputable def CE (outer:List Env)(P:Program)(w:World)(H:Hp)(s:Shared)(Q:VK)(u:Value)(s':Shared):Prop:=
 ∃v H',s'.os=s.os/\AllBare s'.gens/\Un (frs outer) [] H H' s.heap s'.heap/\HOk P w H' s'.heap/\zBT v u/\Q v H'
noncomputable def CR (CX:CXT)(outer:List Env)(P:Program)(w:World)(H:Hp)(s:Shared)(Q:VK)(E:XK)(r:Result)(s':Shared):Prop:=
 match r with
 | .ok (.ret u)=>CE outer P w H s Q u s'
 | .ok _=>False
 | .error e=>CX outer H s E e s'
structure zAb (P:Program)(w:World)(K:PySem.W.Frag)(mg:Str->Option Value)(base:Heap)(CX:CXT)(k:Nat)(f:Addr)(fd:FuncData)(ps:List Str)(sp:Sp):Prop where
 len:∀vs H Q E,sp vs H Q E->vs.length=ps.length
 run:∀(A:Around)(outer:List Env)(s:Shared)(H:Hp)(args:Args)(us:List Value)(vs:List V)(Q:VK)(E:XK),zCq k A->zMe P w K mg base A outer s H->BindsTo s fd args (ps.zip us)->zBJ vs us->sp vs H Q E ->
  codeAny (model P w) A (.call (.ref f) args) (CR CX outer P w H s Q E) s
theorem zAb.mono {P:Program}{w:World}{K:PySem.W.Frag}{mg:Str->Option Value}{base:Heap}{CX:CXT}{j k:Nat}{f:Addr}{fd:FuncData}{ps:List Str}{sp:Sp}(F:zAb P w K mg base CX j f fd ps sp)(h:j<=k) :
 zAb P w K mg base CX k f fd ps sp:=⟨F.len,fun A outer s H args us vs Q E hr=>F.run A outer s H args us vs Q E (hr.mono h)⟩
theorem zAb.imp {P:Program}{w:World}{K:PySem.W.Frag}{mg:Str->Option Value}{base:Heap}{CX:CXT}{k:Nat}{f:Addr}{fd:FuncData}{ps:List Str}{sp sp':Sp}(F:zAb P w K mg base CX k f fd ps sp)
 (h:∀vs H Q E,sp' vs H Q E->sp vs H Q E):zAb P w K mg base CX k f fd ps sp':=
 ⟨fun vs H Q E q=>F.len vs H Q E (h _ _ _ _ q),fun A outer s H args us vs Q E hr he hb hv hs=>F.run A outer s H args us vs Q E hr he hb hv (h _ _ _ _ hs)⟩
theorem zMe.make {P:Program}{w:World}{K:PySem.W.Frag}{mg:Str->Option Value}{base:Heap}{A:Around}{outer:List Env}{s:Shared}{H:Hp}(e:zMe P w K mg base A outer s H)(C:Addr)(us:List Value)(kw:List (Str×Value)) :
 zMe P w K mg base (A.under (.builtin "type.__call__" ⟨.ref C::us,kw⟩)) outer s H:=⟨by first | exact e.frames | (simpa [Around.under,Code.envs,Code.isFrame,pushEnvs] using e.frames),e.mod,e.bs,e.bsz,e.funs,e.frf,e.hok,e.bare⟩
section
variable {X:Cx}{pins:List (Addr×Obj)}{σ:St}{H:Hp}{s s':Shared}
theorem Inv.env0 (I:Inv X pins σ H s):zMe X.prog X.w X.K X.mg X.base X.A X.stack s H:=
 ⟨I.ok.frames,I.ok.mod,I.bs,zAE I.ok.bsz I.sz,I.stack,I.stkFree,I.hok,I.bare⟩
theorem Inv.after {Q:VK}{u:Value}(I:Inv X pins σ H s)(h:CE X.stack X.prog X.w H s Q u s'):EP X pins σ Q u s':=by
 obtain⟨v,H',os,bare,un,hok,r,q⟩:=h
 obtain⟨hh,g,d,t,os'⟩:=s'
 obtain rfl:os'=s.os:=os
 exact⟨v,H',I.call (h':=hh) (g':=g) (d':=d) (t':=t) (ch:=[]) un hok bare (fun b z=>absurd z (by simp)),r,q⟩
end
noncomputable def tCall (sp:Sp)(dvs:List V)(E:XK)(t:TA):TE:=fun σ H Q=>t σ H fun vs H1=>sp (vs++dvs) H1 Q E
noncomputable def zAA (K:PySem.W.Frag)(fd:FuncData)(ps:List Str)(ds:List Value):Prop:=
 ∀(s:Shared)(us:List Value),K.In s.heap->(us++ds).length=ps.length->BindsTo s fd ⟨us,[]⟩ (ps.zip (us++ds))
theorem zAA.all {K:PySem.W.Frag}{fd:FuncData}{ps:List Str}(h:∀us:List Value,us.length=ps.length->bindArgs fd ⟨us,[]⟩=pure (ps.zip us)):zAA K fd ps []:=fun s us _ hl=>by
 rw[zo] at hl ⊢
 exact .of_eq (h us hl)
noncomputable def zJU (CX:CXT)(X:Cx)(E:XK):Prop:=∀(pins:List (Addr×Obj))(σ:St)(H:Hp)(s:Shared)(e:Value)(s':Shared),Inv X pins σ H s->CX X.stack H s E e s'->X.xe e s'
section
variable {X:Cx}{CX:CXT}{k:Nat}{f C:Addr}{fd:FuncData}{ps:List Str}{sp:Sp}{dvs:List V}{ds:List Value}{E:XK}{x m:Str}{p pos apos:Pos}{e o:Expr}{es:List Expr}{ta:TE}{t:TA}
theorem run_fn {pins:List (Addr×Obj)}{σ:St}{H:Hp}{s:Shared}{Q:VK}{us:List Value}{vs:List V}(F:zAb X.prog X.w X.K X.mg X.base CX k f fd ps sp)(hr:zCq k X.A)(hb:zAA X.K fd ps ds)(hd:zBJ dvs ds)(hx:zJU CX X E)
 (I:Inv X pins σ H s)(r:zBJ vs us)(h:sp (vs++dvs) H Q E):wpAny (model X.prog X.w) X.A (call (.ref f) us) (EP X pins σ Q) X.xe s:=by
 have r2:zBJ (vs++dvs) (us++ds):=r.append hd
 have hl:(us++ds).length=ps.length:=by rw[<-r2.length];exact F.len _ _ _ _ h
 refine zBg (codeAny_mono (F.run X.A X.stack s H ⟨us,[]⟩ (us++ds) (vs++dvs) Q E hr I.env0 (hb s us I.kIn hl) r2 h) fun r s' hq=>?_)
 cases r with
 | error e=>exact hx pins σ H s e s' I hq
 | ok fl=>
  cases fl with
  | ret u=>exact I.after hq
  | next=>exact False.elim hq
  | brk=>exact False.elim hq
  | cont=>exact False.elim hq
theorem zn (F:zAb X.prog X.w X.K X.mg X.base CX k f fd ps sp)(hr:zCq k X.A)(hg:Gl X x)(hm:X.mg x=some (.ref f))(hk:PySem.W.keepIn X.K (.ref f)=true)(hb:zAA X.K fd ps ds)(hd:zBJ dvs ds)(hx:zJU CX X E)
 (ha:PA X (e::es) t)(hdb:(x==("__debug__" : Str))=false:=by decide) (he:starEach (e::es) X.env=(false,eval e X.env)::starEach es X.env:=by rfl)(hpl:(backTo pos (starEach es X.env)).any (·.1)=false:=by rfl) :
 PE X (.Call (.Name x p) (e::es) [] pos) (tCall sp dvs E t):=by
 intro pins s σ H Q I h
 refine zA2 (zDn I hg hm ?_ hdb)
 refine PySem.W.callWith_K (h₀:=X.base) I.ok.mod.kin hk (thn (ha pos pins s σ H _ I h) fun us s1 ⟨vs,H1,I1,r,q⟩=>⟨I1.kIn,?_⟩) he hpl
 exact run_fn F hr hb hd hx I1 r q
end
section
variable {X:Cx}{CX:CXT}{k:Nat}{f C:Addr}{fd:FuncData}{ps ks:List Str}{sp:Sp}{E:XK}{x m:Str}{p pos apos kpos:Pos}{e o:Expr}{es:List Expr}{kws:List Keyword}{te ta:TE}{t tk:TA}{nm:Option Str}
variable {g:List Value->List Value->List Value}{gV:List V->List V->List V}
end
structure zAB (N P:List Str)(sc:Scope):Prop where
 kind:sc.kind = .function
 co:sc.isCoroutine=false
 gen:sc.isGenerator=false
 nd:N.Nodup
 pre:N.take P.length=P
 par:∀x∈P,sc.names.lookup x=some .local\/sc.names.lookup x=some .cell
 nofree:∀y∈sc.names,y.2 ≠ .free
theorem zFm {kindOf:Str->Option NameKind}{x:Str}:∀{binds:List (Str×Value)}{m:Str->Option Value},(∀v,(x,v)∉binds)->bindL kindOf binds m x=m x
 | [],_,_=>rfl
 | (n,v)::r,m,h=>by
  unfold bindL
  rw[zFm fun w hw=>h w (zb _ hw)]
  split
  . have:x≠n:=by rintro rfl;exact h v zd
    simp[this]
  . rfl
theorem zFo {kindOf:Str->Option NameKind}{x:Str}:∀{binds:List (Str×Value)}{m:Str->Option Value},(∀v,(x,v)∉binds)->bindC kindOf binds m x=m x
 | [],_,_=>rfl
 | (n,v)::r,m,h=>by
  unfold bindC
  rw[zFo fun w hw=>h w (zb _ hw)]
  split
  . rfl
  . have:x≠n:=by rintro rfl;exact h v zd
    simp[this]
theorem zFn {kindOf:Str->Option NameKind}{x:Str}{v:Value}:∀{P:List Str}{vs:List Value}{i:Nat}{m:Str->Option Value},P.Nodup->P[i]? = some x->vs[i]? = some v->kindOf x=some .local ->
 bindL kindOf (P.zip vs) m x=some v
 | [],_,_,_,_,h,_,_=>by simp at h
 | _::_,[],_,_,_,_,h,_=>by simp at h
 | p::P,w::vs,0,m,nd,h1,h2,hk=>by
  simp at h1 h2;subst h1;subst h2
  show bindL kindOf ((p,w)::P.zip vs) m p=_
  unfold bindL
  rw[zFm fun v hv=>(zAN.mp nd).1 (List.of_mem_zip hv).1,if_pos hk]
  simp
 | p::P,w::vs,i+1,m,nd,h1,h2,hk=>by
  show bindL kindOf ((p,w)::P.zip vs) m x=_
  unfold bindL
  exact zFn (i:=i) (zAN.mp nd).2 (by simpa using h1) (by simpa using h2) hk
theorem zFp {kindOf:Str->Option NameKind}{x:Str}{v:Value}:∀{P:List Str}{vs:List Value}{i:Nat}{m:Str->Option Value},P.Nodup->P[i]? = some x->vs[i]? = some v->kindOf x≠some .local ->
 bindC kindOf (P.zip vs) m x=some v
 | [],_,_,_,_,h,_,_=>by simp at h
 | _::_,[],_,_,_,_,h,_=>by simp at h
 | p::P,w::vs,0,m,nd,h1,h2,hk=>by
  simp at h1 h2;subst h1;subst h2
  show bindC kindOf ((p,w)::P.zip vs) m p=_
  unfold bindC
  rw[zFo fun v hv=>(zAN.mp nd).1 (List.of_mem_zip hv).1,if_neg hk]
  simp
 | p::P,w::vs,i+1,m,nd,h1,h2,hk=>by
  show bindC kindOf ((p,w)::P.zip vs) m x=_
  unfold bindC
  exact zFp (i:=i) (zAN.mp nd).2 (by simpa using h1) (by simpa using h2) hk
noncomputable def start (N:List Str)(vs:List V):St:=vs.map some++List.replicate (N.length-vs.length) none
noncomputable def zJb (CX:CXT)(P:Program)(w:World)(K:PySem.W.Frag)(mg:Str->Option Value)(base:Heap)(N:List Str)(qual:Str)(scope:Scope)(f:Addr)(cd:Value)(A:Around)(outer:List Env)(s:Shared)(H:Hp)(E:XK):Cx where
 prog:=P
 w:=w
 K:=K
 mg:=mg
 base:=base
 A:=A.deeper (envOfC qual scope s.heap.objs.size f cd)
 N:=N
 s₀:=s
 H₀:=H
 env:=envOfC qual scope s.heap.objs.size f cd
 outer:=outer
 stack:=envOfC qual scope s.heap.objs.size f cd::outer
 ex:=[]
 calm:=true
 fn:=fun _=>true
 pn:=[]
 xe:=fun e s'=>wpAny (model P w) (A.deeper (envOfC qual scope s.heap.objs.size f cd)) (leaving (envOfC qual scope s.heap.objs.size f cd) e) (fun _ s''=>CX outer H s E e s'') (fun e' s''=>CX outer H s E e' s'') s'
theorem zGz {sc:Scope}{n:Nat}{x:Str}(h:sc.names.lookup x=some .cell):∃c,(cellsFrom n sc.names []).lookup x=some c:=by
 have q:=PySem.W.cellsFrom_some sc.names n [] (.inl h)
 exact Option.isSome_iff_exists.mp q
theorem zIo {CX:CXT}{P:Program}{w:World}{K:PySem.W.Frag}{mg:Str->Option Value}{base:Heap}{N ps:List Str}{qual:Str}{scope:Scope}{f:Addr}{cd:Value}{A:Around}{outer:List Env}{s s1:Shared}{H:Hp}{E:XK}{us:List Value}{vs:List V}
 (S:zAB N ps scope)(hd:A.handled=none)(e0:zMe P w K mg base A outer s H)(hl:vs.length=ps.length)(r:zBJ vs us)
 (x:InCallC s s.heap.objs.size (bindL (envOfC qual scope s.heap.objs.size f cd).kindOf (ps.zip us) fun _=>none) (cellsFrom (s.heap.objs.size+1) scope.names []) (bindC (envOfC qual scope s.heap.objs.size f cd).kindOf (ps.zip us) fun _=>none) s1) :
 Inv (zJb CX P w K mg base N qual scope f cd A outer s H E) [] (start N vs) H s1:=by
 have hpl:ps.length<=N.length:=by have:=congrArg List.length S.pre;rw[zr] at this;omega
 obtain⟨h1,tk,rfl,hk⟩:=x.done
 have noA:∀b:Addr,b∉(zJb CX P w K mg base N qual scope f cd A outer s H E).ex:=fun b z=>absurd (show b∈([]:List Addr) from z) (by simp)
 refine⟨⟨e0.mod,S.kind,rfl,rfl,zI _,fun y z c h1 h2=>?_,fun y hy=>?_,fun y c _ h=>?_,fun _=>hd,Around.frames_deeper e0.frames,.inr ⟨rfl,rfl⟩,fun b z=>absurd z (noA b),e0.bs,e0.bsz,fun b _ _=>noA b,fun b z=>absurd z (noA b),e0.funs,e0.frf⟩,
  rfl,e0.bare,Un.kept hk,⟨_,x.toInCall.ns,fun i y v h1 h2 h3=>?_⟩,fun y c h=>⟨_,x.cell y c h⟩,e0.hok.fresh (zI _),fun y c h=>?_,fun p hp=>absurd (show p∈([]:List (Addr×Obj)) from hp) (by simp),e0.hok.kept hk,?_⟩
 . exact name_of_addr x.apart (PySem.mem_of_lookup h1) (PySem.mem_of_lookup h2)
 . have hy:scope.names.lookup y=some .cell\/scope.names.lookup y=some .free:=hy
   rcases hy with hy | hy
   . exact zGz hy
   . exact absurd rfl (S.nofree _ (PySem.mem_of_lookup hy))
 . exact zBo (x.above y c (PySem.mem_of_lookup h))
 . have hi:i<vs.length:=by
    unfold start at h2
    by_cases hi:i<vs.length
    . exact hi
    . rw[zR (by simpa using hi)] at h2
      rw[zA5] at h2
      split at h2 <;> cases h2
   have ha:vs[i]? = some v:=by
    unfold start at h2
    rw[zW (by simpa using hi),zJ] at h2
    cases e:vs[i]? with
    | none=>rw[e] at h2;cases h2
    | some a=>rw[e] at h2;cases h2;rfl
   obtain⟨u,hu,rv⟩:=r.get ha
   have hp:ps[i]? = some y:=by
    rw[<-S.pre,List.getElem?_take_of_lt (by omega)];exact h1
   have ndP:ps.Nodup:=by rw[<-S.pre];exact S.nd.sublist (List.take_sublist _ _)
   refine⟨u,rv,?_⟩
   rcases S.par y (zS hp) with k | k
   . exact .inl ⟨k,zFn ndP hp hu k⟩
   . obtain⟨c,e⟩:=zGz (n:=s.heap.objs.size+1) k
     refine .inr ⟨.inl k,c,e,?_⟩
     have q:=x.cell y c e
     rw[zFp ndP hp hu (by show scope.names.lookup y≠_;rw[k];decide)] at q
     exact q
 . exact e0.hok.fresh (zBo (x.above y c (PySem.mem_of_lookup h)))
 . unfold start
   show _=N.length
   rw[zM,zB,zAH]
   omega
theorem zMU {CX:CXT}{P:Program}{w:World}{K:PySem.W.Frag}{mg:Str->Option Value}{base:Heap}{k:Nat}{f:Addr}{name qual:Str}{params:Arguments}{body:List Stmt}{scope:Scope}{dV kV doc pm cdv ct oc:Value}{an od:Option Addr}
 {osl:Array (Option Value)}{N ps:List Str}{sp:Sp}(lk:K.lookup f=some ⟨oc,od,.func (PySem.W.fnOf name qual params body scope dV kV doc pm an cdv ct),osl⟩)(hcd:PySem.W.codeIn K cdv qual=true)(S:zAB N ps scope)
 (len:∀vs H Q E,sp vs H Q E->vs.length=ps.length)
 (hbody:∀(A:Around)(outer:List Env)(s:Shared)(H:Hp)(vs:List V)(Q:VK)(E:XK),zCq k (A.deeper (envOfC qual scope s.heap.objs.size f cdv))->sp vs H Q E ->
  ∃t,PSs (zJb CX P w K mg base N qual scope f cdv A outer s H E) body t/\t { nx:=fun _ H'=>Q .non H',rt:=Q } (start N vs) H) :
 zAb P w K mg base CX (k+1) f (PySem.W.fnOf name qual params body scope dV kV doc pm an cdv ct) ps sp:=by
 refine⟨len,fun A outer s H args us vs Q E hr e0 hb r hsp=>?_⟩
 have hl:=len _ _ _ _ hsp
 have KX:K.In s.heap:=e0.mod.kin.keeps fun b o e=>(e0.bs b o e).1
 have lim:s.heap.NoLimit:=e0.mod.nolimit.keeps fun b o e=>(e0.bs b o e).1
 have hkind:∀y∈ps.zip us,scope.names.lookup y.1=some .local\/(scope.names.lookup y.1=some .cell/\((cellsFrom (s.heap.objs.size+1) scope.names []).lookup y.1).isSome=true):=fun ⟨n,v⟩ hy=>by
  rcases S.par n (List.of_mem_zip hy).1 with q | q
  . exact .inl q
  . exact .inr ⟨q,PySem.W.cellsFrom_some _ _ _ (.inl q)⟩
 refine codeAny_call_function hr.depth (KX _ _ lk) rfl S.co S.gen rfl (PySem.W.codeRec_of KX hcd) (hb _ _ _ _ ?_)
 refine wpAny_newFunctionEnv_cells S.kind hkind fun env he s1 x=>?_
 subst he
 refine⟨lim.keeps x.toInCall.keep,codeAny_func ?_⟩
 obtain⟨t,ht,hq⟩:=hbody A outer s H vs Q E (hr.deeper _) hsp
 have I:Inv (zJb CX P w K mg base N qual scope f cdv A outer s H E) [] (start N vs) H s1:=zIo S hr.hd e0 hl r x
 refine zAJ (ht [] s1 (start N vs) H _ I hq) (fun fl s' hs=>?_) fun e s' hs=>hs
 have fin:∀{σ':St}{H':Hp}{v:V}{u:Value},Inv (zJb CX P w K mg base N qual scope f cdv A outer s H E) [] σ' H' s'->zBT v u->Q v H'->CE outer P w H s Q u s':=
  fun {σ' H' v u} J rv q=>⟨v,H',J.os,J.bare,J.base,J.hok,rv,q⟩
 cases fl with
 | ret u=>
  obtain⟨v,σ',H',J,rv,q⟩:=hs
  exact fin J rv q
 | next=>
  obtain⟨σ',H',J,q⟩:=hs
  exact fin (v:=V.non) (u:=Value.none) J rfl q
 | brk=>
  obtain⟨_,_,_,q⟩:=hs
  exact False.elim q
 | cont=>
  obtain⟨_,_,_,q⟩:=hs
  exact False.elim q
end L2
namespace L2
open PySem PySem.Spec PyProof.Rows
section
variable {X:Cx}{x:Str}{p pos:Pos}{e:Expr}{es:List Expr}{t:TA}{id T:String}{r:List V->Hp->VK->Prop}
noncomputable def tCB (r:List V->Hp->VK->Prop)(t:TA):TE:=fun σ H Q=>t σ H fun vs H1=>r vs H1 Q
theorem zAL (hc:zCo X (.builtin id) r)(hg:Gl X x)(hm:X.mg x=none)(hv:bootBuiltins x=some (.builtin id))(ha:PA X (e::es) t)(hn:x ≠ "__name__" := by decide) (hdb:(x==("__debug__" : Str))=false:=by decide)
 (he:starEach (e::es) X.env=(false,eval e X.env)::starEach es X.env:=by rfl)(hpl:(backTo pos (starEach es X.env)).any (·.1)=false:=by rfl):PE X (.Call (.Name x p) (e::es) [] pos) (tCB r t):=by
 intro pins s σ H Q I h
 refine zA2 (zCa I hg hm hv ?_ hn hdb)
 exact PyProof.Rows.callWith_builtin1 (thn (ha pos pins s σ H _ I h) fun us s1 ⟨vs,H1,I1,r1,q1⟩=>hc pins s1 σ H1 vs us Q I1 r1 q1) he hpl
theorem zBD (hc:zCo X (.type T) r)(hg:Gl X x)(hm:X.mg x=none)(hv:bootBuiltins x=some (.type T))(ha:PA X (e::es) t)(hn:x ≠ "__name__" := by decide) (hdb:(x==("__debug__" : Str))=false:=by decide)
 (he:starEach (e::es) X.env=(false,eval e X.env)::starEach es X.env:=by rfl)(hpl:(backTo pos (starEach es X.env)).any (·.1)=false:=by rfl):PE X (.Call (.Name x p) (e::es) [] pos) (tCB r t):=by
 intro pins s σ H Q I h
 refine zA2 (zCa I hg hm hv ?_ hn hdb)
 exact PyProof.Rows.callWith_type1 (thn (ha pos pins s σ H _ I h) fun us s1 ⟨vs,H1,I1,r1,q1⟩=>hc pins s1 σ H1 vs us Q I1 r1 q1) he hpl
end
end L2
namespace L2
open PySem PySem.Spec PyProof.Rows
section
variable {κ:Type} [DecidableEq κ]
noncomputable def zCS (kvs:List (κ×V))(k:κ):Option V:=(kvs.find? fun kv=>decide (kv.1=k)).map (·.2)
noncomputable def zCz (kvs:List (κ×V))(k:κ)(v:V):List (κ×V):=
 if (kvs.any fun kv=>decide (kv.1=k))=true then kvs.map (fun kv=>if kv.1=k then (kv.1,v) else kv) else kvs++[(k,v)]
noncomputable def zCL (kvs:List (κ×V))(k:κ):List (κ×V):=kvs.filter fun kv=>decide (kv.1≠k)
theorem zJg {k:κ}:zCS ([]:List (κ×V)) k=none:=rfl
theorem zBU {p:κ×V}{r:List (κ×V)}{k:κ}(e:p.1=k):zCS (p::r) k=some p.2:=by simp[zCS,List.find?_cons,e]
theorem zBO {p:κ×V}{r:List (κ×V)}{k:κ}(e:¬ p.1=k):zCS (p::r) k=zCS r k:=by simp[zCS,List.find?_cons,e]
theorem zB2 (k:κ):∀kvs:List (κ×V),(kvs.any fun kv=>decide (kv.1=k))=(zCS kvs k).isSome
 | []=>rfl
 | p::r=>by
  rw[List.any_cons]
  by_cases e:p.1=k
  . simp only[zBU e,zU e,Bool.true_or,Option.isSome_some]
  . rw[zBO e,zZ e,Bool.false_or];exact zB2 k r
theorem zGP (k j:κ)(y:V):∀kvs:List (κ×V),zCS (kvs.map fun kv=>if kv.1=k then (kv.1,y) else kv) j=(zCS kvs j).map fun x=>if j=k then y else x
 | []=>rfl
 | p::r=>by
  have ih:=zGP k j y r
  rw[zz]
  by_cases h:p.1=k
  . rw[if_pos h]
    by_cases e:p.1=j
    . rw[zBU (p:=(p.1,y)) e,zBU e,zAg,if_pos (e.symm.trans h)]
    . rw[zBO (p:=(p.1,y)) e,zBO e,ih]
  . rw[if_neg h]
    by_cases e:p.1=j
    . rw[zBU (p:=p) e,zBU e,zAg,if_neg (fun z=>h (e.trans z))]
    . rw[zBO (p:=p) e,zBO e,ih]
theorem zE3 (k j:κ)(y:V):∀kvs:List (κ×V),zCS kvs k=none->zCS (kvs++[(k,y)]) j=if j=k then some y else zCS kvs j
 | [],_=>by
  by_cases e:k=j
  . rw[if_pos e.symm];exact zBU (p:=(k,y)) e
  . rw[if_neg (fun z=>e z.symm)];exact zBO (p:=(k,y)) e
 | p::r,hn=>by
  rw[List.cons_append]
  have hk:¬ p.1=k:=fun z=>by rw[zBU z] at hn;cases hn
  rw[zBO hk] at hn
  have ih:=zE3 k j y r hn
  by_cases e:p.1=j
  . rw[zBU e,zBU e,if_neg (fun z=>hk (e.trans z))]
  . rw[zBO e,zBO e,ih]
theorem zJf (kvs:List (κ×V))(k j:κ)(y:V):zCS (zCz kvs k y) j=if j=k then some y else zCS kvs j:=by
 unfold zCz
 by_cases a:(kvs.any fun kv=>decide (kv.1=k))=true
 . rw[if_pos a,zGP]
   rw[zB2] at a
   by_cases e:j=k
   . obtain⟨x,hx⟩:=Option.isSome_iff_exists.mp a
     rw[if_pos e,e,hx,zAg,if_pos rfl]
   . rw[if_neg e]
     cases zCS kvs j with
     | none=>rfl
     | some x=>rw[zAg,if_neg e]
 . rw[if_neg a]
   refine zE3 k j y kvs ?_
   rw[zB2] at a
   cases q:zCS kvs k with
   | none=>rfl
   | some x=>rw[q] at a;exact (a rfl).elim
theorem zCV (kvs:List (κ×V))(k:κ)(v:V):(zCz kvs k v).length<=kvs.length+1:=by
 unfold zCz
 split
 . rw[zB];omega
 . rw[zM,zt,List.length_nil];omega
theorem zGi {kvs:List (κ×V)}{k:κ}(v:V)(h:zCS kvs k=none):zCz kvs k v=kvs++[(k,v)]:=by
 unfold zCz
 rw[zB2,h]
 exact if_neg (by decide)
theorem zEy.isSome_eq {o:Option V}{u:Option Value}(r:zEy o u):o.isSome=u.isSome:=by
 cases o with
 | none=>cases u with
  | none=>rfl
  | some _=>exact (show False from r).elim
 | some _=>cases u with
  | none=>exact (show False from r).elim
  | some _=>rfl
theorem zEy.getD {o:Option V}{u:Option Value}{d:V}{d':Value}(r:zEy o u)(rd:zBT d d'):zBT (o.getD d) (u.getD d'):=by
 cases o with
 | none=>cases u with
  | none=>exact rd
  | some _=>exact (show False from r).elim
 | some _=>cases u with
  | none=>exact (show False from r).elim
  | some _=>exact r
theorem KV.val {kvs:List (κ×V)}{vs:List (κ×Value)}(r:KV kvs vs)(k:κ):zEy (zCS kvs k) (valueAt vs k):=by
 unfold KV at r
 induction r with
 | nil=>exact True.intro
 | @cons p q ps qs h t ih=>
  obtain⟨h1,h2⟩:=h
  by_cases e:p.1=k
  . have e':q.1=k:=h1.symm.trans e
    have b:valueAt (q::qs) k=some q.2:=by simp[valueAt,List.find?_cons,e']
    rw[zBU e,b];exact h2
  . have e':¬ q.1=k:=fun z=>e (h1.trans z)
    have b:valueAt (q::qs) k=valueAt qs k:=by simp[valueAt,List.find?_cons,e']
    rw[zBO e,b];exact ih
theorem KV.any {kvs:List (κ×V)}{vs:List (κ×Value)}(r:KV kvs vs)(k:κ):(kvs.any fun kv=>decide (kv.1=k))=vs.any fun kv=>decide (kv.1=k):=by
 unfold KV at r
 induction r with
 | nil=>rfl
 | cons h t ih=>rw[List.any_cons,List.any_cons,ih,h.1]
theorem KV.repl {kvs:List (κ×V)}{vs:List (κ×Value)}(r:KV kvs vs)(k:κ){y:V}{u:Value}(ry:zBT y u) :
 KV (kvs.map fun kv=>if kv.1=k then (kv.1,y) else kv) (vs.map fun kv=>if kv.1=k then (kv.1,u) else kv):=by
 unfold KV at r ⊢
 induction r with
 | nil=>exact .nil
 | @cons p q ps qs h t ih=>
  rw[zz,zz]
  refine .cons ?_ ih
  obtain⟨h1,h2⟩:=h
  by_cases e:p.1=k
  . rw[if_pos e,if_pos (h1.symm.trans e)];exact⟨h1,ry⟩
  . rw[if_neg e,if_neg (fun z=>e (h1.trans z))];exact⟨h1,h2⟩
theorem KV.put {kvs:List (κ×V)}{vs:List (κ×Value)}(r:KV kvs vs)(k:κ){y:V}{u:Value}(ry:zBT y u):KV (zCz kvs k y) (stored vs k u):=by
 unfold zCz stored
 rw[r.any k]
 by_cases e:(vs.any fun kv=>decide (kv.1=k))=true
 . rw[if_pos e,if_pos e];exact r.repl k ry
 . rw[if_neg e,if_neg e];exact Paired.snoc r ⟨rfl,ry⟩
theorem KV.drop {kvs:List (κ×V)}{vs:List (κ×Value)}(r:KV kvs vs)(k:κ):KV (zCL kvs k) (without vs k):=by
 unfold KV at r ⊢
 unfold zCL without
 induction r with
 | nil=>exact .nil
 | @cons p q ps qs h t ih=>
  obtain⟨h1,h2⟩:=h
  rw[zBB,zBB]
  by_cases e:p.1=k
  . have a:¬ decide (p.1≠k)=true:=by simp[e]
    have b:¬ decide (q.1≠k)=true:=by simp[h1.symm.trans e]
    rw[if_neg a,if_neg b];exact ih
  . have e':¬ q.1=k:=fun z=>e (h1.trans z)
    have a:decide (p.1≠k)=true:=by simp[e]
    have b:decide (q.1≠k)=true:=by simp[e']
    rw[if_pos a,if_pos b];exact .cons ⟨h1,h2⟩ ih
theorem KV.length {kvs:List (κ×V)}{vs:List (κ×Value)}(r:KV kvs vs):kvs.length=vs.length:=Paired.length r
theorem zKY (kvs:List (κ×V))(k:κ):(zCL kvs k).length<=kvs.length:=zv _ _
end
theorem zGC {P:Program}{w:World}{k:Key}{u:Value}(r:zBT (kV k) u):(zA9 P w).is k u=true:=by
 cases k with
 | inl i=>obtain⟨t,e⟩:=(show ∃t,u=Value.int i t from r);subst e;exact zF7 P w i t
 | inr x=>obtain⟨t,e⟩:=(show ∃t,u=Value.str x t from r);subst e;exact zF6 P w x t
theorem zFS {P:Program}{w:World}:∀{ks:List Key}{us:List Value},zBJ (ks.map kV) us->ItemsAre (zA9 P w) ks us
 | [],_,r=>by rw[List.map_nil] at r;cases r;exact .nil
 | k::ks,_,r=>by
  rw[zz] at r
  cases r with
  | cons h t=>exact .cons (zGC h) (zFS t)
noncomputable abbrev KT (H:Hp):List (List Key×V)->List (List Key×Addr×Value)->Prop:=Paired fun p q=>p.1=q.1/\H q.2.1=some (.tup (p.1.map kV))/\zBT p.2 q.2.2
theorem KT.val {H:Hp}{kvs:List (List Key×V)}{xs:List (List Key×Addr×Value)}(r:KT H kvs xs)(k:List Key):zEy (zCS kvs k) ((atKey xs k).map (·.2)):=by
 induction r with
 | nil=>exact True.intro
 | @cons p q ps qs h t ih=>
  obtain⟨h1,_,h2⟩:=h
  by_cases e:p.1=k
  . have e':q.1=k:=h1.symm.trans e
    have b:atKey (q::qs) k=some q.2:=by simp[atKey,List.find?_cons,e']
    rw[zBU e,b];exact h2
  . have e':¬ q.1=k:=fun z=>e (h1.trans z)
    have b:atKey (q::qs) k=atKey qs k:=by simp[atKey,List.find?_cons,e']
    rw[zBO e,b];exact ih
theorem KT.repl {H:Hp}{kvs:List (List Key×V)}{xs:List (List Key×Addr×Value)}(r:KT H kvs xs)(k:List Key){y:V}{u:Value}(ry:zBT y u) :
 KT H (kvs.map fun kv=>if kv.1=k then (kv.1,y) else kv) (xs.map (putAt k u)):=by
 induction r with
 | nil=>exact .nil
 | @cons p q ps qs h t ih=>
  rw[zz,zz]
  refine .cons ?_ ih
  obtain⟨h1,h2,h3⟩:=h
  unfold putAt
  by_cases e:p.1=k
  . rw[if_pos e,if_pos (h1.symm.trans e)];exact⟨h1,h2,ry⟩
  . rw[if_neg e,if_neg (fun z=>e (h1.trans z))];exact⟨h1,h2,h3⟩
theorem KT.put {H:Hp}{kvs:List (List Key×V)}{xs:List (List Key×Addr×Value)}(r:KT H kvs xs)(k:List Key){b:Addr}{y:V}{u:Value}(hb:H b=some (.tup (k.map kV)))(ry:zBT y u) :
 KT H (zCz kvs k y) (storedH xs k b u):=by
 have e:(kvs.any fun kv=>decide (kv.1=k))=(atKey xs k).isSome:=by
  rw[zB2,(r.val k).isSome_eq,Option.isSome_map]
 unfold zCz storedH
 rw[e]
 by_cases q:(atKey xs k).isSome=true
 . rw[if_pos q,if_pos q];exact r.repl k ry
 . rw[if_neg q,if_neg q];exact Paired.snoc r ⟨rfl,hb,ry⟩
theorem KT.keeps {H H':Hp}{kvs:List (List Key×V)}{xs:List (List Key×Addr×Value)}(r:KT H kvs xs)(ht:∀b ys,H b=some (.tup ys)->H' b=some (.tup ys)):KT H' kvs xs:=
 Paired.mapP r fun _ _ z=>⟨z.1,ht _ _ z.2.1,z.2.2⟩
section
variable {P:Program}{w:World}{H:Hp}{h:Heap}{a:Addr}
theorem rd_of {u:HO}(ok:HOk P w H h)(e:Rd H a u):zBM P w H h a u:=e.ok ok
theorem zI5 {kvs:List (Key×V)}(ok:HOk P w H h)(e:Rd H a (.dK kvs)):kvs.length<=sizeLine/\(a==sysModules)=false/\∃vs,KV kvs vs/\h.DictOf (zA9 P w) a vs:=
 show zBM P w H h a (.dK kvs) from rd_of ok e
theorem zI6 {kvs:List (Key×V)}(ok:HOk P w H h)(e:H a=some (.dK kvs)):kvs.length<=sizeLine/\(a==sysModules)=false/\∃vs,KV kvs vs/\h.DictOf (zA9 P w) a vs:=zI5 ok (.inl e)
theorem zGo {ks:List Key}(ok:HOk P w H h)(e:H a=some (.tup (ks.map kV))):(tupleKind (zA9 P w)).is h ks a:=by
 obtain⟨_,its,r,o,h1,h2,n,h3⟩:=(show zBM P w H h a (.tup (ks.map kV)) from ok a _ e)
 exact⟨o,its.toArray,n,h1,h2,h3,by simpa using zFS r⟩
theorem zI3 {kvs:List (List Key×V)}(ok:HOk P w H h)(e:Rd H a (.dT kvs)):kvs.length<=sizeLine/\(a==sysModules)=false /\
 ∃xs,KT H kvs xs/\h.DictOfH (tupleKind (zA9 P w)) a xs:=by
 obtain⟨z,y,xs,r,o,es,ep,h1,h2,h3,h4,h5⟩:=(show zBM P w H h a (.dT kvs) from rd_of ok e)
 refine⟨z,y,xs,r,o,es,ep,h1,h2,h3,h4,fun x hx=>?_,h5⟩
 have all:∀{l:List (List Key×V)}{m:List (List Key×Addr×Value)},KT H l m->∀x∈m,(tupleKind (zA9 P w)).is h x.1 x.2.1:=by
  intro l m q
  induction q with
  | nil=>intro x hx;exact nomatch hx
  | @cons p q ps qs hq t ih=>
   intro x hx
   rcases ze.mp hx with e | hx
   . subst e
     exact zGo ok (by rw[<-hq.1];exact hq.2.1)
   . exact ih x hx
 exact all r x hx
theorem dt_of {kvs:List (List Key×V)}(ok:HOk P w H h)(e:H a=some (.dT kvs)):kvs.length<=sizeLine/\(a==sysModules)=false /\
 ∃xs,KT H kvs xs/\h.DictOfH (tupleKind (zA9 P w)) a xs:=zI3 ok (.inl e)
end
noncomputable def zJZ (H:Hp)(a:Addr)(y:V)(r:Option V):Prop:=
 (∃kvs k,Rd H a (.dK kvs)/\y=kV k/\r=zCS kvs k)\/∃kvs k b,Rd H a (.dT kvs)/\y = .ref b/\H b=some (.tup (k.map kV))/\r=zCS kvs k
noncomputable def zKj (H:Hp)(a:Addr)(y v:V)(H':Hp):Prop:=
 (∃kvs k,H a=some (.dK kvs)/\y=kV k/\kvs.length<sizeLine/\H'=upd H a (.dK (zCz kvs k v))) \/
 ∃kvs k b,H a=some (.dT kvs)/\y = .ref b/\H b=some (.tup (k.map kV))/\kvs.length<sizeLine/\H'=upd H a (.dT (zCz kvs k v))
theorem zJZ.k {H:Hp}{a:Addr}{kvs:List (Key×V)}{k:Key}(e:H a=some (.dK kvs)):zJZ H a (kV k) (zCS kvs k):=.inl ⟨kvs,k,.inl e,rfl,rfl⟩
theorem zJZ.t {H:Hp}{a b:Addr}{kvs:List (List Key×V)}{k:List Key}(e:H a=some (.dT kvs))(eb:H b=some (.tup (k.map kV))):zJZ H a (.ref b) (zCS kvs k):=.inr ⟨kvs,k,b,.inl e,rfl,eb,rfl⟩
theorem zKj.k {H:Hp}{a:Addr}{kvs:List (Key×V)}{k:Key}{v:V}(e:H a=some (.dK kvs))(hl:kvs.length<sizeLine):zKj H a (kV k) v (upd H a (.dK (zCz kvs k v))):=.inl ⟨kvs,k,e,rfl,hl,rfl⟩
theorem zKj.t {H:Hp}{a b:Addr}{kvs:List (List Key×V)}{k:List Key}{v:V}(e:H a=some (.dT kvs))(eb:H b=some (.tup (k.map kV)))(hl:kvs.length<sizeLine) :
 zKj H a (.ref b) v (upd H a (.dT (zCz kvs k v))):=.inr ⟨kvs,k,b,e,rfl,eb,hl,rfl⟩
section
variable {X:Cx}{pins:List (Addr×Obj)}{σ:St}{H:Hp}{s:Shared}{a:Addr}{y v:V}{u r:Value}{o:Option V}{A:Around}{E:Value->Shared->Prop}
theorem Inv.big (I:Inv X pins σ H s):sysModules<s.heap.objs.size:=by
 have h:mainGlobals<s.heap.objs.size:=(I.mod.glob.keeps I.bk).lt
 exact Nat.lt_trans (by decide) h
theorem zJC {Q:Value->Shared->Prop}(hu:A.units+1<cLine)(I:Inv X pins σ H s)(g:zJZ H a y (some v))(ry:zBT y u)(h:∀w' s',Inv X pins σ H s'->zBT v w'->Q w' s') :
 wpAny (model X.prog X.w) A (getItem (.ref a) u) Q E s:=by
 rcases g with ⟨kvs,k,e,ey,l⟩ | ⟨kvs,k,b,e,ey,eb,l⟩
 . subst ey
   obtain⟨z,hd,vs,rel,dd⟩:=zI5 I.hok e
   obtain⟨w',hw,rw'⟩:=zEy.some_of (v:=v) (o:=valueAt vs k) (by rw[l];exact rel.val k)
   exact wpAny_getItem_of (zGC ry) dd.mapOf hw (h w' _ (I.tok _) rw')
 . subst ey
   cases (show u=Value.ref b from ry)
   obtain⟨z,hd,xs,rel,dd⟩:=zI3 I.hok e
   obtain⟨w',hw,rw'⟩:=zEy.some_of (v:=v) (o:=(atKey xs k).map (·.2)) (by rw[l];exact rel.val k)
   obtain⟨p,hp,hp2⟩:=Option.map_eq_some_iff.mp hw
   refine wpAny_getItem_heap (tupleKind_room_in1 hu) (zGo I.hok eb) dd hp ?_
   rw[hp2]
   exact h w' _ (I.tok _) rw'
theorem zEv {h':Heap}{t':Nat}{ob:HO}(I:Inv X pins σ H s)(mu:Mut (H a))(hs:Heap.SameBut a s.heap h')(he:∃q,h'.get? a=some q)(new:zBM X.prog X.w (upd H a ob) h' a ob) :
 Inv X pins σ (upd H a ob) { s with heap:=h',toks:=t' }:=
 I.write (x:=a) (e:=a) mu (.inl rfl) (fun b q hb z=>(hs.2 b hb).trans z) he new
theorem zI7 {P:Program}{w:World}{H':Hp}{h':Heap}{kvs:List (Key×V)}{vs:List (Key×Value)}(z:kvs.length<=sizeLine)(hd:(a==sysModules)=false)(rel:KV kvs vs)(dd:h'.DictOf (zA9 P w) a vs) :
 zBM P w H' h' a (.dK kvs):=⟨z,hd,vs,rel,dd⟩
theorem zJB {H':Hp}{Q:Unit->Shared->Prop}(hu:A.units+1<cLine)(I:Inv X pins σ H s)(g:zKj H a y v H')(ry:zBT y u)(rv:zBT v r)(h:∀s',Inv X pins σ H' s'->Q () s') :
 wpAny (model X.prog X.w) A (setItem (.ref a) u r) Q E s:=by
 rcases g with ⟨kvs,k,e,ey,l,eH⟩ | ⟨kvs,k,b,e,ey,eb,l,eH⟩
 . subst ey eH
   obtain⟨z,hd,vs,rel,dd⟩:=zI6 I.hok e
   have hz:vs.length<=sizeLine:=by rw[<-rel.length];exact z
   have hl:(zCz kvs k v).length<=sizeLine:=by have:=zCV kvs k v;omega
   refine wpAny_setItem_pairs (hsz:=hz) (zGC ry) dd fun h' dd' hs=>h _ ?_
   have he:∃q,h'.get? a=some q:=let ⟨q,_,_,hq,_⟩:=dd';⟨q,hq⟩
   exact zEv I (by rw[e];exact True.intro) hs he (zI7 hl hd (rel.put k rv) dd')
 . subst ey eH
   cases (show u=Value.ref b from ry)
   obtain⟨z,hd,xs,rel,dd⟩:=dt_of I.hok e
   have hz:xs.length<=sizeLine:=by rw[<-Paired.length rel];exact z
   have hl:(zCz kvs k v).length<=sizeLine:=by have:=zCV kvs k v;omega
   refine wpAny_setItem_heap (hsz:=hz) (tupleKind_room_in1 hu) (zGo I.hok eb) dd fun h' dd' hs=>h _ ?_
   obtain⟨q,es,ep,hq,h2,h3,h4,_,h5⟩:=dd'
   refine zEv I (by rw[e];exact True.intro) hs ⟨q,hq⟩ ⟨hl,hd,_,(rel.put k eb rv).keeps fun c ys ec=>?_,q,es,ep,hq,h2,h3,h4,h5⟩
   rw[zX (zBw ec e (fun z=>nomatch z))]
   exact ec
end
section
variable {X:Cx}{pins:List (Addr×Obj)}{σ:St}{H:Hp}{s:Shared}{a:Addr}{kvs:List (Key×V)}{k:Key}{u:Value}{A:Around}{E:Value->Shared->Prop}
theorem d_pop {v:V}{more:List Value}{Q:Value->Shared->Prop}(I:Inv X pins σ H s)(e:H a=some (.dK kvs))(ry:zBT (kV k) u)(l:zCS kvs k=some v)(hm:more=[]\/∃x,more=[x])
 (h:∀w' s',Inv X pins σ (upd H a (.dK (zCL kvs k))) s'->zBT v w'->Q w' s'):wpAny (model X.prog X.w) A (call (.builtin "dict.pop") (.ref a::u::more)) Q E s:=by
 obtain⟨z,hd,vs,rel,dd⟩:=zI6 I.hok e
 obtain⟨w',hw,rw'⟩:=zEy.some_of (v:=v) (o:=valueAt vs k) (by rw[<-l];exact rel.val k)
 have hp:(keyPart u).isSome=true:=by
  cases k with
  | inl i=>obtain⟨t,q⟩:=(show ∃t,u=Value.int i t from ry);subst q;rfl
  | inr x=>obtain⟨t,q⟩:=(show ∃t,u=Value.str x t from ry);subst q;rfl
 have ha:argsOk "dict.pop" ⟨.ref a::u::more,[]⟩:=by
  rcases hm with q | ⟨x,q⟩
  . subst q;exact PySem.F.args_dict_pop_2 _ _
  . subst q;exact PySem.F.args_dict_pop_3 _ _ _
 refine call_meetsIn PySem.F.slot_dict_pop dd.typeIs PySem.F.entry_dict_pop ha (meets_dict_pop_there (zA9 X.prog X.w) a (zGC ry) more hm hp)
  ⟨vs,w',dd,by rw[<-rel.length];exact z,hw,fun h' dd' hs=>h w' _ ?_ rw'⟩
 have he:∃q,h'.get? a=some q:=let ⟨q,_,_,hq,_⟩:=dd';⟨q,hq⟩
 exact zEv I (by rw[e];exact True.intro) hs he (zI7 (zAE (zKY kvs k) z) hd (rel.drop k) dd')
end
noncomputable def NoSl (i:Expr):Prop:=∀ov iv,subscripted i false ov iv=operate [ov,iv] (getItem ov iv)
theorem zHv {prog:Program}{w:World}{A:Around}{E:Value->Shared->Prop}{s:Shared}{env:Env}{value slice:Expr}{pos:Pos}{T id:String}{Q:Value->Shared->Prop}
 (hl:typeLookup (.type T) "__getitem__" = pure (some (.builtin id))) (hs:NoSl slice)
 (h:wpAny (model prog w) A (eval value env) (fun o s₁=>wpAny (model prog w) A (eval slice env) (fun i s₂=>s₂.TypeIs o T/\wpAny (model prog w) A (getItem o i) Q E s₂) E s₁) E s) :
 wpAny (model prog w) A (eval (.Subscript value slice pos) env) Q E s:=by
 refine Subscript_ (zAJ h (fun o s₁ h₁=>zAJ h₁ (fun i s₂ h₂=>?_) fun _ _ x=>x) fun _ _ x=>x)
 obtain⟨hT,h₂⟩:=h₂
 unfold subscriptTail
 refine zA ?_
 rw[getitemInPython_of_ne hT.not_modules]
 refine zA (wpAny_specialOf hT hl ?_)
 have fin:wpAny (model prog w) A (subscripted slice false o i) (fun r s₃=>wpAny (model prog w) A (letTemporaryGo value o r >>= fun _=>pure r) Q E s₃) E s₂:=by
  rw[hs o i]
  exact wpAny_operating (zAJ h₂ (fun r s₃ h₃=>zA (wpAny_letTemporaryGo (zG h₃))) fun _ _ x=>x)
 first
  | exact zG (zA fin)
  | exact zA (zG (zA fin))
  | exact zA fin
theorem zGF {X:Cx}{pins:List (Addr×Obj)}{σ:St}{H:Hp}{s:Shared}{a:Addr}{y:V}{o:Option V}(I:Inv X pins σ H s)(g:zJZ H a y o):s.TypeIs (.ref a) "dict" := by
 rcases g with ⟨kvs,k,e,_,_⟩ | ⟨kvs,k,b,e,_,_,_⟩
 . obtain⟨_,_,vs,_,dd⟩:=zI5 I.hok e
   exact dd.typeIs
 . obtain⟨_,_,xs,_,dd⟩:=zI3 I.hok e
   exact dd.typeIs
noncomputable def tDGet (td ty:TE):TE:=fun σ H Q=>td σ H fun x H1=>ty σ H1 fun y H2=>∃a v,x = .ref a/\zJZ H2 a y (some v)/\Q v H2
noncomputable def sDPut (td ty tv:TE):TS:=fun D σ H=>tv σ H fun v H1=>td σ H1 fun x H2=>ty σ H2 fun y H3=>∃a H4,x = .ref a/\zKj H3 a y v H4/\D.nx σ H4
section
variable {X:Cx}{o i e value:Expr}{pos pos' tpos:Pos}{td ty tv:TE}
theorem zLo (hu:X.A.units+1<cLine)(ho:PE X o td)(hi:PE X i ty)(hs:NoSl i):PE X (.Subscript o i pos) (tDGet td ty):=by
 intro pins s σ H Q I h
 refine zHv PySem.F.slot_dict_getitem.lookup hs (thn (ho pins s σ H _ I h) fun u s1 ⟨x,H1,I1,rx,q1⟩=>thn (hi pins s1 σ H1 _ I1 q1) fun iv s2 ⟨y,H2,I2,ry,a,v,ex,g,q2⟩=>?_)
 subst ex
 obtain rfl:u=Value.ref a:=rx
 exact⟨zGF I2 g,zJC hu I2 g ry fun w' s3 I3 rw'=>⟨v,H2,I3,rw',q2⟩⟩
theorem zF1 (hu:X.A.units+1<cLine)(ho:PE X o td)(hi:PE X i ty)(hv:PE X value tv)(hs:swapsWith value (some (.Subscript o i pos')) pos.line X.env=pure false) :
 PS X (.Assign [.Subscript o i pos'] value pos) (sDPut td ty tv):=by
 intro pins s σ H D I h
 refine wpAny_Assign_Subscript (thn (hv pins s σ H _ I h) fun r s1 ⟨v,H1,I1,rv,q1⟩=>thn (ho pins s1 σ H1 _ I1 q1) fun u s2 ⟨x,H2,I2,rx,q2⟩=>thn (hi pins s2 σ H2 _ I2 q2) fun iv s3 ⟨y,H3,I3,ry,a,H4,ex,g,q3⟩=>?_) hs
 subst ex
 obtain rfl:u=Value.ref a:=rx
 exact zJB hu I3 g ry rv fun s4 I4=>⟨σ,H4,I4,q3⟩
end
theorem zKZ {P:Program}{w:World}{H:Hp}(h:Heap)(hb:sysModules<h.objs.size):zBM P w H (h.push { cls:=.type "dict",data:=.dict #[] }) h.objs.size (.dK []):=
 ⟨zh _,beq_eq_false_iff_ne.mpr (Ne.symm (za hb)),[],.nil,Heap.DictOf.new h⟩
theorem zKX {P:Program}{w:World}{H:Hp}(h:Heap)(hb:sysModules<h.objs.size):zBM P w H (h.push { cls:=.type "dict",data:=.dict #[] }) h.objs.size (.dT []):=
 ⟨zh _,beq_eq_false_iff_ne.mpr (Ne.symm (za hb)),[],.nil,_,#[],0,zQ _ rfl,⟨rfl,rfl,rfl⟩,rfl,rfl,List.nodup_nil⟩
noncomputable def tDNewT:TE:=fun _ H Q=>∀p,H p=none->Q (.ref p) (upd H p (.dT []))
section
variable {X:Cx}{pos:Pos}
theorem zKD:PE X (.Dict [] [] pos) tDNewT:=fun pins s σ H Q I h=>
 wpAny_Dict_empty ⟨.ref s.heap.objs.size,_,I.laid (a:=s.heap.objs.size) (o:=.dT []) (t':=s.toks) (fun _ _ q=>zF _ q) (zI _) (zKX s.heap I.big),rfl,h _ (I.hok.fresh (zI _))⟩
end
noncomputable def zHs:List (TE×TE)->St->Hp->(List (V×V)->Hp->Prop)->Prop
 | [],_,H,Q=>Q [] H
 | (tk,tv)::r,σ,H,Q=>tk σ H fun x H1=>tv σ H1 fun y H2=>zHs r σ H2 fun ps H3=>Q ((x,y)::ps) H3
noncomputable abbrev VV:List (V×V)->List (Value×Value)->Prop:=Paired fun p q=>zBT p.1 q.1/\zBT p.2 q.2
noncomputable def PPs (X:Cx)(pos:Pos)(keys:List (Option Expr))(values:List Expr)(trs:List (TE×TE)):Prop:=
 ∀(pins:List (Addr×Obj))(s:Shared)(σ:St)(H:Hp)(Q:List (V×V)->Hp->Prop),Inv X pins σ H s->zHs trs σ H Q ->
  wpAny (model X.prog X.w) X.A (evalPairs (pairTrees keys values X.env pos)) (fun vs s'=>∃ps H',Inv X pins σ H' s'/\VV ps vs/\Q ps H') X.xe s
theorem zLk {X:Cx}{pos:Pos}:PPs X pos [] [] []:=fun pins s σ H Q I h=>pairTrees_nil_walk ⟨[],H,I,.nil,h⟩
theorem zJ9 {X:Cx}{pos:Pos}{k v:Expr}{ks:List (Option Expr)}{vs:List Expr}{tk tv:TE}{trs:List (TE×TE)}(hk:PE X k tk)(hv:PE X v tv)(hr:PPs X pos ks vs trs) :
 PPs X pos (some k::ks) (v::vs) ((tk,tv)::trs):=fun pins s σ H Q I h=>
 pairTrees_cons_walk (thn (hk pins s σ H _ I h) fun u s1 ⟨x,H1,I1,rx,q1⟩=>thn (hv pins s1 σ H1 _ I1 q1) fun w2 s2 ⟨y,H2,I2,ry,q2⟩=>
  thn (hr pins s2 σ H2 _ I2 q2) fun ws s3 ⟨ps,H3,I3,rel,q3⟩=>⟨(x,y)::ps,H3,I3,.cons ⟨rx,ry⟩ rel,q3⟩)
noncomputable def zEO (kvs more:List (Key×V)):List (Key×V):=more.foldl (fun acc kv=>zCz acc kv.1 kv.2) kvs
theorem KV.merge:∀{more:List (Key×V)}{rs:List (Key×Value)}{kvs:List (Key×V)}{vs:List (Key×Value)},KV more rs->KV kvs vs->KV (zEO kvs more) (merged vs rs):=by
 intro more rs kvs vs r
 unfold KV at r
 induction r generalizing kvs vs with
 | nil=>intro q;exact q
 | @cons p q ps qs h t ih=>
  intro r0
  have e:KV (zCz kvs p.1 p.2) (stored vs q.1 q.2):=by
   have:=r0.put p.1 h.2
   rw[<-h.1];exact this
  exact ih e
theorem zC4:∀(more kvs:List (Key×V)),(zEO kvs more).length<=kvs.length+more.length
 | [],kvs=>by show kvs.length<=kvs.length+0;omega
 | p::r,kvs=>by
  have h1:=zC4 r (zCz kvs p.1 p.2)
  have h2:=zCV kvs p.1 p.2
  show (zEO (zCz kvs p.1 p.2) r).length<=_
  rw[zt];omega
theorem zEV {P:Program}{w:World}:∀{kvs:List (Key×V)}{ws:List (Value×Value)},VV (kvs.map fun kv=>(kV kv.1,kv.2)) ws->∃rs,Carries (zA9 P w) ws rs/\KV kvs rs
 | [],_,r=>by rw[List.map_nil] at r;cases r;exact⟨[],True.intro,.nil⟩
 | p::kvs,_,r=>by
  rw[zz] at r
  cases r with
  | @cons a b as bs h t=>
   obtain⟨rs,c,q⟩:=zEV (P:=P) (w:=w) t
   obtain⟨b1,b2⟩:=b
   exact⟨(p.1,b2)::rs,⟨zGC h.1,rfl,c⟩,.cons ⟨rfl,h.2⟩ q⟩
noncomputable def tDisp (trs:List (TE×TE)):TE:=fun σ H Q=>∀p,H p=none->zHs trs σ (upd H p (.dK [])) fun ps H2=>H2 p=some (.dK [])/\∃kvs:List (Key×V),ps=kvs.map (fun kv=>(kV kv.1,kv.2))/\kvs.length<=15/\Q (.ref p) (upd H2 p (.dK (zEO [] kvs)))
theorem zLn {X:Cx}{pos:Pos}{keys:List (Option Expr)}{values:List Expr}{trs:List (TE×TE)}(h:PPs X pos keys values trs)(hall:keys.all (·.isSome)=true)(hl:keys.length=values.length)(h0:keys≠[])
 (h15:keys.length<=15):PE X (.Dict keys values pos) (tDisp trs):=by
 intro pins s σ H Q I q
 have hn:=I.hok.fresh (zI s.heap.objs.size)
 have I1:=I.laid (a:=s.heap.objs.size) (o:=.dK []) (h':=s.heap.push { cls:=.type "dict",data:=.dict #[] }) (t':=s.toks) (fun _ _ q=>zF _ q) (zI _) (zKZ s.heap I.big)
 refine wpAny_Dict_walk (knd:=zA9 X.prog X.w) hall hl h0 h15 (thn (h pins _ σ _ _ I1 (q _ hn)) fun ws s2 ⟨ps,H2,I2,rel,e,kvs,ep,lk,q2⟩=>?_)
 subst ep
 obtain⟨rs,c,rk⟩:=zEV (P:=X.prog) (w:=X.w) rel
 obtain⟨z,hd,vs0,r0,dd⟩:=zI6 I2.hok e
 cases r0
 refine⟨rs,c,dd,fun h' dd' hs=>⟨.ref s.heap.objs.size,_,?_,rfl,q2⟩⟩
 have hz:(zEO [] kvs).length<=sizeLine:=by
  have h1:=zC4 kvs []
  rw[List.length_nil] at h1
  rw[sizeLine_eq];omega
 have he:∃q,h'.get? s.heap.objs.size=some q:=let ⟨q,_,_,hq,_⟩:=dd';⟨q,hq⟩
 exact zEv I2 (by rw[e];exact True.intro) hs he (zI7 hz hd (rk.merge .nil) dd')
structure M1 (X:Cx)(o:Expr)(m:Str)(apos:Pos)(e:Expr)(cpos:Pos):Prop where
 base:attributeBase o m X.env (eval o X.env)=eval o X.env
 few:((backTo cpos (starEach [e] X.env)).all (fun x=>!x.1) && (backToKw cpos (keywordEach [] X.env)).all (fun x=>x.1.isSome)
  && decide (([e]:List Expr).length+([]:List Keyword).length+(if ([]:List Keyword).isEmpty then 0 else 1)<30))=true
 line:(apos.endLine==cpos.line)=true
 trees:backTo cpos (starEach [e] X.env)=[(false,eval e X.env)]
structure M2 (X:Cx)(o:Expr)(m:Str)(apos:Pos)(e f:Expr)(cpos:Pos):Prop where
 base:attributeBase o m X.env (eval o X.env)=eval o X.env
 few:((backTo cpos (starEach [e,f] X.env)).all (fun x=>!x.1) && (backToKw cpos (keywordEach [] X.env)).all (fun x=>x.1.isSome)
  && decide (([e,f]:List Expr).length+([]:List Keyword).length+(if ([]:List Keyword).isEmpty then 0 else 1)<30))=true
 line:(apos.endLine==cpos.line)=true
 trees:backTo cpos (starEach [e,f] X.env)=[(false,eval e X.env),(false,eval f X.env)]
noncomputable def IsD (H:Hp)(a:Addr):Prop:=(∃kvs,Rd H a (.dK kvs))\/∃kvs,Rd H a (.dT kvs)
theorem zK6 {X:Cx}{pins:List (Addr×Obj)}{σ:St}{H:Hp}{s:Shared}{a:Addr}(I:Inv X pins σ H s)(d:IsD H a) :
 s.TypeIs (.ref a) "dict" /\ (∀b,Value.ref a = .ref b->∃ob,s.heap.get? b=some ob/\ob.dict=none)/\(a==sysModules)=false:=by
 rcases d with ⟨kvs,e⟩ | ⟨kvs,e⟩
 . obtain⟨_,hd,vs,_,dd⟩:=zI5 I.hok e
   refine⟨dd.typeIs,fun b q=>?_,hd⟩
   cases q
   obtain⟨ob,_,_,h1,h2,_⟩:=dd
   exact⟨ob,h1,h2.2.1⟩
 . obtain⟨_,hd,xs,_,dd⟩:=zI3 I.hok e
   refine⟨dd.typeIs,fun b q=>?_,hd⟩
   cases q
   obtain⟨ob,_,_,h1,h2,_⟩:=dd
   exact⟨ob,h1,h2.2.1⟩
section
variable {X:Cx}{pins:List (Addr×Obj)}{σ:St}{H:Hp}{s:Shared}{a:Addr}{y d:V}{u r:Value}{o:Option V}{A:Around}{E:Value->Shared->Prop}
theorem d_get2 {Q:Value->Shared->Prop}(hu:A.units+1<cLine)(I:Inv X pins σ H s)(g:zJZ H a y o)(ry:zBT y u)(rd:zBT d r)(h:∀w' s',Inv X pins σ H s'->zBT (o.getD d) w'->Q w' s') :
 wpAny (model X.prog X.w) A (call (.builtin "dict.get") [.ref a,u,r]) Q E s:=by
 rcases g with ⟨kvs,k,e,ey,l⟩ | ⟨kvs,k,b,e,ey,eb,l⟩
 . subst ey
   obtain⟨z,hd,vs,rel,dd⟩:=zI5 I.hok e
   refine call_meetsIn PySem.F.slot_dict_get dd.typeIs PySem.F.entry_dict_get (PySem.F.args_dict_get_3 _ _ _) (meets_dict_get_default (zA9 X.prog X.w) a (zGC ry) hd r) ⟨_,dd.mapOf,h _ _ (I.tok _) ?_⟩
   rw[l]
   exact (rel.val k).getD rd
 . subst ey
   cases (show u=Value.ref b from ry)
   obtain⟨z,hd,xs,rel,dd⟩:=zI3 I.hok e
   refine call_meetsIn PySem.F.slot_dict_get dd.typeIs PySem.F.entry_dict_get (PySem.F.args_dict_get_3 _ _ _) (meetsH_dict_get_default (tupleKind (zA9 X.prog X.w)) a b hd r) ⟨tupleKind_room_in1 hu,k,xs,zGo I.hok eb,dd,h _ _ (I.tok _) ?_⟩
   rw[l]
   exact (rel.val k).getD rd
end
noncomputable def tDGet2 (td ty tx:TE):TE:=fun σ H Q=>td σ H fun x H1=>∃a,x = .ref a/\IsD H1 a/\ty σ H1 fun y H2=>tx σ H2 fun z H3=>∃o,zJZ H3 a y o/\Q (o.getD z) H3
noncomputable def tDPop1 (td ty:TE):TE:=fun σ H Q=>td σ H fun x H1=>∃a,x = .ref a/\IsD H1 a/\ty σ H1 fun y H2=>∃kvs k v,H2 a=some (.dK kvs)/\y=kV k/\zCS kvs k=some v/\Q v (upd H2 a (.dK (zCL kvs k)))
section
variable {X:Cx}{o e f:Expr}{apos cpos:Pos}{td ty tx:TE}
theorem zKE (hu:X.A.units+1<cLine)(ho:PE X o td)(he:PE X e ty)(hf:PE X f tx)(m:M2 X o "get" apos e f cpos):PE X (.Call (.Attribute o "get" apos) [e,f] [] cpos) (tDGet2 td ty tx):=by
 intro pins s σ H Q I h
 refine wpAny_Call_method m.base m.few m.line PySem.F.plainAttrs_dict PySem.F.slot_dict_get PySem.F.type_dict_get (thn (ho pins s σ H _ I h) fun u s1 ⟨x,H1,I1,rx,a,ex,d,q1⟩=>?_)
 subst ex
 obtain rfl:u=Value.ref a:=rx
 obtain⟨t1,t2,_⟩:=zK6 I1 d
 refine⟨t1,t2,?_⟩
 rw[m.trees]
 refine Calls.callWith_builtin rfl (Calls.evalArgs_plain (Calls.spliced_cons (thn (he pins s1 σ H1 _ I1 q1) fun iv s2 ⟨y,H2,I2,ry,q2⟩=>
  Calls.spliced_cons (thn (hf pins s2 σ H2 _ I2 q2) fun fv s3 ⟨z,H3,I3,rz,ov,g,q3⟩=>Calls.spliced_nil ?_))))
 exact d_get2 hu I3 g ry rz fun w' s4 I4 rw'=>⟨_,H3,I4,rw',q3⟩
theorem zKC (ho:PE X o td)(he:PE X e ty)(m:M1 X o "pop" apos e cpos):PE X (.Call (.Attribute o "pop" apos) [e] [] cpos) (tDPop1 td ty):=by
 intro pins s σ H Q I h
 refine wpAny_Call_method m.base m.few m.line PySem.F.plainAttrs_dict PySem.F.slot_dict_pop PySem.F.type_dict_pop (thn (ho pins s σ H _ I h) fun u s1 ⟨x,H1,I1,rx,a,ex,d,q1⟩=>?_)
 subst ex
 obtain rfl:u=Value.ref a:=rx
 obtain⟨t1,t2,_⟩:=zK6 I1 d
 refine⟨t1,t2,?_⟩
 rw[m.trees]
 refine Calls.callWith_builtin rfl (Calls.evalArgs_plain (Calls.spliced_cons (thn (he pins s1 σ H1 _ I1 q1) fun iv s2 ⟨y,H2,I2,ry,kvs,k,v,ea,ey,l,q2⟩=>Calls.spliced_nil ?_)))
 subst ey
 exact d_pop I2 ea ry l (.inl rfl) fun w' s3 I3 rw'=>⟨v,_,I3,rw',q2⟩
end
section
variable {X:Cx}{pins:List (Addr×Obj)}{σ:St}{H:Hp}{s:Shared}{a:Addr}{kvs:List (Key×V)}{A:Around}{E:Value->Shared->Prop}
end
section
variable {X:Cx}{pins:List (Addr×Obj)}{σ:St}{H:Hp}{s:Shared}{a:Addr}{y:V}{u:Value}{A:Around}{E:Value->Shared->Prop}
end
end L2
namespace HT
open PySem PyProof.Rows
noncomputable def lexLt:List Int->List Int->Bool
 | [],[]=>false
 | [],_::_=>true
 | _::_,[]=>false
 | x::xs,y::ys=>if x=y then lexLt xs ys else decide (x<y)
theorem lexLt_cons (x y:Int)(xs ys:List Int):lexLt (x::xs) (y::ys)=if x=y then lexLt xs ys else decide (x<y):=rfl
theorem zEr:lexLt [] []=false:=rfl
theorem zD6 (y:Int)(ys:List Int):lexLt [] (y::ys)=true:=rfl
theorem zD7 (x:Int)(xs:List Int):lexLt (x::xs) []=false:=rfl
theorem zKW (A:Around)(s:Shared)(a:Int)(t:Tok)(c:Int)(u:Tok):∃e,SeqAt.EqAt A s (.int a t) (.int c u) e/\(e=true↔a=c):=
 ⟨(a==c),SeqAt.EqAt.int_int a t c u,by simp⟩
theorem zJ4 (A:Around)(s:Shared)(a:Int)(t:Tok)(c:Int)(u:Tok)(prog:Program)(w:World)(E:Value->Shared->Prop)(Q:Value->Shared->Prop)(h:Q (.bool (decide (a<c))) s) :
 wpAny (model prog w) A (richCompare .Lt (.int a t) (.int c u)) Q E s:=
 (PyProof.Rows.lt_int h:wpAny (model prog w) A (compareOp .Lt (.int a t) (.int c u)) Q E s)
section
open PySem.SeqAt
open PySem.AutoSeq1 (wpAny_loadPart')
open PySem.MeetsSeq PySem.MeetsSeq2 PySem.MeetsSeq3
theorem zEa (l b:Addr)(items items2:Array Value)(n n2:Nat)(dd dd2:Option Addr)(sl sl2:Array (Option Value))(ns ms:List Int)(hi:IntsAre items.toList ns)(hj:IntsAre items2.toList ms) :
 Meets (Builtin.«tuple.__lt__» ⟨[.ref l,.ref b],[]⟩)
  (fun _ R s=>s.heap.get? l=some { cls:=.type "tuple",dict:=dd,data:=.seq items n,slots:=sl }/\s.heap.get? b=some { cls:=.type "tuple",dict:=dd2,data:=.seq items2 n2,slots:=sl2 } /\
   R (.ok (.ret (.bool (lexLt ns ms)))) s):=
 .of_wp fun prog w A R s h=>by
  obtain⟨hp,g,d,tk,os⟩:=s;obtain⟨hl,hb,h⟩:=h
  have f2:=AutoSeq1.sub_tuple_tuple
  have z1:items.size=ns.length:=by rw[<-hi.length];simp
  have z2:items2.size=ms.length:=by rw[<-hj.length];simp
  wp_walk using wpAny_loadPart' hl,wpAny_loadPart' hb,wpAny_forIn_list _ (fun rest b s'=>b.1=none/\s'=⟨hp,g,d,tk,os⟩/\∃(vs ws:List Value)(ns' ms':List Int),rest=vs.zip ws /\
   IntsAre vs ns'/\IntsAre ws ms'/\ns'.length+items2.size=ms'.length+items.size/\R (.ok (.ret (.bool (lexLt ns' ms')))) ⟨hp,g,d,tk,os⟩) _
  case turn=>
   rintro ⟨y,x⟩ rest b s' ⟨hb',rfl,vs,ws,ns',ms',hz,hvi,hwi,hlen,hR⟩
   cases hvi with
   | nil=>rw[List.zip_nil_left] at hz;cases hz
   | cons a t hvi'=>
    cases hwi with
    | nil=>rw[List.zip_nil_right] at hz;cases hz
    | cons c u hwi'=>
     rw[List.zip_cons_cons] at hz
     injection hz with hyx hrest
     injection hyx with hy hx
     subst hy hx
     rw[lexLt_cons] at hR
     simp only[zt] at hlen
     obtain⟨e,he,hiff⟩:=zKW A.in1 ⟨hp,g,d,tk,os⟩ a t c u
     refine zA (he prog w _ _ ?_)
     cases e with
     | true=>
      rw[if_pos (hiff.mp rfl)] at hR
      wp_walk
      exact⟨rfl,rfl,_,_,_,_,hrest,hvi',hwi',by omega,hR⟩
     | false=>
      rw[if_neg (fun q=>absurd (hiff.mpr q) zm)] at hR
      have hri:=zJ4 A.in1 ⟨hp,g,d,tk,os⟩ a t c u prog w
      wp_walk using hri
      exact⟨_,rfl,by simpa using hR⟩
  case fin=>
   rintro ⟨b1,b2⟩ s' ⟨hb',rfl,vs,ws,ns',ms',hz,hvi,hwi,hlen,hR⟩
   simp only at hb'
   subst hb'
   have hv:lexLt ns' ms'=decide (items.size<items2.size):=by
    cases hvi with
    | nil=>
     cases hwi with
     | nil=>
      simp only[List.length_nil] at hlen
      rw[zEr]
      exact (zZ (by omega)).symm
     | cons c u hw=>
      simp only[List.length_nil,zt] at hlen
      rw[zD6]
      exact (zU (by omega)).symm
    | cons a t hv=>
     cases hwi with
     | nil=>
      simp only[List.length_nil,zt] at hlen
      rw[zD7]
      exact (zZ (by omega)).symm
     | cons c u hw=>
      rw[List.zip_cons_cons] at hz
      cases hz
   rw[hv] at hR
   wp_walk
   exact⟨_,rfl,by simpa [Builtin.Tuple.tupleCompareSizes] using hR⟩
  case h=>
   exact⟨rfl,rfl,items.toList,items2.toList,ns,ms,rfl,hi,hj,by omega,h⟩
end
section
variable {prog:Program}{w:World}{A:Around}{E:Value->Shared->Prop}{s:Shared}
theorem lt_tupInts {l b:Addr}{items items2:Array Value}{ns ms:List Int}{Q:Value->Shared->Prop}(hl:IsTup s.heap l items)(hb:IsTup s.heap b items2)(hi:IntsAre items.toList ns)(hj:IntsAre items2.toList ms)
 (hu:A.units<cLine)(h:Q (.bool (lexLt ns ms)) s):wpAny (model prog w) A (compareOp .Lt (.ref l) (.ref b)) Q E s:=by
 obtain⟨⟨cls,dd,data,sl⟩,ho,hc,n,hd⟩:=id hl
 obtain⟨⟨cls2,dd2,data2,sl2⟩,ho2,hc2,n2,hd2⟩:=id hb
 simp only at hc hd hc2 hd2
 subst hc hd hc2 hd2
 exact richCompare_meets_room (op:=.Lt) ⟨_,ho,rfl⟩ ⟨_,ho2,rfl⟩ PySem.F.slot_tuple_lt PySem.F.entry_tuple_lt (PySem.F.args_tuple_lt_2 _ _) (zEa l b items items2 n n2 dd dd2 sl sl2 ns ms hi hj)
  ⟨ho,ho2,show Value.bool (lexLt ns ms)≠Value.notImplemented/\Q (.bool (lexLt ns ms)) s from ⟨(fun x=>nomatch x),h⟩⟩ hu
theorem cat_tup {t b:Addr}{vs ws:List Value}{Q:Value->Shared->Prop}(ht:IsTup s.heap t vs.toArray)(hb:IsTup s.heap b ws.toArray)(hv:vs≠[])
 (h1:ws=[]->Q (.ref t) s)(h2:ws≠[]->Q (.ref s.heap.objs.size) { s with heap:=s.heap.push { cls:=.type "tuple",data:=.seq (vs++ws).toArray } })
 (hsz:vs.length+ws.length<=sizeLine):wpAny (model prog w) A (binaryOp .Add (.ref t) (.ref b)) Q E s:=by
 obtain⟨⟨cls,dd,data,sl⟩,ho,hc,n,hd⟩:=id ht
 obtain⟨⟨cls2,dd2,data2,sl2⟩,ho2,hc2,n2,hd2⟩:=id hb
 simp only at hc hd hc2 hd2
 subst hc hd hc2 hd2
 have e:vs.toArray++ws.toArray=(vs++ws).toArray:=by simp
 by_cases hw:ws=[]
 . exact concat_meets ⟨_,ho,rfl⟩ ⟨_,ho2,rfl⟩ noFill_tuple_add seq_tuple_add PySem.F.slot_tuple_add PySem.F.entry_tuple_add (PySem.F.args_tuple_add_2 _ _)
    (tuple_addW1 t b vs.toArray ws.toArray n n2 dd dd2 sl sl2 (by simpa using hv) (by simp[hw])) ⟨ho,ho2,h1 hw⟩
 . refine concat_meets ⟨_,ho,rfl⟩ ⟨_,ho2,rfl⟩ noFill_tuple_add seq_tuple_add PySem.F.slot_tuple_add PySem.F.entry_tuple_add (PySem.F.args_tuple_add_2 _ _)
    (tuple_addW2 t b vs.toArray ws.toArray n n2 dd dd2 sl sl2 (by simpa using hv) (by simpa using hw) (by rw[zc,zc];exact hsz)) ⟨ho,ho2,?_⟩
   rw[e]
   exact h2 hw
noncomputable def sIx (n d:Nat):Option Int->Nat
 | none=>d
 | some v=>if v<0 then (v+(n:Int)).toNat else min v.toNat n
theorem sIx_none (n d:Nat):sIx n d none=d:=rfl
theorem sIx_nat (n d k:Nat):sIx n d (some (k:Int))=min k n:=by
 show (if (k:Int)<0 then ((k:Int)+(n:Int)).toNat else min (k:Int).toNat n)=min k n
 rw[if_neg (by omega),zAF]
theorem sIx_le (n d:Nat)(hd:d<=n)(o:Option Int):sIx n d o<=n:=by
 cases o with
 | none=>exact hd
 | some v=>
  show (if v<0 then (v+(n:Int)).toNat else min v.toNat n)<=n
  by_cases hv:v<0
  . rw[if_pos hv];omega
  . rw[if_neg hv];exact Nat.min_le_right _ _
theorem zJI (v:Int)(n d:Nat):(if v<0 then max (v+(n:Int)) 0 else min v (n:Int))=((sIx n d (some v):Nat):Int):=by
 show (if v<0 then max (v+(n:Int)) 0 else min v (n:Int))=(((if v<0 then (v+(n:Int)).toNat else min v.toNat n):Nat):Int)
 by_cases hv:v<0
 . simp only[if_pos hv];omega
 . simp only[if_neg hv];omega
theorem zHh (lo hi:Option Int) (n:Nat):Builtin.Slice.sliceAdjust lo hi 1 (n:Int)=(((sIx n 0 lo:Nat):Int),((sIx n n hi:Nat):Int)):=by
 have h1:¬ ((1:Int)<0):=by omega
 unfold Builtin.Slice.sliceAdjust
 simp only[h1,if_false]
 refine Prod.ext ?_ ?_
 . cases lo with
   | none=>rfl
   | some v=>exact zJI v n 0
 . cases hi with
   | none=>rfl
   | some v=>exact zJI v n n
theorem zHL (i j:Nat):Builtin.Slice.slicePlaces (i:Int) (j:Int) 1=j-i:=by
 unfold Builtin.Slice.slicePlaces
 have h1:(1:Int) > 0:=by omega
 simp only[h1,if_true,Int.ediv_one]
 split <;> omega
theorem zEF {v:Value} {o:Option Int} {Q:Option Int->Shared->Prop} (p:IsPart v o) (h:Q o s):wpAny (model prog w) A (Builtin.Slice.slicePartIndex v) Q E s:=by
 cases p with
 | none=>exact slicePart_none h
 | int i t=>exact slicePart_int h
theorem zCZ {sl:Addr}{vl vu:Value}{lo hi:Option Int}{n:Nat}{Q:Int×Int×Nat->Shared->Prop}(hs:s.heap.IsSliceOf sl vl vu .none)(pl:IsPart vl lo)(pu:IsPart vu hi)
 (h:Q (((sIx n 0 lo:Nat):Int),1,sIx n n hi-sIx n 0 lo) s):wpAny (model prog w) A (Builtin.Slice.sliceApplied (.ref sl) (pure (n:Int))) Q E s:=by
 obtain⟨os,hos,hcs,hds⟩:=id hs
 unfold Builtin.Slice.sliceApplied Builtin.Slice.sliceFields
 refine zA (zA (wpAny_field hos hds (x:=vl) rfl (zA (wpAny_field hos hds (x:=vu) rfl (zA (wpAny_field hos hds (x:=.none) rfl (zG ?_)))))))
 refine zA (slicePart_none ?_)
 show wpAny _ _ (if ((1:Int)==0)=true then _ else _) _ _ s
 rw[if_neg (by decide)]
 refine zA (zEF pl (zA (zEF pu (zA (zG ?_)))))
 show wpAny _ _ (match Builtin.Slice.sliceAdjust lo hi 1 (n:Int) with | (lo,hi)=>pure (lo,(1:Int),Builtin.Slice.slicePlaces lo hi 1)) _ _ s
 rw[zHh lo hi n]
 show wpAny _ _ (pure (((sIx n 0 lo:Nat):Int),(1:Int),Builtin.Slice.slicePlaces ((sIx n 0 lo:Nat):Int) ((sIx n n hi:Nat):Int) 1)) _ _ s
 rw[zHL]
 exact zG h
theorem zKA (xs:Array Value)(i k:Nat):((List.range k).filterMap fun (m:Nat)=>xs[((i:Int)+(m:Int)*1).toNat]?).toArray=((xs.toList.drop i).take k).toArray:=by
 have e:(fun (m:Nat)=>xs[((i:Int)+(m:Int)*1).toNat]?)=fun m=>xs[i+m]?:=by
  funext m
  have:((i:Int)+(m:Int)*1).toNat=i+m:=by omega
  rw[this]
 rw[e]
 have:=pick_run xs i k
 rw[List.filterMap_map] at this
 have e2:((fun x=>xs[x]?)∘fun x=>i+x)=fun m=>xs[i+m]?:=rfl
 rw[e2] at this
 rw[this]
theorem getItem_tuple_cut {t sl:Addr}{items:Array Value}{vl vu:Value}{lo hi:Option Int}{Q:Value->Shared->Prop}(ht:IsTup s.heap t items)(hs:s.heap.IsSliceOf sl vl vu .none)(pl:IsPart vl lo)(pu:IsPart vu hi)
 (hw:¬ (sIx items.size 0 lo=0/\sIx items.size items.size hi=items.size))
 (h:Q (.ref s.heap.objs.size) { s with heap:=s.heap.push { cls:=.type "tuple",data:=.seq ((items.toList.drop (sIx items.size 0 lo)).take (sIx items.size items.size hi-sIx items.size 0 lo)).toArray } })
 (hsz:items.size<=sizeLine):wpAny (model prog w) A (getItem (.ref t) (.ref sl)) Q E s:=by
 have htake:sizeOk (.seq ((items.toList.drop (sIx items.size 0 lo)).take (sIx items.size items.size hi-sIx items.size 0 lo)).toArray):=by
  show ((items.toList.drop (sIx items.size 0 lo)).take (sIx items.size items.size hi-sIx items.size 0 lo)).toArray.size<=sizeLine
  rw[zc,zr,List.length_drop,Array.length_toList]
  omega
 have hj:sIx items.size items.size hi<=items.size:=sIx_le _ _ (zI _) hi
 obtain⟨os,hos,hcs,hds⟩:=id hs
 have hTs:s.TypeIs (.ref sl) "slice" := ⟨os,hos,hcs⟩
 unfold getItem
 try with_reducible refine zAR ?_
 first | refine zA (zG ?_) | skip
 refine zA (wpAny_sequenceKey ht.typeIs (by decide) ?_)
 refine zA (zA1 (name:=Str.ofString "__getitem__") ht.typeIs PyProof.Rows.slot_tuple_getitem
  (zA7 PyProof.Rows.slot_tuple_getitem ht.typeIs entry_tuple_getitem ?_ (args_tuple_getitem _ _)))
 show wpAny _ _ (Builtin.Tuple.tupleItemsOf (.ref t) >>= _) _ _ s
 refine zA (tupleItemsOf_ ht ?_)
 refine zA (wpAny_typeOf hTs ?_)
 rw[if_pos (by decide)]
 refine zA (zCZ hs pl pu ?_)
 have hno:¬ ((((sIx items.size 0 lo:Nat):Int)==0 && (1:Int)==1 && (sIx items.size items.size hi-sIx items.size 0 lo)==items.size)=true):=by
  intro q
  rw[Bool.and_eq_true,Bool.and_eq_true] at q
  have q1:((sIx items.size 0 lo:Nat):Int)=0:=eq_of_beq q.1.1
  have q2:sIx items.size items.size hi-sIx items.size 0 lo=items.size:=eq_of_beq q.2
  exact hw ⟨by omega,by omega⟩
 show wpAny _ _ (if (((sIx items.size 0 lo:Nat):Int)==0 && (1:Int)==1 && (sIx items.size items.size hi-sIx items.size 0 lo)==items.size)=true then _ else _) _ _ s
 rw[if_neg hno,zKA]
 first
  | exact zA (m:=Builtin.Tuple.tupleExact _) (zAs (zG ⟨_,rfl,zG h⟩) htake)
  | exact zA (m:=Builtin.Tuple.tupleExact _) (zAs (zA (zG (zG ⟨_,rfl,zG h⟩))) htake)
  | exact zA (zA (m:=Builtin.Tuple.tupleExact _) (zAs (zG (zG ⟨_,rfl,zG h⟩)) htake))
  | exact zA (zA (m:=Builtin.Tuple.tupleExact _) (zAs (zG ⟨_,rfl,zG h⟩) htake))
end
end HT
namespace L2
open PySem PySem.Spec PyProof.Rows
noncomputable abbrev TO:=St->Hp->(Option Int->Hp->Prop)->Prop
noncomputable def PO (X:Cx)(e:Option Expr)(t:TO):Prop:=
 ∀(pins:List (Addr×Obj))(s:Shared)(σ:St)(H:Hp)(Q:Option Int->Hp->Prop),Inv X pins σ H s->t σ H Q ->
  wpAny (model X.prog X.w) X.A (evalPart e X.env) (fun u s'=>∃o H',Inv X pins σ H' s'/\IsPart u o/\Q o H') X.xe s
noncomputable def zLH:TO:=fun _ H Q=>Q none H
noncomputable def tPart (t:TE):TO:=fun σ H Q=>t σ H fun x H1=>∃i,x = .int i/\Q (some i) H1
theorem zBc {ns:List Int}:∀{us:List Value},zBJ (ns.map V.int) us->IntsAre us ns:=by
 induction ns with
 | nil=>intro us r;rw[List.map_nil] at r;cases r;exact .nil
 | cons n ns ih=>
  intro us r
  rw[zz] at r
  cases r with
  | cons r1 r2=>
   obtain⟨t,e⟩:=r1
   subst e
   exact .cons n t (ih r2)
section
variable {X:Cx}{e:Expr}{te:TE}{lo hi:Option Expr}{tl th:TO}{pos p2:Pos}
theorem zF3:PO X none zLH:=by
 intro pins s σ H Q I h
 rw[evalPart_none]
 exact zG ⟨none,H,I,.none,h⟩
theorem zF2 (h:PE X e te):PO X (some e) (tPart te):=by
 intro pins s σ H Q I hw
 rw[evalPart_some]
 refine thn (h pins s σ H _ I hw) fun u s1 ⟨x,H1,I1,r1,q1⟩=>?_
 obtain⟨i,rfl,q⟩:=q1
 obtain⟨t,rfl⟩:=r1
 exact⟨some i,H1,I1,.int i t,q⟩
noncomputable def SlR (X:Cx)(r:V->Option Int->Option Int->Hp->VK->Prop):Prop:=
 ∀(pins:List (Addr×Obj))(s:Shared)(σ:St)(H:Hp)(x:V)(v vl vu:Value)(lo hi:Option Int)(sl:Addr)(Q:VK),Inv X pins σ H s->zBT x v->s.heap.IsSliceOf sl vl vu .none->IsPart vl lo->IsPart vu hi->r x lo hi H Q ->
  ∃T id,typeLookup (.type T) "__getitem__" = pure (some (.builtin id))/\s.TypeIs v T/\wpAny (model X.prog X.w) X.A (getItem v (.ref sl)) (EP X pins σ Q) X.xe s
noncomputable def tSl (r:V->Option Int->Option Int->Hp->VK->Prop)(te:TE)(tl th:TO):TE:=fun σ H Q=>te σ H fun x H1=>tl σ H1 fun l H2=>th σ H2 fun u H3=>r x l u H3 Q
theorem zEl {r:V->Option Int->Option Int->Hp->VK->Prop}(hr:SlR X r)(he:PE X e te)(hl:PO X lo tl)(hu:PO X hi th):PE X (.Subscript e (.Slice lo hi none p2) pos) (tSl r te tl th):=by
 intro pins s σ H Q I h
 refine Subscript_ (thn (he pins s σ H _ I h) fun v s1 ⟨x,H1,I1,r1,q1⟩=>?_)
 refine wpAny_Slice (thn (hl pins s1 σ H1 _ I1 q1) fun vl s2 ⟨l,H2,I2,pl,q2⟩=>thn (hu pins s2 σ H2 _ I2 q2) fun vu s3 ⟨u,H3,I3,pu,q3⟩=>?_)
 rw[evalPart_none]
 refine zG ?_
 have I4:Inv X pins σ H3 { s3 with heap:=s3.heap.push { cls:=.type "slice",data:=.fields #[vl,vu,.none] } }:=I3.kept (t':=s3.toks) fun b ob q=>zF _ q
 obtain⟨T,id,hT,ht,hg⟩:=hr pins { s3 with heap:=s3.heap.push { cls:=.type "slice",data:=.fields #[vl,vu,.none] } } σ H3 x v vl vu l u s3.heap.objs.size Q I4 r1 (Heap.IsSliceOf.new ..) pl pu q3
 show wpAny (model X.prog X.w) X.A (subscriptTail e (.Slice lo hi none p2) v (.ref s3.heap.objs.size)) (EP X pins σ Q) X.xe { s3 with heap:=s3.heap.push { cls:=.type "slice",data:=.fields #[vl,vu,.none] } }
 exact tail_any (ops:=[.ref s3.heap.objs.size,v]) ht hT hg (by with_unfolding_all rfl)
noncomputable def zFv (xs:List V)(lo hi:Option Int):List V:=(xs.drop (HT.sIx xs.length 0 lo)).take (HT.sIx xs.length xs.length hi-HT.sIx xs.length 0 lo)
theorem zDw (xs:List V)(lo hi:Option Int):(zFv xs lo hi).length<=xs.length:=by
 unfold zFv
 rw[zr,List.length_drop]
 omega
noncomputable def rSlT (K:PySem.W.Frag):V->Option Int->Option Int->Hp->VK->Prop:=fun x lo hi H Q=>∃a xs,x = .ref a/\SqT K H a xs /\
 ¬ (HT.sIx xs.length 0 lo=0/\HT.sIx xs.length xs.length hi=xs.length)/\∀p,H p=none->Q (.ref p) (upd H p (.tup (zFv xs lo hi)))
theorem sl_tup:SlR X (rSlT X.K):=by
 intro pins s σ H x v vl vu lo hi sl Q I rx hs pl pu h
 obtain⟨a,xs,rfl,hx,hw,q⟩:=h
 cases rx
 obtain⟨its,r,ht,hz⟩:=I.tuple hx
 have hlen:its.toArray.size=xs.length:=by rw[zc];exact r.length.symm
 refine⟨"tuple",_,PyProof.Rows.slot_tuple_getitem.lookup,ht.typeIs,?_⟩
 refine HT.getItem_tuple_cut ht hs pl pu (by rw[hlen];exact hw) ?_ (by rw[hlen];exact hz)
 rw[hlen]
 refine⟨.ref s.heap.objs.size,_,I.laid (t':=s.toks) (o:=.tup (zFv xs lo hi)) (fun b ob q=>zF _ q) (zI _) ?_,rfl,q _ (I.hok.fresh (zI _))⟩
 exact⟨⟨zAE (zDw xs lo hi) hz,_,zQ _ rfl,rfl⟩,_,(r.drop (HT.sIx xs.length 0 lo)).take (HT.sIx xs.length xs.length hi-HT.sIx xs.length 0 lo),IsTup.new _ _⟩
noncomputable def rCatT (K:PySem.W.Frag):R2:=fun x y H Q=>∃a b xs ys,x = .ref a/\y = .ref b/\SqT K H a xs/\SqT K H b ys/\xs≠[]/\xs.length+ys.length<=sizeLine /\
 (ys=[]->Q (.ref a) H)/\(ys≠[]->∀p,H p=none->Q (.ref p) (upd H p (.tup (xs++ys))))
theorem zBJ.nil_iff {xs:List V}{us:List Value}(r:zBJ xs us):us=[]↔xs=[]:=by
 cases r with
 | nil=>simp
 | cons _ _=>simp
theorem zLs:OpR X (binaryOp .Add) (rCatT X.K):=by
 intro pins s σ H x y v u Q I rx ry h
 obtain⟨a,b,xs,ys,rfl,rfl,ha,hb,hx,hz,q1,q2⟩:=h
 cases rx
 cases ry
 obtain⟨its,r1,p1,_⟩:=I.tuple ha
 obtain⟨its2,r2,p2,_⟩:=I.tuple hb
 refine HT.cat_tup p1 p2 (fun z=>hx (r1.nil_iff.mp z)) (fun z=>⟨.ref a,H,I,rfl,q1 (r2.nil_iff.mp z)⟩) (fun z=>?_) (by rw[<-r1.length,<-r2.length];exact hz)
 refine⟨.ref s.heap.objs.size,_,I.laid (t':=s.toks) (o:=.tup (xs++ys)) (fun b ob q=>zF _ q) (zI _) ?_,rfl,q2 (fun w=>z (r2.nil_iff.mpr w)) _ (I.hok.fresh (zI _))⟩
 exact⟨⟨by rw[zM];exact hz,_,zQ _ rfl,rfl⟩,_,r1.append r2,IsTup.new _ _⟩
end
end L2
namespace L2
open PySem PySem.Spec PyProof.Rows
noncomputable def ixN (n:Nat)(i:Int):Option Nat:=if 0<=i then (if i<n then some i.toNat else none) else if -(n:Int)<=i then some (i+n).toNat else none
noncomputable def atI {α:Type}(xs:List α)(i:Int):Option α:=(ixN xs.length i).bind fun j=>xs[j]?
theorem zIm {n:Nat}{i:Int}{j:Nat}(h:ixN n i=some j):seqIndex? i n=some j/\j<n /\ -(n:Int)<=i/\i<n:=by
 unfold ixN at h
 by_cases h0:0<=i
 . rw[if_pos h0] at h
   by_cases h1:i<n
   . rw[if_pos h1] at h
     have e:i.toNat=j:=zP h
     exact⟨by rw[seqIndex_of h0 h1,e],by omega,by omega,h1⟩
   . rw[if_neg h1] at h;cases h
 . rw[if_neg h0] at h
   by_cases h1 : -(n:Int)<=i
   . rw[if_pos h1] at h
     have e:(i+n).toNat=j:=zP h
     exact⟨by rw[seqIndex_neg (by omega) h1,e],by omega,h1,by omega⟩
   . rw[if_neg h1] at h;cases h
theorem zJP {α:Type}{xs:List α}{i:Int}{v:α}(h:atI xs i=some v):∃j,seqIndex? i xs.length=some j/\xs[j]? = some v/\j<xs.length /\ -(xs.length:Int)<=i/\i<xs.length:=by
 unfold atI at h
 cases e:ixN xs.length i with
 | none=>rw[e] at h;cases h
 | some j=>
  rw[e] at h
  obtain⟨h1,h2,h3,h4⟩:=zIm e
  exact⟨j,h1,h,h2,h3,h4⟩
theorem zBx {α:Type}{xs:List α}{j:Nat}{v:α}(h:xs[j]? = some v):atI xs (j:Int)=some v:=by
 have hj:j<xs.length:=(zK.mp h).1
 have e:ixN xs.length (j:Int)=some j:=by
  unfold ixN
  rw[if_pos (by omega),if_pos (by omega)];simp
 unfold atI;rw[e];exact h
theorem zG3 {α:Type}(xs:List α)(v:α):atI (xs++[v]) (-1)=some v:=by
 have hl:(xs++[v]).length=xs.length+1:=by simp
 have e:ixN (xs++[v]).length (-1)=some xs.length:=by
  unfold ixN
  rw[hl,if_neg (by decide),if_pos (by omega)]
  congr 1
  omega
 unfold atI
 rw[e]
 show (xs++[v])[xs.length]? = some v
 simp
noncomputable def zMd (b:Expr):Prop:=∀o i,subscripted b false o i=operate [o,i] (getItem o i)
noncomputable def IxR (X:Cx)(r:R2):Prop:=
 ∀(value slice:Expr)(pins:List (Addr×Obj))(s:Shared)(σ:St)(H:Hp)(x y:V)(v u:Value)(Q:VK),Inv X pins σ H s->zBT x v->zBT y u->r x y H Q ->
  subscripted slice false v u=operate [v,u] (getItem v u)->wpAny (model X.prog X.w) X.A (subscriptTail value slice v u) (EP X pins σ Q) X.xe s
noncomputable def MtR (X:Cx)(id:String)(r:V->List V->Hp->VK->Prop):Prop:=
 ∀(pins:List (Addr×Obj))(s:Shared)(σ:St)(H:Hp)(x:V)(xs:List V)(v:Value)(us:List Value)(Q:VK),Inv X pins σ H s->zBT x v->zBJ xs us->r x xs H Q ->
  wpAny (model X.prog X.w) X.A (call (.builtin id) (v::us)) (EP X pins σ Q) X.xe s
section
variable {X:Cx}{a b:Expr}{ta tb:TE}{pos:Pos}
theorem zAK {r:R2}(hr:IxR X r)(ha:PE X a ta)(hb:PE X b tb)(hs:zMd b):PE X (.Subscript a b pos) (tOp r ta tb):=by
 intro pins s σ H Q I h
 exact Subscript_ (binT ha hb I h fun v u s2 x y H2 I2 rx ry q=>hr a b pins s2 σ H2 x y v u Q I2 rx ry q (hs _ _))
noncomputable def rIxL (K:PySem.W.Frag):R2:=fun x y H Q=>∃p xs i v,x = .ref p/\y = .int i/\SqL K H p xs/\atI xs i=some v/\Q v H
noncomputable def rIxT (K:PySem.W.Frag):R2:=fun x y H Q=>∃p xs i v,x = .ref p/\y = .int i/\SqT K H p xs/\atI xs i=some v/\Q v H
theorem zAU:IxR X (rIxL X.K):=by
 intro value slice pins s σ H x y v u Q I rx ry h hs
 obtain⟨p,xs,i,z,rfl,rfl,hq,he,q⟩:=h
 cases rx
 obtain⟨t,rfl⟩:=ry
 obtain⟨its,r,pl,hz⟩:=I.list hq
 obtain⟨j,h1,h2,h3,h4,h5⟩:=zJP he
 obtain⟨w,ew,rw'⟩:=r.get h2
 have hl:=r.length
 have hn:=zFO
 have fin:EP X pins σ Q w s:=⟨z,H,I,rw',q⟩
 by_cases h0:0<=i
 . have hj:i.toNat=j:=by
    rw[seqIndex_of h0 h5] at h1
    exact zP h1
   exact item_listR pl.isList h0 (by omega) (by rw[hj];simpa using ew) fin hs
 . have hj:(i+(its.toArray.size:Int)).toNat=j:=by
    rw[seqIndex_neg (by omega) h4] at h1
    rw[zc,<-hl]
    exact zP h1
   exact subscriptTail_builtinR (x:=w) pl.isList.typeIs slot_list_getitem.lookup
    (wpAny_getItem_list_neg (Q:=fun r s'=>r=w/\EP X pins σ Q r s') pl.isList (by omega) (by rw[zc] <;> omega) (by omega) (by rw[hj];simpa using ew) ⟨rfl,fin⟩) hs
theorem zAp:IxR X (rIxT X.K):=by
 intro value slice pins s σ H x y v u Q I rx ry h hs
 obtain⟨p,xs,i,z,rfl,rfl,hq,he,q⟩:=h
 cases rx
 obtain⟨t,rfl⟩:=ry
 obtain⟨its,r,pl,hz⟩:=I.tuple hq
 obtain⟨j,h1,h2,h3,h4,h5⟩:=zJP he
 obtain⟨w,ew,rw'⟩:=r.get h2
 have hl:=r.length
 have hn:=zFO
 have fin:EP X pins σ Q w s:=⟨z,H,I,rw',q⟩
 exact subscriptTail_builtinR (x:=w) pl.typeIs slot_tuple_getitem.lookup
  (getItem_tuple (j:=j) (Q:=fun r s'=>r=w/\EP X pins σ Q r s') pl (by omega) (by omega) (by rw[zc,<-hl];exact h1) (by simpa using ew) ⟨rfl,fin⟩) hs
theorem zHU (its:List Value)(n j:Nat)(u:Value):Obj.mapSeq (·.setIfInBounds j u) { cls:=.type "list",data:=.seq its.toArray n }={ cls:=.type "list",data:=.seq (its.set j u).toArray n }:=by
 simp[Obj.mapSeq]
theorem Inv.lst {pins:List (Addr×Obj)}{σ:St}{H:Hp}{s:Shared}{p:Addr}{xs:List V}(I:Inv X pins σ H s)(h:H p=some (.lst xs)) :
 ∃(its:List Value)(n:Nat),zBJ xs its/\s.heap.get? p=some { cls:=.type "list",data:=.seq its.toArray n }/\xs.length<=sizeLine:=by
 obtain⟨z,its,n,r,e⟩:=I.hok p _ h
 exact⟨its,n,r,e,z⟩
theorem Inv.lstUpd {pins:List (Addr×Obj)}{σ:St}{H:Hp}{s:Shared}{p:Addr}{xs ys:List V}{its its':List Value}{n n':Nat}{f:Obj->Obj}(I:Inv X pins σ H s)(h:H p=some (.lst xs))
 (ho:s.heap.get? p=some { cls:=.type "list",data:=.seq its.toArray n }) (hf:f { cls:=.type "list",data:=.seq its.toArray n }={ cls:=.type "list",data:=.seq its'.toArray n' }) (r:zBJ ys its')(hz:ys.length<=sizeLine)(t:Nat) :
 Inv X pins σ (upd H p (.lst ys)) { s with heap:=s.heap.update p f,toks:=t }:=by
 have e:(s.heap.update p f).get? p=some { cls:=.type "list",data:=.seq its'.toArray n' }:=by
  rw[zAW f ho (by rw[hf] <;> rfl),hf]
 refine I.write (x:=p) (e:=p) (by rw[h];trivial) (.inl rfl) (fun b u hb q=>(Heap.get?_update_other _ _ (Ne.symm hb)).trans q) ⟨_,e⟩ ?_
 exact⟨hz,its',n',r,e⟩
noncomputable def rSetL:V->V->V->Hp->(Hp->Prop)->Prop:=fun o i v H Q=>∃p xs k j,o = .ref p/\i = .int k/\H p=some (.lst xs)/\ixN xs.length k=some j/\Q (upd H p (.lst (xs.set j v)))
theorem zBb:PSet X rSetL:=by
 intro pins s σ H o i v ov iv u Q I ro ri rv h
 obtain⟨p,xs,k,j,rfl,rfl,hp,hj,q⟩:=h
 cases ro
 obtain⟨t,rfl⟩:=ri
 obtain⟨its,n,r,ho,hz⟩:=I.lst hp
 obtain⟨h1,h2,h3,h4⟩:=zIm hj
 have hl:=r.length
 have hn:=zFO
 have I':Inv X pins σ (upd H p (.lst (xs.set j v))) { s with heap:=s.heap.update p (Obj.mapSeq (·.setIfInBounds j u)) }:=
  I.lstUpd hp ho (zHU its n j u) (r.set rv j) (by rw[zBh];exact hz) s.toks
 by_cases h0:0<=k
 . have hk:k.toNat=j:=by
    rw[seqIndex_of h0 h4] at h1
    exact zP h1
   exact PySem.W.ki_setAt ho h0 (by omega) (by rw[zc,<-hl];exact h4) (by rw[hk];exact⟨_,I',q⟩)
 . have hk:(k+(its.toArray.size:Int)).toNat=j:=by
    rw[seqIndex_neg (by omega) h3] at h1
    rw[zc,<-hl]
    exact zP h1
   exact PySem.W.ki_setBack ho (by omega) (by rw[zc,<-hl];exact h3) (by omega) (by rw[hk];exact⟨_,I',q⟩)
theorem zE7 (lo hi:Option Int)(n:Nat):(sliceBounds lo hi none n).1=((HT.sIx n 0 lo:Nat):Int)/\(sliceBounds lo hi none n).2.1=((HT.sIx n n hi:Nat):Int)/\(sliceBounds lo hi none n).2.2=1:=by
 refine⟨?_,?_,rfl⟩
 . cases lo with
   | none=>simp[sliceBounds,HT.sIx]
   | some i=>
    simp only[sliceBounds,HT.sIx,Option.getD_none,show (1:Int) > 0 by decide,if_true]
    by_cases h:i<0
    . simp only[h,if_true] <;> omega
    . simp only[h,if_false] <;> omega
 . cases hi with
   | none=>simp[sliceBounds,HT.sIx]
   | some i=>
    simp only[sliceBounds,HT.sIx,Option.getD_none,show (1:Int) > 0 by decide,if_true]
    by_cases h:i<0
    . simp only[h,if_true] <;> omega
    . simp only[h,if_false] <;> omega
theorem zEf (its:List Value)(lo hi:Option Int):slicePick its.toArray lo hi none=((its.drop (HT.sIx its.length 0 lo)).take (HT.sIx its.length its.length hi-HT.sIx its.length 0 lo)).toArray:=by
 obtain⟨h1,h2,h3⟩:=zE7 lo hi its.toArray.size
 unfold slicePick
 rw[h1,h2,h3]
 simp only[sliceRange_one,pick_run,zc] <;> rfl
noncomputable def rSlL (K:PySem.W.Frag):V->Option Int->Option Int->Hp->VK->Prop:=fun x lo hi H Q=>∃a xs,x = .ref a/\SqL K H a xs/\∀p,H p=none->Q (.ref p) (upd H p (.lst (zFv xs lo hi)))
theorem zLV:SlR X (rSlL X.K):=by
 intro pins s σ H x v vl vu lo hi sl Q I rx hs pl pu h
 obtain⟨a,xs,rfl,hx,q⟩:=h
 cases rx
 obtain⟨its,r,ht,hz⟩:=I.list hx
 have hlen:=r.length
 refine⟨"list",_,slot_list_getitem.lookup,ht.isList.typeIs,?_⟩
 refine wpAny_getItem_list_slice ht.isList hs pl pu .none (by simp) ?_ (by rw[zc] <;> omega)
 rw[zEf,<-hlen]
 refine⟨.ref s.heap.objs.size,_,I.laid (t':=s.toks) (o:=.lst (zFv xs lo hi)) (fun b ob q=>zF _ q) (zI _) ?_,rfl,q _ (I.hok.fresh (zI _))⟩
 exact⟨zAE (zDw xs lo hi) hz,_,0,(r.drop (HT.sIx xs.length 0 lo)).take (HT.sIx xs.length xs.length hi-HT.sIx xs.length 0 lo),zQ _ rfl⟩
theorem zAX:zCo X (.builtin "len") (fun xs H Q=>∃p ys,xs=[.ref p]/\(SqL X.K H p ys\/SqT X.K H p ys)/\Q (.int ys.length) H):=by
 intro pins s σ H xs us Q I r h
 obtain⟨p,ys,rfl,hq,q⟩:=h
 obtain⟨u,rfl,rx⟩:=zCn r
 cases rx
 have hn:=zFO
 rcases hq with hq | hq
 . obtain⟨its,r',pl,hz⟩:=I.list hq
   have hlen:=r'.length
   exact Calls.call_len_list pl.isList (by simp only[zc] <;> omega) ⟨.int ys.length,H,I.tok _,⟨s.toks+1,by rw[zc,hlen]⟩,q⟩
 . obtain⟨its,r',pl,hz⟩:=I.tuple hq
   have hlen:=r'.length
   exact len_tuple pl (by simp only[zc] <;> omega) ⟨.int ys.length,H,I.tok _,⟨s.toks+1,by rw[zc,hlen]⟩,q⟩
theorem zFl:zCo X (.type "list") (fun xs H Q=>∃p ys,xs=[.ref p]/\(SqL X.K H p ys\/SqT X.K H p ys)/\∀l,H l=none->Q (.ref l) (upd H l (.lst ys))):=by
 intro pins s σ H xs us Q I r h
 obtain⟨p,ys,rfl,hq,q⟩:=h
 obtain⟨u,rfl,rx⟩:=zCn r
 cases rx
 have fin:∀(its:List Value),zBJ ys its->ys.length<=sizeLine->∀(h':Heap)(c':Nat),(∀b o',s.heap.get? b=some o'->h'.get? b=some o') ->
  h'.get? s.heap.objs.size=some { cls:=.type "list",dict:=none,data:=.seq its.toArray c',slots:=#[] }->EP X pins σ Q (.ref s.heap.objs.size) { s with heap:=h' }:=fun its r' hz h' c' kp e=>
  ⟨.ref s.heap.objs.size,_,I.laid (t':=s.toks) kp (zI _) (show zBM X.prog X.w _ h' _ (.lst ys) from ⟨hz,its,c',r',e⟩),rfl,q _ (I.hok.fresh (zI _))⟩
 rcases hq with hq | hq
 . obtain⟨its,r',pl,hz⟩:=I.list hq
   have hlen:=r'.length
   obtain⟨o,ho,hc,n,hd⟩:=pl.isList
   exact call_list_seq p (.inl rfl) ho hc hd (fun h' c' kp e=>fin its r' hz h' c' kp e) (by simp only[zc] <;> omega)
 . obtain⟨its,r',pl,hz⟩:=I.tuple hq
   have hlen:=r'.length
   obtain⟨o,ho,hc,n,hd⟩:=pl
   exact call_list_seq p (.inr rfl) ho hc hd (fun h' c' kp e=>fin its r' hz h' c' kp e) (by simp only[zc] <;> omega)
theorem zAf:zCo X (.type "tuple") (fun xs H Q=>∃p ys,xs=[.ref p]/\((SqL X.K H p ys/\∀l,H l=none->Q (.ref l) (upd H l (.tup ys)))\/(SqT X.K H p ys/\Q (.ref p) H))):=by
 intro pins s σ H xs us Q I r h
 obtain⟨p,ys,rfl,h⟩:=h
 obtain⟨u,rfl,rx⟩:=zCn r
 cases rx
 rcases h with ⟨hq,q⟩ | ⟨hq,q⟩
 . obtain⟨its,r',pl,hz⟩:=I.list hq
   have hlen:=r'.length
   refine call_tuple_list pl.isList (fun h' kp=>?_) (by simp only[zc] <;> omega)
   have I1:Inv X pins σ H { s with heap:=h' }:=I.kept (t':=s.toks) kp
   have I2:Inv X pins σ (upd H h'.objs.size (.tup ys)) { s with heap:=h'.push { cls:=.type "tuple",data:=.seq its.toArray } }:=
    I1.laid (t':=s.toks) (fun b o e=>zF _ e) (zI _) (show zBM X.prog X.w _ _ _ (.tup ys) from ⟨⟨hz,_,zQ _ rfl,rfl⟩,its,r',IsTup.new _ _⟩)
   exact⟨.ref h'.objs.size,_,I2,rfl,q _ (I1.hok.fresh (zI _))⟩
 . obtain⟨its,r',pl,hz⟩:=I.tuple hq
   exact call_tuple_same pl ⟨.ref p,H,I,rfl,q⟩
noncomputable def tyV (K:PySem.W.Frag)(T:String)(x:V)(H:Hp):Prop:=match x with
 | .str _=>T = "str"
 | .int _=>T = "int"
 | .ref p=>(T = "list" /\ ∃xs,SqL K H p xs)\/(T = "tuple" /\ ∃o,K.lookup p=some o/\o.cls = .type "tuple" /\ o.dict=none) \/
  (T = "dict" /\ ((∃kvs,H p=some (.dK kvs))\/∃kvs,H p=some (.dT kvs)))\/(T = "set" /\ ∃S n,H p=some (.set S n))
 | _=>False
theorem tyV_is {pins:List (Addr×Obj)}{σ:St}{H:Hp}{s:Shared}{T:String}{x:V}{v:Value}(I:Inv X pins σ H s)(r:zBT x v)(ty:tyV X.K T x H) :
 s.TypeIs v T/\∀a,v = .ref a->∃ob,s.heap.get? a=some ob/\ob.dict=none:=by
 cases x with
 | str z=>
  obtain⟨t,rfl⟩:=r
  cases (show T = "str" from ty)
  exact⟨typeIs_str s z t,fun _ e=>nomatch e⟩
 | int i=>
  obtain⟨t,rfl⟩:=r
  cases (show T = "int" from ty)
  exact⟨typeIs_int s i t,fun _ e=>nomatch e⟩
 | ref p=>
  cases r
  rcases ty with ⟨rfl,xs,hq⟩ | ⟨rfl,o,hk,hc,hd⟩ | ⟨rfl,hk⟩ | ⟨rfl,S,n,hk⟩
  . obtain⟨its,_,pl,_⟩:=I.list hq
    refine⟨pl.isList.typeIs,fun a e=>?_⟩
    cases e
    obtain⟨o,n,e,c,hd,_⟩:=pl
    exact⟨o,e,hd⟩
  . refine⟨⟨o,I.kIn p o hk,hc⟩,fun a e=>?_⟩
    cases e
    exact⟨o,I.kIn _ o hk,hd⟩
  . have z:∃o,s.heap.get? p=some o/\o.ExactDict:=by
     rcases hk with ⟨kvs,hk⟩ | ⟨kvs,hk⟩
     . obtain⟨_,_,_,_,o,_,_,e,ex,_⟩:=I.hok p _ hk
       exact⟨o,e,ex⟩
     . obtain⟨_,_,_,_,o,_,_,e,ex,_⟩:=I.hok p _ hk
       exact⟨o,e,ex⟩
    obtain⟨o,e,ex⟩:=z
    refine⟨⟨o,e,ex.1⟩,fun a e2=>?_⟩
    cases e2
    exact⟨o,e,ex.2.1⟩
  . obtain⟨o,_,_,_,e,ex,_⟩:=I.hok p _ hk
    refine⟨⟨o,e,ex.1⟩,fun a e2=>?_⟩
    cases e2
    exact⟨o,e,ex.2.1⟩
 | _=>exact False.elim ty
noncomputable def tBM (K:PySem.W.Frag)(T:String)(r:V->List V->Hp->VK->Prop)(to:TE)(t:TA):TE:=fun σ H Q=>to σ H fun x H1=>tyV K T x H1/\t σ H1 fun xs H2=>r x xs H2 Q
variable {o e:Expr}{es:List Expr}{to:TE}{t:TA}{name:Str}{apos cpos:Pos}{T id:String}{r:V->List V->Hp->VK->Prop}
theorem zD4 (pa:PlainAttrs T)(slot:Slot T name id)(hty:typeOf (.builtin id)=pure (.type "method_descriptor")) (hm:MtR X id r)(ho:PE X o to)(ha:PA X (e::es) t)
 (hbase:attributeBase o name X.env (eval o X.env)=eval o X.env:=by rfl)
 (hfew:((backTo cpos (starEach (e::es) X.env)).all (fun x=>!x.1) && (backToKw cpos (keywordEach [] X.env)).all (fun x=>x.1.isSome)
  && decide ((e::es).length+([]:List Keyword).length+(if ([]:List Keyword).isEmpty then 0 else 1)<30))=true:=by rfl)
 (hline:(apos.endLine==cpos.line)=true:=by rfl)(hs:starEach (e::es) X.env=(false,eval e X.env)::starEach es X.env:=by rfl)(hplain:(backTo cpos (starEach es X.env)).any (·.1)=false:=by rfl) :
 PE X (.Call (.Attribute o name apos) (e::es) [] cpos) (tBM X.K T r to t):=by
 intro pins s σ H Q I h
 refine wpAny_Call_method_late hbase hfew hline rfl (thn (ho pins s σ H _ I h) fun v s1 ⟨x,H1,I1,r1,ty,q1⟩=>?_)
 obtain⟨h1,h2⟩:=tyV_is I1 r1 ty
 refine⟨T,id,pa,slot,hty,h1,h2,?_⟩
 have hA:=ha cpos pins s1 σ H1 _ I1 q1
 rw[hs] at hA ⊢
 refine Calls.callWith_builtin (by show (false || (backTo cpos (starEach es X.env)).any (·.1))=false;rw[hplain] <;> rfl) (Calls.evalArgs_plain ?_)
 exact thn hA fun us s2 ⟨vs,H2,I2,r2,q2⟩=>hm pins s2 σ H2 x vs v us Q I2 r1 r2 q2
end
end L2
namespace L2
open PySem PySem.Spec PyProof.Rows
noncomputable def MtM (X:Cx)(id:String)(r:V->List V->Hp->VK->Prop):Prop:=
 ∀(pins:List (Addr×Obj))(s:Shared)(σ:St)(H:Hp)(x:V)(xs:List V)(v:Value)(us:List Value)(Q:VK),Inv X pins σ H s->zBT x v->zBJ xs us->r x xs H Q ->
  wpAny (model X.prog X.w) X.A (call (.builtin id) (v::us)) (EP X pins σ Q) X.xe s
theorem zBJ.one:∀{x:V}{us:List Value},zBJ [x] us->∃u,us=[u]/\zBT x u
 | _,_,.cons r .nil=>⟨_,rfl,r⟩
theorem zBJ.eraseIdx:∀{xs:List V}{us:List Value}(i:Nat),zBJ xs us->zBJ (xs.eraseIdx i) (us.eraseIdx i)
 | _,_,_,.nil=>.nil
 | _,_,0,.cons _ t=>t
 | _,_,i+1,.cons r t=>.cons r (zBJ.eraseIdx i t)
theorem zBJ.rep {xs:List V}{us:List Value}(h:zBJ xs us):∀k:Nat,zBJ (List.replicate k xs).flatten (List.replicate k us).flatten
 | 0=>.nil
 | k+1=>by
  rw[zAx,zAx,List.flatten_cons,List.flatten_cons]
  exact zBJ.append h (zBJ.rep h k)
theorem zFP {α:Type}:∀(l:List α)(i:Nat),(l.eraseIdx i).length<=l.length
 | [],_=>zI _
 | _::_,0=>zA3 _
 | _::r,i+1=>Nat.succ_le_succ (zFP r i)
theorem zFX (its:List Value):∀(k:Nat)(acc:List Value),
 List.foldl (fun x1 x2=>x1++x2) acc.toArray (List.replicate k its.toArray)=(acc++(List.replicate k its).flatten).toArray
 | 0,acc=>by simp
 | k+1,acc=>by
  have e:acc.toArray++its.toArray=(acc++its).toArray:=by simp
  have e2:(acc++its)++(List.replicate k its).flatten=acc++(List.replicate (k+1) its).flatten:=by
   rw[zAx,List.flatten_cons,List.append_assoc]
  rw[<-e2,<-zFX its k (acc++its),<-e,zAx,List.foldl_cons]
section
variable {X:Cx}{pins:List (Addr×Obj)}{σ:St}{H:Hp}{s:Shared}{l b:Addr}{xs ys zs:List V}
theorem Inv.lset {its its':List Value}{n:Nat}{f:Array Value->Array Value}{t':Nat}(I:Inv X pins σ H s)(hH:H l=some (.lst xs))
 (e:s.heap.get? l=some { cls:=.type "list",data:=.seq its.toArray n }) (hf:f its.toArray=its'.toArray)(hv:zBJ ys its')(hz:ys.length<=sizeLine) :
 Inv X pins σ (upd H l (.lst ys)) { s with heap:=s.heap.update l (Obj.mapSeq f),toks:=t' }:=by
 have q:=PySem.IsL.update e f
 rw[hf] at q
 refine I.write (x:=l) (e:=l) (by rw[hH];exact trivial) (.inl rfl) (fun b' u hb hu=>(Heap.get?_update_other s.heap (Obj.mapSeq f) (Ne.symm hb)).trans hu) ⟨_,q⟩ ?_
 exact⟨hz,its',_,hv,q⟩
theorem Inv.lnew {its:List Value}{t':Nat}(I:Inv X pins σ H s)(hv:zBJ ys its)(hz:ys.length<=sizeLine) :
 Inv X pins σ (upd H s.heap.objs.size (.lst ys)) { s with heap:=s.heap.push { cls:=.type "list",data:=.seq its.toArray },toks:=t' }:=
 I.laid (fun _ _ q=>zF _ q) (zI _) ⟨hz,its,0,hv,zQ _ rfl⟩
theorem Inv.fresh (I:Inv X pins σ H s):H s.heap.objs.size=none:=I.hok.fresh (zI _)
theorem Inv.lstM (I:Inv X pins σ H s)(hH:H l=some (.lst xs)):xs.length<=sizeLine/\∃(its:List Value)(n:Nat),zBJ xs its/\xs.length=its.length/\s.heap.get? l=some { cls:=.type "list",data:=.seq its.toArray n }:=by
 obtain⟨z,its,n,r,e⟩:=I.hok l _ hH
 exact⟨z,its,n,r,r.length,e⟩
theorem zGk {n:Nat}(h:n<=sizeLine):Builtin.List.listTooLong n=false:=by
 unfold Builtin.List.listTooLong
 exact zZ (by omega)
end
section
variable {X:Cx}
noncomputable def zLh:V->List V->Hp->VK->Prop:=fun x vs H Q=>∃l xs y,x = .ref l/\vs=[y]/\H l=some (.lst xs)/\xs.length<sizeLine/\Q .non (upd H l (.lst (xs++[y])))
theorem zBi:MtM X "list.append" zLh:=by
 intro pins s σ H x vs v us Q I rx rv h
 obtain⟨l,xs,y,rfl,rfl,hH,hz,q⟩:=h
 cases rx
 obtain⟨u,rfl,ru⟩:=rv.one
 obtain⟨z,its,n,r,hl,e⟩:=I.lstM hH
 refine call_meets F.slot_list_append ⟨_,e,rfl⟩ F.entry_list_append (F.args_list_append_2 _ _) (PySem.list_append l its.toArray n u (by rw[zc];omega)) ⟨e,?_⟩
 refine⟨.non,_,I.lset (its':=its++[u]) hH e (by simp) (r.append (.cons ru .nil)) ?_,rfl,q⟩
 rw[zM,zAz]
 omega
noncomputable def zLg:V->List V->Hp->VK->Prop:=fun x vs H Q=>∃l b xs zs,x = .ref l/\vs=[.ref b]/\H l=some (.lst xs)/\H b=some (.lst zs)/\xs.length+zs.length<=sizeLine/\Q .non (upd H l (.lst (xs++zs)))
theorem zIY:MtM X "list.extend" zLg:=by
 intro pins s σ H x vs v us Q I rx rv h
 obtain⟨l,b,xs,zs,rfl,rfl,hH,hB,hz,q⟩:=h
 cases rx
 obtain⟨u,rfl,ru⟩:=rv.one
 cases ru
 obtain⟨z,its,n,r,hl,e⟩:=I.lstM hH
 obtain⟨z2,its2,n2,r2,hl2,e2⟩:=I.lstM hB
 have hsz:its.toArray.size+its2.toArray.size<=sizeLine:=by rw[zc,zc];omega
 have hlong:¬ (!its.toArray.isEmpty && Builtin.List.listTooLong (its.toArray.size+its2.toArray.size))=true:=by
  rw[zGk hsz,Bool.and_false]
  exact zm
 refine call_meets F.slot_list_extend ⟨_,e,rfl⟩ F.entry_list_extend (F.args_list_extend_2 _ _)
  (AutoSeq1.list_extend_list_list_0 l its.toArray n b its2.toArray n2 hlong (by rw[zc];omega) (by omega)) ⟨e,e2,?_⟩
 refine⟨.non,_,I.lset (its':=its++its2) hH e (by simp) (r.append r2) ?_,rfl,q⟩
 rw[zM]
 omega
noncomputable def rPopAt:V->List V->Hp->VK->Prop:=fun x vs H Q=>∃l xs i k y,x = .ref l/\vs=[.int i]/\H l=some (.lst xs) /\ -(2 ^ 63)<=i/\i<2 ^ 63/\seqIndex? i xs.length=some k/\xs[k]? = some y/\Q y (upd H l (.lst (xs.eraseIdx k)))
theorem zKJ:MtM X "list.pop" rPopAt:=by
 intro pins s σ H x vs v us Q I rx rv h
 obtain⟨l,xs,i,k,y,rfl,rfl,hH,h1,h2,hk,hy,q⟩:=h
 cases rx
 obtain⟨u,rfl,ru⟩:=rv.one
 obtain⟨t,rfl⟩:=ru
 obtain⟨z,its,n,r,hl,e⟩:=I.lstM hH
 obtain⟨w,hw,rw'⟩:=r.get hy
 refine call_meets F.slot_list_pop ⟨_,e,rfl⟩ F.entry_list_pop (F.args_list_pop_2 _ _)
  (MeetsSeq.list_pop_at l its.toArray n i t k w (fitsIndex_both h1 h2) (by rw[zc,<-hl];exact hk) (by rw[<-Array.getElem?_toList];exact hw) (by rw[zc];omega)) ⟨e,?_⟩
 refine⟨y,_,I.lset (its':=its.eraseIdx k) hH e ?_ (r.eraseIdx k) ?_,rw',q⟩
 . show its.toArray.eraseIdxIfInBounds k=(its.eraseIdx k).toArray
   rw[List.eraseIdxIfInBounds_toArray]
 . have:=zFP xs k
   omega
noncomputable def rRep:R2:=fun x y H Q=>∃l k xs,x = .ref l/\y = .int k/\H l=some (.lst xs) /\ -(2 ^ 63)<=k/\k<2 ^ 63/\xs.length*k.toNat<=sizeLine /\
 ∀p,H p=none->Q (.ref p) (upd H p (.lst (List.replicate k.toNat xs).flatten))
theorem zMH {α:Type}(xs:List α)(k:Nat):(List.replicate k xs).flatten.length=k*xs.length:=by
 induction k with
 | zero=>simp
 | succ k ih=>rw[zAx,List.flatten_cons,zM,ih,Nat.succ_mul,Nat.add_comm]
theorem zIO:OpR X (binaryOp .Mult) rRep:=by
 intro pins s σ H x y v u Q I rx ry h
 obtain⟨l,k,xs,rfl,rfl,hH,h1,h2,hz,q⟩:=h
 cases rx
 obtain⟨t,rfl⟩:=ry
 obtain⟨z,its,n,r,hl,e⟩:=I.lstM hH
 have hlen:its.toArray.size*k.toNat<=sizeLine:=by rw[zc,<-hl];exact hz
 have hcap:¬ its.toArray.size*k.toNat > (2 ^ 63-1)/8:=by
  have:(sizeLine:Nat)<=(2 ^ 63-1)/8:=by decide
  omega
 have hfit:¬ (!Builtin.List.listFitsIndex k)=true:=by
  rw[fitsIndex_both h1 h2]
  exact zm
 have hlong:¬ Builtin.List.listTooLong (its.toArray.size*k.toNat)=true:=by
  rw[zGk hlen]
  exact zm
 have hnew:List.foldl (fun x1 x2=>x1++x2) #[] (List.replicate (if its.toArray.isEmpty=true then 0 else k.toNat) its.toArray)=(List.replicate k.toNat its).flatten.toArray:=by
  have f0:∀m:Nat,List.foldl (fun x1 x2=>x1++x2) #[] (List.replicate m its.toArray)=(List.replicate m its).flatten.toArray:=fun m=>by
   have:=zFX its m []
   rw[List.nil_append] at this
   exact this
  rw[f0]
  cases its with
  | nil=>simp
  | cons a r'=>rw[if_neg (by simp)]
 refine wpAny_binaryOp_repeat_ref (T := "list") (U := "int") (by decide) ⟨_,e,rfl⟩ (fun s'=>typeIs_int s' k t) noFill_list_mul F.fills_int_mul F.slot_int_rmul repeat_list F.slot_int_index.lookup
  (call_meets F.slot_int_rmul (typeIs_int s k t) F.entry_int_rmul (F.args_int_rmul_2 _ _) (int___rmul___int_list k t l its.toArray n)
   ⟨e,rfl,⟨_,e,rfl⟩,call_meets F.slot_list_mul ⟨_,e,rfl⟩ F.entry_list_mul (F.args_list_mul_2 _ _) (AutoListH.list___mul___list_int_3 l its.toArray n k t hfit hcap hlong) ⟨e,?_⟩⟩)
 rw[hnew]
 exact⟨.ref _,_,I.lnew (t':=s.toks) (r.rep k.toNat) (by rw[zMH,Nat.mul_comm];exact hz),rfl,q _ I.fresh⟩
end
section
variable {prog:Program}{w:World}{A:Around}{E:Value->Shared->Prop}{s:Shared}
set_option maxRecDepth 100000 in
end
section
variable {X:Cx}
end
end L2
namespace Att
open PySem PySem.W PySem.Calls PyProof.Rows
theorem zDs {P:Params}{h:Heap}:∀(ns:List Int)(vs:List Value),WellAll P h vs (ns.map WData.int)->IntsAre vs ns:=by
 intro ns
 induction ns with
 | nil=>
  intro vs w
  rw[List.map_nil] at w
  cases w
  exact .nil
 | cons n ns ih=>
  intro vs w
  rw[zz] at w
  cases w with
  | cons a b=>
   cases a
   exact .cons _ _ (ih _ b)
theorem zH8 {l:OpenLaw}{n:Nat}(hn:l.most=some n){P:Params}{h:Heap}{args:List WData}{vals:List Value}
 (hpre:l.row.toRowW.claim.pre args=true)(hwl:WellAll P h vals args) :
 ∃a vs ns,vals=[Value.ref a]/\args=[WData.list (ns.map WData.int)]/\h.get? a=some { cls:=.type "list",data:=.seq vs.toArray }/\IntsAre vs ns/\ns.length<=n:=by
 have hsh:WShape.hasAll [] args [.list .int]=true:=(pre_splitW hpre).1
 have hc:l.pre.holds [] { args:=args }=true:=(pre_splitW hpre).2
 obtain⟨d,r,rfl,h1,h2⟩:=hasAllW_cons hsh
 obtain rfl:=hasAllW_nil h2
 obtain⟨xs,rfl,h3⟩:=hasW_list h1
 obtain⟨ns,rfl⟩:=items_int h3
 have hlen:ns.length<=n:=by
  unfold OpenLaw.pre at hc
  have h4:(WTm.not (.lt (.lit (.int (n:Int))) (.len (.arg 0)))).holds [] { args:=[.list (ns.map .int)] }=true:=by
   have h4:=(holds_andW hc).1
   rw[hn] at h4
   exact h4
  have h5:=condW_of h4 (w_not (w_lt w_lit (w_len_list (w_arg rfl))))
  rw[zB] at h5
  refine Nat.le_of_not_lt fun q=>?_
  have q':(n:Int)<((ns.length:Nat):Int):=by omega
  first
   | (rw[zU q'] at h5;exact absurd h5 (by decide))
   | (simp at h5;omega)
 cases hwl with
 | cons w1 w2=>
  cases w2
  cases w1 with
  | list ho hall=>exact⟨_,_,ns,rfl,rfl,ho,zDs ns _ hall,hlen⟩
theorem zII (l:OpenLaw)(args:List WData):l.row.toRowW.claim.post args (.bool true) args=true:=
 postW_of (r:=l.row.toRowW) (X:=(true==true))
  (show WShape.has [] (.bool true) .bool=true by first | rfl | decide | simp[WShape.has,WShape.arms,WShape.armsAll])
  (show (WTm.eq .res (.lit (.bool true))).value [] { args:=args,res:=some (.bool true),after:=args }=some (.bool (true==true)) from w_eq_bool (w_res rfl) w_lit) rfl
theorem attach_call {l:OpenLaw}{n:Nat}{q:Program}{loose:List Str}{XP:(Str->Option Value)->Heap->Prop}{YP:World->Heap->Prop}{d:DefRec}
 (hn:l.most=some n)(hdf:d.params.defaults=[])
 (call:∀(w:World)(s₀ s₁:Shared)(mg mb:Str->Option Value)(fa:Addr)(o:Obj)(pm cd doc:Value)(a:Addr)(vs:List Value)(ns:List Int),
  Ground q loose [] XP w s₀ mg mb s₁.heap->YP w s₁.heap ->
  s₁.heap.get? fa=some o->o.data = .func (docDef d.name d.params d.body d.scope pm cd doc)->s₁.heap.CodeRec cd d.name->mg d.name=some (.ref fa) ->
  s₁.heap.get? a=some { cls:=.type "list",data:=.seq vs.toArray }->IntsAre vs ns->ns.length<=n->s₁.gens = #[] ->
  codeAny (model l.prog w) callerA (.call (.ref fa) ⟨[.ref a],[]⟩) (fun r s'=>r = .ok (.ret (.bool true))/\OldK s₁.heap s'.heap/\s'.os=s₁.os/\AllBare s'.gens) s₁) :
 WalkO q loose XP YP l.row.toRowW d [] (fun f vs=>PySem.call f vs):=by
 intro w s₀ s₁ mg mb G Y fa o pm cd doc dV kV ho hd hcd hD hmg hg args vals as hpre hlay hrd hwl hlo
 obtain rfl:dV = .none:=Dflts.none hD hdf
 obtain rfl:kV = .none:=Dflts.noKw hD
 obtain⟨a,vs,ns,rfl,rfl,hobj,hints,hlen⟩:=zH8 hn hpre hwl
 refine enter_call (codeAny_mono (call w s₀ s₁ mg mb fa o pm cd doc a vs ns G Y ho (fd_plain hd) hcd hmg hobj hints hlen hg) fun r s' hq=>?_)
 obtain⟨rfl,h2,h3,h4⟩:=hq
 exact⟨.inl ⟨.bool true,.bool true,[],rfl,fun _=>rfl,.bool true,zII l _,fun _=>⟨List.Pairwise.nil,fun _ hm=>(nomatch hm)⟩⟩,h2,h3,h4⟩
section
variable {prog:Program}{w:World}{A:Around}{E:Value->Shared->Prop}{s:Shared}{K:Frag}
end
end Att
namespace L2
open PySem PySem.Spec PyProof.Rows
theorem zE2:∀{vs:List Value}{ns:List Int},IntsAre vs ns->zBJ (ns.map V.int) vs
 | _,_,.nil=>.nil
 | _,_,.cons n t h=>.cons ⟨t,rfl⟩ (zE2 h)
end L2
namespace L2
open PySem PySem.Spec PyProof.Rows
end L2
namespace L2
open PySem PySem.Spec PyProof.Rows
noncomputable def defArgs (s:Stmt):Arguments:=match s with
 | .FunctionDef _ a _ _ _ _ _ _ _ _=>a
 | _=>{ posonlyargs:=[],args:=[],vararg:=none,kwonlyargs:=[],kw_defaults:=[],kwarg:=none,defaults:=[] }
noncomputable def defBody (s:Stmt):List Stmt:=match s with
 | .FunctionDef _ _ b _ _ _ _ _ _ _=>b
 | _=>[]
noncomputable def defScope (s:Stmt):Scope:=match s with
 | .FunctionDef _ _ _ _ _ _ sc _ _ _=>sc
 | _=>{ kind:=.function,names:=[],isGenerator:=false,isCoroutine:=false }
noncomputable abbrev CX0:CXT:=fun _ _ _ _ _ _=>False
noncomputable abbrev E0:XK:=fun _ _ _=>False
theorem zAS {X:Cx}:zJU CX0 X E0:=fun _ _ _ _ _ _ _ h=>h.elim
structure Fun (K:PySem.W.Frag)(x qual:Str)(st:Stmt)(f:Addr)(fd:FuncData):Prop where
 ex:∃(oc:Value)(od:Option Addr)(kV doc pm:Value)(an:Option Addr)(cdv ct:Value)(osl:Array (Option Value)),
  fd=PySem.W.fnOf x qual (defArgs st) (defBody st) (defScope st) .none kV doc pm an cdv ct/\K.lookup f=some ⟨oc,od,.func fd,osl⟩/\PySem.W.codeIn K cdv qual=true
 kp:PySem.W.keepIn K (.ref f)=true
section
variable {P:Program}{w:World}{K:PySem.W.Frag}{mg:Str->Option Value}{base:Heap}
theorem Fun.ok {x qual:Str}{st:Stmt}{f:Addr}{fd:FuncData}{N ps:List Str}{k:Nat}{sp:Sp}(F:Fun K x qual st f fd)(S:zAB N ps (defScope st))(len:∀vs H Q E,sp vs H Q E->vs.length=ps.length)
 (hbody:∀(cdv:Value)(A:Around)(outer:List Env)(s:Shared)(H:Hp)(vs:List V)(Q:VK)(E:XK),zCq k (A.deeper (envOfC qual (defScope st) s.heap.objs.size f cdv))->sp vs H Q E ->
  ∃t,PSs (zJb CX0 P w K mg base N qual (defScope st) f cdv A outer s H E).nox (defBody st) t/\t { nx:=fun _ H'=>Q .non H',rt:=Q } (start N vs) H):zAb P w K mg base CX0 (k+1) f fd ps sp:=by
 obtain⟨oc,od,kV,doc,pm,an,cdv,ct,osl,rfl,lk,hcd⟩:=F.ex
 refine zMU lk hcd S len fun A outer s H vs Q E hr hsp=>?_
 obtain⟨t,h,q⟩:=hbody cdv A outer s H vs Q E hr hsp
 exact⟨t,h.nox,q⟩
theorem Fun.binds {x qual:Str}{st:Stmt}{f:Addr}{fd:FuncData}{ps:List Str}(F:Fun K x qual st f fd)
 (h:∀(kV doc pm:Value)(an:Option Addr)(cdv ct:Value)(us:List Value),us.length=ps.length->bindArgs (PySem.W.fnOf x qual (defArgs st) (defBody st) (defScope st) .none kV doc pm an cdv ct) ⟨us,[]⟩=pure (ps.zip us)):zAA K fd ps []:=by
 obtain⟨oc,od,kV,doc,pm,an,cdv,ct,osl,rfl,lk,hcd⟩:=F.ex
 exact .all (h kV doc pm an cdv ct)
theorem zK9 {x qual:Str}{st:Stmt}{f:Addr}{oc:Value}{od an:Option Addr}{osl:Array (Option Value)}{kV doc pm cdv ct:Value}(l:K.lookup f=some ⟨oc,od,.func (PySem.W.fnOf x qual (defArgs st) (defBody st) (defScope st) .none kV doc pm an cdv ct),osl⟩)
 (c:PySem.W.codeIn K cdv qual=true)(k:PySem.W.keepIn K (.ref f)=true):Fun K x qual st f (PySem.W.fnOf x qual (defArgs st) (defBody st) (defScope st) .none kV doc pm an cdv ct):=⟨⟨oc,od,kV,doc,pm,an,cdv,ct,osl,rfl,l,c⟩,k⟩
end
theorem zMQ {A:Around}{k:Nat}(hr:zCq k A):A.units+1<cLine:=zAD (Nat.add_le_add_left (by decide:1<=64) _) hr.units
section
variable {X:Cx}
theorem pv (i:Nat){x:Str}{pos:Pos}(hN:X.N[i]? = some x:=by rfl)(hv:Vis X.env.scope x:=by first | exact Or.inl rfl | exact Or.inr (Or.inl rfl) | exact Or.inr (Or.inr rfl))(hd:(x==("__debug__" : Str))=false:=by decide)
 (hcd:(x==("__classdict__" : Str))=false:=by decide):PE X (.Name x pos) (tVar i):=pe_var hN hv hd hcd
end
theorem zD2 {A B:Prop}(h:B):if false=true then A else B:=by
 rw[if_neg zm]
 exact h
theorem zGq {A B:Prop}(h:A):if true=true then A else B:=by
 rw[if_pos rfl]
 exact h
theorem zFT {c A B:Prop} [Decidable c] (h1:c->A)(h2:¬ c->B):if c then A else B:=by
 by_cases h:c
 . rw[if_pos h]
   exact h1 h
 . rw[if_neg h]
   exact h2 h
noncomputable def zAy (H H':Hp):Prop:=∀b o,H b=some o->H' b=some o
theorem zAy.refl (H:Hp):zAy H H:=fun _ _ h=>h
theorem zAy.trans {H H1 H2:Hp}(a:zAy H H1)(b:zAy H1 H2):zAy H H2:=fun c o h=>b c o (a c o h)
end L2
namespace L2
open PySem PySem.Spec PyProof.Rows
section
variable {κ:Type} [DecidableEq κ]
theorem zGO {kvs:List (κ×V)}{k:κ}(h:zCS kvs k=none):¬ k∈kvs.map (·.1):=by
 intro m
 obtain⟨p,hp,e⟩:=zp.mp m
 have q:(kvs.any fun kv=>decide (kv.1=k))=true:=List.any_eq_true.mpr ⟨p,hp,zU e⟩
 rw[zB2,h] at q
 exact absurd q (by simp)
theorem zLD {kvs:List (κ×V)}{k:κ}{v:V}(h:zCS kvs k=some v):k∈kvs.map (·.1):=by
 have q:(kvs.any fun kv=>decide (kv.1=k))=true:=by
  rw[zB2,h]
  all_goals rfl
 obtain⟨p,hp,e⟩:=List.any_eq_true.mp q
 exact zp.mpr ⟨p,hp,of_decide_eq_true e⟩
theorem zIV:∀{l:List κ}{k:κ},l.Nodup->¬ k∈l->(l++[k]).Nodup
 | [],k,_,_=>by simp
 | a::r,k,h,hk=>by
  obtain⟨h1,h2⟩:=zAN.mp h
  show (a::(r++[k])).Nodup
  refine zAN.mpr ⟨fun m=>?_,zIV h2 fun m=>hk (ze.mpr (Or.inr m))⟩
  rcases zAC.mp m with q | q
  . exact h1 q
  . exact hk (ze.mpr (Or.inl (zk.mp q).symm))
theorem zIW {kvs:List (κ×V)}{k:κ}(v:V)(hn:(kvs.map (·.1)).Nodup)(h:zCS kvs k=none):((zCz kvs k v).map (·.1)).Nodup:=by
 rw[zGi v h,zN]
 exact zIV hn (zGO h)
theorem zFb {p:κ×V}{r:List (κ×V)}{k:κ}(e:p.1=k):zCL (p::r) k=zCL r k:=by
 unfold zCL
 rw[zBB,if_neg (by simp[e])]
theorem zFc {p:κ×V}{r:List (κ×V)}{k:κ}(e:¬ p.1=k):zCL (p::r) k=p::zCL r k:=by
 unfold zCL
 rw[zBB,if_pos (by simp[e])]
theorem zFd {kvs:List (κ×V)}{k:κ}{p:κ×V}(h:p∈zCL kvs k):p∈kvs:=(zAu.mp h).1
theorem zEp:∀{kvs:List (κ×V)}{k:κ},(kvs.map (·.1)).Nodup->((zCL kvs k).map (·.1)).Nodup
 | [],_,_=>List.nodup_nil
 | p::r,k,h=>by
  have h:(p.1::r.map (·.1)).Nodup:=h
  obtain⟨h1,h2⟩:=zAN.mp h
  by_cases e:p.1=k
  . rw[zFb e]
    exact zEp h2
  . rw[zFc e]
    show (p.1::(zCL r k).map (·.1)).Nodup
    refine zAN.mpr ⟨fun m=>h1 ?_,zEp h2⟩
    obtain⟨q,hq,eq⟩:=zp.mp m
    exact zp.mpr ⟨q,zFd hq,eq⟩
end
end L2
namespace L2
open PySem PySem.Spec PyProof.Rows
section
variable {X:Cx}
end
end L2
set_option Elab.async false
set_option linter.all false
set_option maxRecDepth 100000
set_option maxHeartbeats 4000000
namespace L2
open PySem PySem.Spec PyProof.Rows
theorem zDQ {prog:Program}{w:World}{A:Around}{R:Result->Shared->Prop}{s:Shared}{elt target iter:Expr}{ifs:List Expr}{scope:Scope}{pos:Pos}{it acc:Value}{env:Env}(I:Nat->Shared->Prop)
 (turn:∀n s,I n s->wpAny (model prog w) A (pyNext it) (fun r s₁=>match r with
  | none=>R (.ok .next) s₁
  | some v=>wpAny (model prog w) A (letOwnedTupleGo target it v) (fun _ s₁'=>wpAny (model prog w) A (assign target env v) (fun _ s₂=>
   wpAny (model prog w) A (forIn ifs true fun c r=>if r=true then do let ok <-isTrue c env (eval c env);pure (ForInStep.yield ok) else pure (ForInStep.yield r)) (fun ok s₃=>
    if ok=true then wpAny (model prog w) A (eval elt env) (fun x s₄=>
     wpAny (model prog w) A (call (.builtin "list.append") [acc,x]) (fun _ s₅=>∃m,m<n/\I m s₅) (fun _ _=>False) s₄) (fun _ _=>False) s₃
    else ∃m,m<n/\I m s₃) (fun _ _=>False) s₂) (fun _ _=>False) s₁') (fun _ _=>False) s₁) (fun _ _=>False) s)
 (n:Nat)(h:I n s):codeAny (model prog w) A (.compLoop (.ListComp elt [⟨target,iter,ifs,0⟩] scope pos) 0 it acc env) R s:=by
 refine codeAny_loop rfl I (fun n s hI=>?_) n h
 show wpAny _ A ((compTurn (.ListComp elt [⟨target,iter,ifs,0⟩] scope pos) 0 it acc env).onRaise (fun x=>do noteFrame x env;theTreesLotGoes x)) _ _ s
 refine wpAny_noted ?_
 rw[compTurn_list]
 refine zA (zBq (zA (zAJ (turn n s hI) (fun r s₁ h₁=>?_) fun _ _ h'=>h'.elim)))
 cases r with
 | none=>exact zG h₁
 | some v=>
  refine zA (zAJ h₁ (fun _ s₁' h₁'=>?_) fun _ _ h'=>h'.elim)
  refine zA (zAJ h₁' (fun _ s₂ h₂=>zA (zAJ h₂ (fun ok s₃ h₃=>?_) fun _ _ h'=>h'.elim)) fun _ _ h'=>h'.elim)
  cases ok with
  | false=>exact zG ⟨rfl,h₃⟩
  | true=>
   exact zA (zA (zAJ h₃ (fun x s₄ h₄=>zA (zAJ h₄ (fun _ s₅ h₅=>zG (zG ⟨rfl,h₅⟩)) fun _ _ h'=>h'.elim)) fun _ _ h'=>h'.elim))
noncomputable def PTs (X:Cx)(ifs:List Expr)(t:TT):Prop:=
 ∀(pins:List (Addr×Obj))(s:Shared)(σ:St)(H:Hp)(Q:Bool->Hp->Prop),Inv X pins σ H s->t σ H Q ->
  wpAny (model X.prog X.w) X.A (forIn ifs true fun c r=>if r=true then do let ok <-isTrue c X.env (eval c X.env);pure (ForInStep.yield ok) else pure (ForInStep.yield r)) (TP X pins σ Q) X.xe s
noncomputable def tYes:TT:=fun _ H Q=>Q true H
theorem zEZ {σ:St}{H:Hp}{A B:Hp->Prop}(h:A H):tYes σ H (fun b H3=>if b=true then A H3 else B H3):=by
 show (if true=true then A H else B H)
 exact zGq h
theorem zBP {X:Cx}:PTs X [] tYes:=fun _ _ _ H _ I h=>wpAny_tests_nil ⟨H,I,h⟩
theorem zCH {X:Cx}{c:Expr}{t:TT}(h:PT X c t):PTs X [c] t:=fun pins s σ H Q I q=>wpAny_tests_one (h pins s σ H Q I q)
noncomputable def zCQ (cells:List (Str×Addr)):List (Str×NameKind)->List (Str×Addr)->List (Str×Addr)
 | [],acc=>acc
 | (n,k)::r,acc=>if (k == .free)=true then (match cells.lookup n with | some c=>zCQ cells r ((n,c)::acc) | none=>zCQ cells r acc) else zCQ cells r acc
theorem zC9 {cells:List (Str×Addr)}{x:Str}{c:Addr}:∀(names:List (Str×NameKind))(acc:List (Str×Addr)),(zCQ cells names acc).lookup x=some c->acc.lookup x=some c\/cells.lookup x=some c
 | [],acc,h=>.inl h
 | (n,k)::r,acc,h=>by
  unfold zCQ at h
  split at h
  . cases hc:cells.lookup n with
    | none=>rw[hc] at h;exact zC9 r acc h
    | some c'=>
     rw[hc] at h
     rcases zC9 r _ h with q | q
     . rw[zAq] at q
       cases hx:x==n with
       | true=>
        rw[hx] at q
        have e:x=n:=by simpa using hx
        have e2:c'=c:=by simpa using q
        rw[e,hc,e2]
        exact .inr rfl
       | false=>rw[hx] at q;exact .inl q
     . exact .inr q
  . exact zC9 r acc h
theorem zDX {cells:List (Str×Addr)}{x:Str}:∀(names:List (Str×NameKind))(acc:List (Str×Addr)),(∃c,acc.lookup x=some c)->∃c,(zCQ cells names acc).lookup x=some c
 | [],acc,h=>h
 | (n,k)::r,acc,h=>by
  unfold zCQ
  split
  . cases hc:cells.lookup n with
    | none=>exact zDX r acc h
    | some c'=>
     refine zDX r _ ?_
     rw[zAq]
     cases hx:x==n with
     | true=>exact⟨c',rfl⟩
     | false=>exact h
  . exact zDX r acc h
theorem zCY {cells:List (Str×Addr)}{x:Str}(hx:∃c,cells.lookup x=some c):∀(names:List (Str×NameKind))(acc:List (Str×Addr)),(x,NameKind.free)∈names->∃c,(zCQ cells names acc).lookup x=some c
 | [],acc,h=>by simp at h
 | (n,k)::r,acc,h=>by
  rcases ze.mp h with e | h
  . cases e
    obtain⟨c,hc⟩:=hx
    unfold zCQ
    rw[if_pos (by rfl),hc]
    exact zDX r _ ⟨c,by rw[zAq];simp⟩
  . unfold zCQ
    split
    . cases hc:cells.lookup n with
      | none=>exact zCY hx r acc h
      | some c'=>exact zCY hx r _ h
    . exact zCY hx r acc h
theorem zDJ {env:Env}:∀(names:List (Str×NameKind))(acc:List (Str×Addr)),(∀y∈names,y.2 = .free->∃c,env.cells.lookup y.1=some c) ->
 (forIn names acc fun (x:Str×NameKind)(cs:List (Str×Addr))=>(if (x.2 == .free)=true then (do let a <-cellOf env x.1;pure (ForInStep.yield ((x.1,a)::cs))) else pure (ForInStep.yield cs):Sem (ForInStep (List (Str×Addr)))))=pure (zCQ env.cells names acc)
 | [],acc,_=>rfl
 | (n,k)::r,acc,h=>by
  rw[List.forIn_cons]
  have hr:∀y∈r,y.2 = .free->∃c,env.cells.lookup y.1=some c:=fun y hy=>h y (zb _ hy)
  unfold zCQ
  cases hk:(k==NameKind.free) with
  | true=>
   obtain⟨c,hc⟩:=h (n,k) zd (by simpa using hk)
   simp only[hk,if_true,cellOf,hc,pure_bind]
   exact zDJ r _ hr
  | false=>
   simp only[hk,zBW,if_false,pure_bind]
   exact zDJ r _ hr
theorem zCC {scope:Scope}{env:Env}(h:∀y∈scope.names,y.2 = .free->∃c,env.cells.lookup y.1=some c):closureFor scope env=pure (zCQ env.cells scope.names []):=by
 have e:=zDJ scope.names [] h
 simp only[closureFor]
 simp only[bind_pure]
 exact e
theorem zBj {env:Env}{x:Str}:∀(names:List (Str×NameKind)),
 (names.map fun (n,k)=>if (k==NameKind.free && env.scope.kind == .function && env.kindOf n==some .cell) then (n,NameKind.cell) else (n,k)).lookup x =
  (names.lookup x).map fun k=>if (k==NameKind.free && env.scope.kind == .function && env.kindOf x==some .cell)=true then NameKind.cell else k
 | []=>rfl
 | (n,k)::r=>by
  have ih:=zBj (env:=env) (x:=x) r
  rw[zz]
  show List.lookup x ((if (k==NameKind.free && env.scope.kind == .function && env.kindOf n==some .cell)=true then (n,NameKind.cell) else (n,k))::_)=_
  by_cases c:(k==NameKind.free && env.scope.kind == .function && env.kindOf n==some .cell)=true
  . rw[if_pos c,zAq,zAq]
    cases hx:x==n with
    | true=>
     have e:x=n:=by simpa using hx
     subst e
     show some NameKind.cell=Option.map _ (some k)
     rw[zAg,if_pos c]
    | false=>exact ih
  . rw[if_neg c,zAq,zAq]
    cases hx:x==n with
    | true=>
     have e:x=n:=by simpa using hx
     subst e
     show some k=Option.map _ (some k)
     rw[zAg,if_neg c]
    | false=>exact ih
noncomputable def zBl (X:Cx)(pl:List (Addr×Obj))(N':List Str)(scope:Scope)(fp:List Addr)(s3:Shared)(H3:Hp):Cx where
 prog:=X.prog
 w:=X.w
 K:=X.K
 mg:=X.mg
 base:=X.base
 A:=X.A
 N:=N'
 s₀:=s3
 H₀:=H3
 env:=compEnvC scope (zCQ X.env.cells scope.names []) s3.heap.objs.size X.env
 outer:=X.stack
 stack:=X.stack
 ex:=fp
 fn:=fun _=>false
 calm:=X.calm
 pn:=pl
 xe:=fun _ _=>False
noncomputable def zDD (X:Cx)(scope:Scope):List Str->List Nat->Prop
 | [],[]=>True
 | x::cn,j::ci=>X.N[j]? = some x/\X.env.kindOf x=some .cell/\scope.names.lookup x=some .free/\zDD X scope cn ci
 | _,_=>False
theorem zDD.get {X:Cx}{scope:Scope}:∀{cn:List Str}{ci:List Nat}{k:Nat}{x:Str},zDD X scope cn ci->cn[k]? = some x->∃j,ci[k]? = some j/\X.N[j]? = some x/\X.env.kindOf x=some .cell/\scope.names.lookup x=some .free
 | [],_,_,_,_,h=>by simp at h
 | _::_,[],_,_,c,_=>c.elim
 | y::cn,j::ci,0,x,c,h=>by
  obtain⟨a,b,b',_⟩:=c
  have e:y=x:=by simpa using h
  subst e
  exact⟨j,rfl,a,b,b'⟩
 | y::cn,j::ci,k+1,x,c,h=>by
  obtain⟨j',h1,h2⟩:=zDD.get (k:=k) c.2.2.2 (by simpa using h)
  exact⟨j',by simpa using h1,h2⟩
structure zCr (X:Cx)(scope:Scope):Prop where
 kind:scope.kind = .function
 nocell:∀y∈scope.names,y.2 ≠ .cell
 names:∀y∈scope.names,y.2 = .local->scope.names.lookup y.1=some .local
 free:∀y∈scope.names,y.2 = .free->X.env.kindOf y.1=some .cell
section
variable {X:Cx}{pins:List (Addr×Obj)}{σ:St}{H3:Hp}{s3:Shared}{scope:Scope}{fp:List Addr}{N' own cn:List Str}{ci:List Nat}{cv:List V}
theorem zGy (ok:X.Ok)(S:zCr X scope){x:Str}(h:(relabel scope X.env).names.lookup x=some .cell\/(relabel scope X.env).names.lookup x=some .free) :
 ∃c,(zCQ X.env.cells scope.names []).lookup x=some c:=by
 have e:(relabel scope X.env).names.lookup x=(scope.names.lookup x).map fun k=>if (k==NameKind.free && X.env.scope.kind == .function && X.env.kindOf x==some .cell)=true then NameKind.cell else k:=zBj scope.names
 have hf:scope.names.lookup x=some .free:=by
  cases q:scope.names.lookup x with
  | none=>rw[e,q] at h;simp at h
  | some k=>
   by_cases hk:k = .free
   . rw[hk]
   . have hb:(k==NameKind.free)=false:=by simpa using hk
     rw[e,q] at h
     simp only[zAg,hb,Bool.false_and,zBW,if_false,Option.some.injEq] at h
     rcases h with h | h
     . exact absurd h (S.nocell _ (PySem.mem_of_lookup q))
     . exact absurd h hk
 exact zCY (ok.has x (.inl (S.free _ (PySem.mem_of_lookup hf) rfl))) scope.names [] (PySem.mem_of_lookup hf)
theorem zB0 {x:Str}{c:Addr}(h:(zCQ X.env.cells scope.names []).lookup x=some c):X.env.cells.lookup x=some c:=by
 rcases zC9 _ _ h with q | q
 . simp at q
 . exact q
theorem zMV (I:Inv X pins σ H3 s3)(S:zCr X scope)(f:∀b∈fp,zDE X pins H3 b)(fz:∀b∈fp,b<s3.heap.objs.size):(zBl X (X.pn++pins) N' scope fp s3 H3).Ok where
 mod:=I.ok.mod
 kind:=S.kind
 glob:=I.ok.glob
 blt:=I.ok.blt
 above:=zI _
 inj:=fun x y c h1 h2=>I.ok.inj x y c (zB0 h1) (zB0 h2)
 has:=fun x h=>zGy I.ok S h
 cab:=fun x c h=>by cases h
 hd:=I.ok.hd
 frames:=I.ok.frames
 stk:=.inl rfl
 exf:=fun b hb=>⟨za (fz b hb),fun x c h=>(f b hb).2.2.2.2.1 x c (zB0 h)⟩
 bs:=I.bs
 bsz:=zAE I.ok.bsz I.sz
 noex:=fun b o e hb=>by
  rcases (f b hb).2.2.2.1 with z | z
  . exact I.ok.noex b o e z
  . exact absurd (zl (zV e) (zAE I.ok.bsz z)) (zBV _)
 exfs:=fun b hb z=>by
  rcases ze.mp (I.stkSub b z) with q | q
  . exact (f b hb).2.1 q
  . exact (f b hb).2.2.1 q
 funs:=I.stack
 frf:=I.stkFree
theorem zKb {h1:Heap}{t:Nat}(I:Inv X pins σ H3 s3)(S:zCr X scope)(f:∀b∈fp,zDE X pins H3 b)(fz:∀b∈fp,b<s3.heap.objs.size)
 (hN:N'=own++cn)(hc:zDD X scope cn ci)(hv:ci.map (fun j=>σ[j]?)=cv.map fun v=>some (some v))(hl:cn.length=ci.length)
 (hns:h1.Ns s3.heap.objs.size (fun _=>none))(hk:∀b o,s3.heap.get? b=some o->h1.get? b=some o) :
 Inv (zBl X (X.pn++pins) N' scope fp s3 H3) [] (List.replicate own.length none++cv.map some) H3 { s3 with heap:=h1,toks:=t }:=by
 have lenv:cv.length=ci.length:=by
  have:=congrArg List.length hv
  simpa using this.symm
 refine⟨zMV I S f fz,rfl,I.bare,Un.kept hk,⟨_,hns,fun i x v e1 e2 e3=>?_⟩,fun x c e=>?_,I.hok.fresh (zI _),fun x c e=>I.freeC x c (zB0 e),fun p hp=>?_,I.hok.kept hk,?_⟩
 . -- a captured name
   have hi:own.length<=i:=by
    by_cases hi:own.length<=i
    . exact hi
    . rw[zW (by simpa using hi),zA5] at e2
      split at e2 <;> cases e2
   rw[zR (by simpa using hi),zAH,zJ] at e2
   have e1':(own++cn)[i]? = some x:=by rw[<-hN];exact e1
   rw[zR hi] at e1'
   obtain⟨j,hj,hNj,hkx,hfr⟩:=hc.get e1'
   have hcv:cv[i-own.length]? = some v:=by
    cases q:cv[i-own.length]? with
    | none=>rw[q] at e2;cases e2
    | some v'=>rw[q] at e2;cases e2;rfl
   have hσ:σ[j]? = some (some v):=by
    have:=congrArg (fun l:List (Option (Option V))=>l[i-own.length]?) hv
    simp only[zJ,hj,hcv,zAg,Option.some.injEq] at this
    exact this
   obtain⟨m,_,hl'⟩:=I.loc
   obtain⟨u,r,q⟩:=hl' j x v hNj hσ (.inr (.inl hkx))
   have hkd:(relabel scope X.env).names.lookup x=some .cell\/(relabel scope X.env).names.lookup x=some .free:=by
    have e:(relabel scope X.env).names.lookup x=(scope.names.lookup x).map fun k=>if (k==NameKind.free && X.env.scope.kind == .function && X.env.kindOf x==some .cell)=true then NameKind.cell else k:=zBj scope.names
    rw[e,hfr,zAg]
    by_cases cc:(NameKind.free==NameKind.free && X.env.scope.kind == .function && X.env.kindOf x==some .cell)=true
    . rw[if_pos cc];exact .inl rfl
    . rw[if_neg cc];exact .inr rfl
   obtain⟨c',hc'⟩:=zGy I.ok S hkd
   refine⟨u,r,.inr ⟨hkd,c',hc',?_⟩⟩
   rcases q with ⟨z,_⟩ | ⟨_,c,hcc,o,ho,hd⟩
   . rw[hkx] at z;cases z
   . have e:c=c':=zP (hcc.symm.trans (zB0 hc'))
     subst e
     exact⟨o,hk c o ho,hd⟩
 . obtain⟨v,o,ho,hd⟩:=I.cell x c (zB0 e)
   exact⟨v,o,hk c o ho,hd⟩
 . have hp':p∈X.pn++pins:=by rw[zo] at hp;exact hp
   obtain⟨e,n,ne,nf,d⟩:=I.pin p hp'
   refine⟨hk _ _ e,n,za (zV e),fun z=>?_,d⟩
   rcases ze.mp (I.stkSub p.1 z) with q | q
   . exact ne q
   . exact nf q
 . show (List.replicate own.length none++cv.map some).length=N'.length
   rw[hN,zM,zM,zAH,zB,lenv,hl]
noncomputable def zG6 (J:It)(own:Nat)(cv:List V)(g:TG)(ti:TT)(te:TE)(D:Addr)(H1:Hp)(Q:VK):Prop:=∃W:Nat->Nat->List V->Hp->Prop,(∃m,W 0 m [] (upd H1 D (.lst [])))/\∀i m ys H,W i m ys H ->
 (J.stop i H/\Q (.ref D) H)\/(J.go i H/\ys.length<sizeLine/\∃N:List V->Hp->Prop,(∀ys' H',N ys' H'->∃m',m'<m/\W (i+1) m' ys' H') /\
  ∀x H',J.yld i H x H'->g x (List.replicate own none++cv.map some) H' fun σ2 H2=>(σ2.length=own+cv.length/\σ2.drop own=cv.map some) /\
   ti σ2 H2 fun b H3=>if b=true then te σ2 H3 fun y H4=>H4 D=some (.lst ys)/\N (ys++[y]) (upd H4 D (.lst (ys++[y]))) else N ys H3)
noncomputable def zHt (own:Nat)(ci:List Nat)(wi:TI)(g:TG)(ti:TT)(te:TE):TE:=fun σ H Q=>wi σ H fun J H1=>∃cv:List V,ci.map (fun j=>σ[j]?)=cv.map (fun v=>some (some v)) /\
 ∀D,H1 D=none->zG6 J own cv g ti te D H1 Q
theorem zFe {elt target iter:Expr}{ifs:List Expr}{pos cpos:Pos}{wi:TI}{g:TG}{ti:TT}{te:TE}{use:Option (Value->Sem Unit)}{Q0:Value->Shared->Prop}{s:Shared}{H:Hp}{Q:VK}(hcalm:X.calm=true)(S:zCr X scope)(hc:zDD X scope cn ci)(hl:cn.length=ci.length)
 (hi:PI X target iter wi)(hg:∀pl fp s3 H3,PG (zBl X pl (own++cn) scope fp s3 H3) target g)(ht:∀pl fp s3 H3,PTs (zBl X pl (own++cn) scope fp s3 H3) ifs ti)
 (he:∀pl fp s3 H3,PE (zBl X pl (own++cn) scope fp s3 H3) elt te)(hs:∀x,foldedSetIterable iter X.env x=pure x)(I:Inv X pins σ H s)(h:zHt own.length ci wi g ti te σ H Q)
 (fin:∀(D C:Addr)(H5:Hp)(s6:Shared)(m6:Str->Option Value),Inv X pins σ H5 s6->s6.heap.Ns C m6->H5 C=none->C≠X.env.locals->X.s₀.heap.objs.size<=C->(∀x c,X.env.cells.lookup x=some c->c≠C) ->
  (∀p∈X.pn++pins,p.1≠C)->Q (.ref D) H5->compPost (model X.prog X.w) X.A X.xe use Q0 (.ref D) C (.ok .next) s6) :
 wpAny (model X.prog X.w) X.A (comprehension (.ListComp elt [⟨target,iter,ifs,0⟩] scope pos) scope X.env cpos (newList []) false (eval iter X.env) use) Q0 X.xe s:=by
 have hcl:closureFor scope X.env=pure (zCQ X.env.cells scope.names []):=zCC fun y hy hf=>I.ok.has y.1 (.inl (S.free y hy hf))
 refine wpAny_comprehension_free (use:=use) rfl hs hcl S.kind S.names ?_
 refine thn (hi pins s σ H _ I h) fun v s1 h1=>thn h1 fun itv s2 h2=>?_
 obtain⟨it,fp,tn,J,H2,e,I2,T,st2,f2,cv,hv,hD⟩:=h2
 subst e
 have lenv:cv.length=ci.length:=by
  have:=congrArg List.length hv
  simpa using this.symm
 have I3:=I2.lnew (ys:=[]) (its:=[]) (t':=s2.toks) .nil (zh _)
 obtain⟨W,⟨m0,w0⟩,turn⟩:=hD s2.heap.objs.size I2.fresh
 have fz:∀b∈fp,b<s2.heap.objs.size:=fun b hb=>by
  obtain⟨o,ho,_⟩:=T.obj _ _ st2 b hb
  exact zV ho
 refine zAs ?_
 refine wpAny_newFunctionEnv S.nocell (by intro y hy;simp at hy) (fun h4 hns4 hsb4=>?_) S.kind
 generalize hs3:({ s2 with heap:=s2.heap.push { cls:=.type "list",dict:=none,data:=.seq ([]:List Value).toArray } }:Shared)=s3 at hns4 hsb4 ⊢
 have I3':Inv X pins σ (upd H2 s2.heap.objs.size (.lst [])) s3:=by rw[<-hs3];exact I3
 have hsz3:s3.heap.objs.size=s2.heap.objs.size+1:=by rw[<-hs3];exact zAj ..
 have k23:∀b o,s2.heap.get? b=some o->s3.heap.get? b=some o:=fun b o e=>by rw[<-hs3];exact zF _ e
 have k34:∀b o,s3.heap.get? b=some o->h4.get? b=some o:=fun b o e=>hsb4.extBut b o (za (zV e)) (zF _ e)
 have nD:∀b∈fp,b≠s2.heap.objs.size:=fun b hb=>za (fz b hb)
 have f3:∀b∈fp,zDE X pins (upd H2 s2.heap.objs.size (.lst [])) b:=fun b hb=>⟨by rw[zX (nD b hb)];exact (f2 b hb).1,(f2 b hb).2⟩
 have fz3:∀b∈fp,b<s3.heap.objs.size:=fun b hb=>by rw[hsz3];exact zAh (fz b hb)
 have I4:Inv (zBl X (X.pn++pins) (own++cn) scope fp s3 (upd H2 s2.heap.objs.size (.lst []))) [] (List.replicate own.length none++cv.map some) (upd H2 s2.heap.objs.size (.lst [])) { s3 with heap:=h4,toks:=s3.toks+([]:List (Str×Value)).length }:=
  zKb I3' S f3 fz3 rfl hc hv hl hns4 k34
 have st4:tn 0 h4:=T.keep _ _ _ st2 fun b hb o e=>k34 b o (k23 b o e)
 generalize hX:zBl X (X.pn++pins) (own++cn) scope fp s3 (upd H2 s2.heap.objs.size (.lst []))=X' at I4
 have hg':PG X' target g:=by rw[<-hX];exact hg _ _ _ _
 have ht':PTs X' ifs ti:=by rw[<-hX];exact ht _ _ _ _
 have he':PE X' elt te:=by rw[<-hX];exact he _ _ _ _
 have ePr:X'.prog=X.prog:=by rw[<-hX];rfl
 have eW:X'.w=X.w:=by rw[<-hX];rfl
 have eK:X'.K=X.K:=by rw[<-hX];rfl
 have eA:X'.A=X.A:=by rw[<-hX];rfl
 have eE:X'.env=compEnvC scope (zCQ X.env.cells scope.names []) s3.heap.objs.size X.env:=by rw[<-hX];rfl
 have eXe:X'.xe=fun _ _=>False:=by rw[<-hX];rfl
 have eC:X'.calm=true:=by rw[<-hX];exact hcalm
 have eex:X'.ex=fp:=by rw[<-hX];rfl
 have epn:X'.pn=X.pn++pins:=by rw[<-hX];rfl
 have es0:X'.s₀=s3:=by rw[<-hX];rfl
 have eH0:X'.H₀=upd H2 s2.heap.objs.size (.lst []):=by rw[<-hX];rfl
 have efs:X'.fs=frs X.stack:=by rw[<-hX];rfl
 have ok':=I4.ok
 have stat:∀{H':Hp},(∀b∈fp,H' b=none)->∀b∈fp,zDE X' [] H' b:=fun hn b hb=>by
  have hb':b∈X'.ex:=by rw[eex];exact hb
  refine⟨hn b hb,(ok'.exf b hb').1,ok'.exfs b hb',.inl hb',(ok'.exf b hb').2,fun p hp=>?_⟩
  rw[epn,zo] at hp
  exact (f2 b hb).2.2.2.2.2 p hp
 have wk:∀(σ2:St),(σ2.length=own.length+cv.length/\σ2.drop own.length=cv.map some)->∀{pl:List (Addr×Obj)}{H':Hp}{s':Shared},Inv X' pl σ2 H' s'->Inv X' pl (List.replicate own.length none++cv.map some) H' s':=fun σ2 hq pl H' s' I'=>by
  refine I'.weak (by rw[hq.1,zM,zAH,zB]) fun i v hi=>?_
  by_cases hlt:i<own.length
  . rw[zW (by simpa using hlt),zA5] at hi
    split at hi <;> cases hi
  . rw[zR (by simpa using hlt),zAH,<-hq.2,List.getElem?_drop] at hi
    rw[show own.length+(i-own.length)=i by omega] at hi
    exact hi
 have loop:codeAny (model X.prog X.w) X.A (.compLoop (.ListComp elt [⟨target,iter,ifs,0⟩] scope pos) 0 (.ref it) (.ref s2.heap.objs.size) (compEnvC scope (zCQ X.env.cells scope.names []) s3.heap.objs.size X.env))
  (compPost (model X.prog X.w) X.A X.xe use Q0 (.ref s2.heap.objs.size) s3.heap.objs.size) { s3 with heap:=h4,toks:=s3.toks+([]:List (Str×Value)).length }:=by
  refine zDQ (fun n s'=>∃i ys H',Inv X' [] (List.replicate own.length none++cv.map some) H' s'/\tn i s'.heap/\(∀b∈fp,H' b=none)/\W i n ys H') ?_ m0
   ⟨0,[],_,I4,st4,fun b hb=>(f3 b hb).1,w0⟩
  rintro n s5 ⟨i,ys,H5,I5,st5,fr5,w5⟩
  rcases turn i n ys H5 w5 with ⟨stop,qn⟩ | ⟨go,hsz,N,hN,step⟩
  . have d:=T.done X' ePr eW eK eC i [] s5 _ H5 (fun _ _=>False) I5 (stat fr5) st5 stop
    rw[eA] at d
    refine thn d fun r s6 ⟨hr,I6⟩=>?_
    subst hr
    obtain⟨m6,hn6,_⟩:=I6.loc
    rw[eE] at hn6
    have hn6':s6.heap.Ns s3.heap.objs.size m6:=hn6
    have un6:Un (frs X.stack) fp (upd H2 s2.heap.objs.size (.lst [])) H5 s3.heap s6.heap:=by
     have b6:=I6.base
     rw[efs,eex,eH0,es0] at b6
     exact b6
    have os6:s6.os=s3.os:=by have o6:=I6.os;rw[es0] at o6;exact o6
    have hok6:HOk X.prog X.w H5 s6.heap:=by have o6:=I6.hok;rw[ePr,eW] at o6;exact o6
    have I7:Inv X pins σ H5 s6:=I3'.call' (ch:=fp) os6 un6 hok6 I6.bare fun b hb=>⟨(f2 b hb).2.2.2.1,(f2 b hb).2.1,(f2 b hb).2.2.2.2.1,(f2 b hb).2.2.2.2.2⟩
    have fr6:H5 s3.heap.objs.size=none:=by
     have q:=I6.free
     rw[eE] at q
     exact q
    refine fin s2.heap.objs.size s3.heap.objs.size H5 s6 m6 I7 hn6' fr6 (Nat.ne_of_gt I3'.lt) I3'.sz (fun x c e=>?_) (fun p hp=>?_) qn
    . obtain⟨_,o,ho,_⟩:=I3'.cell x c e
      exact za (zV ho)
    . exact za (zV (I3'.pin p hp).1)
  . have d:=T.item X' ePr eW eK eC i [] s5 _ H5 (fun _ _=>False) I5 (stat fr5) st5 go
    rw[eA] at d
    refine thn d fun r s6 ⟨u,hr,h6⟩=>?_
    subst hr
    refine thn h6 fun _ s7 ⟨x,H7,I7,r7,y7,st7,fr7⟩=>?_
    have I7':=I7.pinned (stat fr7) (T.obj _ _ st7)
    have g7:=hg' _ s7 _ H7 x u _ I7' r7 (step x H7 y7)
    rw[ePr,eW,eA,eE,eXe] at g7
    refine thn g7 fun _ s8 ⟨σ8,H8,I8,q8,ti8⟩=>?_
    have t8:=ht' _ s8 σ8 H8 _ I8 ti8
    rw[ePr,eW,eA,eE,eXe] at t8
    refine thn t8 fun ok s9 ⟨H9,I9,q9⟩=>?_
    have again:∀{ys':List V}{H':Hp}{s':Shared},Inv X' ([]++zEK fp s7.heap) σ8 H' s'->N ys' H' ->
     ∃m,m<n/\∃i ys H',Inv X' [] (List.replicate own.length none++cv.map some) H' s'/\tn i s'.heap/\(∀b∈fp,H' b=none)/\W i m ys H':=fun {ys' H' s'} I' n'=>by
     obtain⟨m',hm,w'⟩:=hN ys' H' n'
     refine⟨m',hm,i+1,ys',H',(wk σ8 q8 I').unpinned,T.keep _ _ _ st7 fun b hb o e=>(I'.pin (b,o) (zg _ (zg _ (zCE hb e)))).1,fun b hb=>?_,w'⟩
     obtain⟨o,e,_⟩:=T.obj _ _ st7 b hb
     exact (I'.pin (b,o) (zg _ (zg _ (zCE hb e)))).2.1
    cases ok with
    | false=>exact again I9 q9
    | true=>
     have e9:=he' _ s9 σ8 H9 _ I9 q9
     rw[ePr,eW,eA,eE,eXe] at e9
     refine thn e9 fun u10 s10 ⟨y,H10,I10,r10,hD10,n10⟩=>?_
     have a10:=zBi (X:=X') _ s10 σ8 H10 (.ref s2.heap.objs.size) [y] (.ref s2.heap.objs.size) [u10] (fun _ H'=>N (ys++[y]) H') I10 rfl (.cons r10 .nil) ⟨_,_,_,rfl,rfl,hD10,hsz,n10⟩
     rw[ePr,eW,eA,eXe] at a10
     exact thn a10 fun _ s11 ⟨_,H11,I11,_,n11⟩=>again I11 n11
 exact codeAny_compStart_list loop (T.self X.A 0 _ _ _ st4 loop)
theorem zA8 {elt target iter:Expr}{ifs:List Expr}{pos:Pos}{wi:TI}{g:TG}{ti:TT}{te:TE}(hcalm:X.calm=true)(S:zCr X scope)(hc:zDD X scope cn ci)(hl:cn.length=ci.length)
 (hi:PI X target iter wi)(hg:∀pl fp s3 H3,PG (zBl X pl (own++cn) scope fp s3 H3) target g)(ht:∀pl fp s3 H3,PTs (zBl X pl (own++cn) scope fp s3 H3) ifs ti)
 (he:∀pl fp s3 H3,PE (zBl X pl (own++cn) scope fp s3 H3) elt te)(hs:∀x,foldedSetIterable iter X.env x=pure x:=by intro _;rfl) :
 PE X (.ListComp elt [⟨target,iter,ifs,0⟩] scope pos) (zHt own.length ci wi g ti te):=by
 intro pins s σ H Q I h
 rw[eval_ListComp]
 exact zFe hcalm S hc hl hi hg ht he hs I h fun D C H5 s6 m6 I7 hn fr nL ge nC nP q=>⟨m6,hn,fun h' hs'=>⟨.ref D,H5,I7.turned (t':=s6.toks) (it:=C) (fun b o hb e=>hs'.extBut b o hb e) fr nL (.inr ge) nC nP,rfl,q⟩⟩
theorem zDe {elt target iter:Expr}{ifs:List Expr}{pos pos' cpos:Pos}{wi:TI}{g:TG}{ti:TT}{te:TE}{i:Nat}{x:Str}(hN:X.N.Nodup)(hix:X.N[i]? = some x)(hx:Loc X.env.scope x)(hcalm:X.calm=true)(S:zCr X scope)(hc:zDD X scope cn ci)(hl:cn.length=ci.length)
 (hi:PI X target iter wi)(hg:∀pl fp s3 H3,PG (zBl X pl (own++cn) scope fp s3 H3) target g)(ht:∀pl fp s3 H3,PTs (zBl X pl (own++cn) scope fp s3 H3) ifs ti)
 (he:∀pl fp s3 H3,PE (zBl X pl (own++cn) scope fp s3 H3) elt te)(hs:∀x,foldedSetIterable iter X.env x=pure x:=by intro _;rfl)
 (hsw:swapsWith (.ListComp elt [⟨target,iter,ifs,0⟩] scope cpos) (some (.Name x pos')) pos.line X.env=pure true:=by rfl)
 (hf:X.fn x=true\/X.env.scope.names.lookup x=some .local:=by first | exact .inl rfl | exact .inr rfl | assumption) :
 PS X (.Assign [.Name x pos'] (.ListComp elt [⟨target,iter,ifs,0⟩] scope cpos) pos) (tAsg (zHt own.length ci wi g ti te) (zIs i)):=by
 intro pins s σ H D I h
 rw[exec_Assign_Name_used _ _ _ _ hsw]
 refine zA (zBq (zA ?_))
 show wpAny _ X.A (do let _ <-comprehension (.ListComp elt [⟨target,iter,ifs,0⟩] scope cpos) scope X.env _ (newList []) false (eval iter X.env) (some (assign (.Name x pos') X.env))) _ _ s
 refine zA (zAJ (zFe (use:=some (assign (.Name x pos') X.env)) (Q0:=fun _ s'=>SP X pins D .next s') hcalm S hc hl hi hg ht he hs I h (fun D' C H5 s6 m6 I7 hn fr nL ge nC nP q=>?_)) (fun _ s' hq=>zG (zG hq)) fun _ _ e=>e)
 obtain⟨oC,es,ep,hoC,hd,r1⟩:=hn
 have nf:C∉X.fs:=fun hb=>by
  obtain⟨_,o,ho,_⟩:=I7.ok.funs.mem hb
  exact absurd (zl (zV ho) ge) (zBV _)
 have I7':Inv X (pins++[(C,oC)]) σ H5 s6:=I7.pins_of fun p hp=>by
  rcases zAC.mp hp with z | z
  . exact I7.pin p (zg _ z)
  . rw[zk.mp z]
    exact⟨hoC,fr,nL,nf,fun v e=>by rw[hd] at e;cases e⟩
 show wpAny _ X.A (assign (.Name x pos') X.env (.ref D')) _ _ s6
 refine wpAny_assign_Name (zCy I7' hN hix hx (show zBT (.ref D') (.ref D') from rfl) (fun s' I'=>?_) hf)
 have hC':=(I'.pin (C,oC) (zg _ (zg _ (zk.mpr rfl)))).1
 refine⟨m6,⟨oC,es,ep,hC',hd,r1⟩,fun h' hs'=>⟨_,H5,?_,q⟩⟩
 have I2:Inv X pins (σ.set i (some (.ref D'))) H5 s':=I'.pins_of fun p hp=>I'.pin p (zg _ (zA6 _ hp))
 exact I2.turned (t':=s'.toks) (it:=C) (fun b o hb e=>hs'.extBut b o hb e) fr nL (.inr ge) nC nP
end
noncomputable def cscOk (outer inner:Scope):Bool:=inner.names.all fun y=>(y.2 != .cell) && (y.2 != .local || inner.names.lookup y.1==some .local) && (y.2 != .free || outer.names.lookup y.1==some .cell)
theorem csc {X:Cx}{scope:Scope}(hk:scope.kind = .function)(h:cscOk X.env.scope scope=true):zCr X scope:=by
 have a:=zBH.mp h
 refine⟨hk,fun y hy e=>?_,fun y hy e=>?_,fun y hy e=>?_⟩
 . have:=a y hy
   rw[e] at this
   simp at this
 . have:=a y hy
   rw[e] at this
   simpa using this
 . have:=a y hy
   rw[e] at this
   have h2:X.env.scope.names.lookup y.1=some .cell:=by simpa using this
   exact h2
theorem zBn {l:List Str}(h:decide l.Nodup=true):l.Nodup:=of_decide_eq_true h
section
variable {X:Cx}{pl:List (Addr×Obj)}{N':List Str}{sc:Scope}{fp:List Addr}{s3:Shared}{H3:Hp}
theorem zCO:IxR (zBl X pl N' sc fp s3 H3) (rIxT X.K):=zAp
theorem zC7:IxR (zBl X pl N' sc fp s3 H3) (rIxL X.K):=zAU
theorem zLl {es:List Expr}{k:Nat}{t:TGs}{n:Nat}{pos:Pos}(hc:X.calm=true)(h:PGs (zBl X pl N' sc fp s3 H3) es t)
 (hn:(assignEach es (zBl X pl N' sc fp s3 H3).env).length=n:=by rfl)(hst:(assignEach es (zBl X pl N' sc fp s3 H3).env).findIdx? (·.1)=none:=by rfl):PG (zBl X pl N' sc fp s3 H3) (.Tuple es k pos) (gTup X.K n t):=zDg hc h hn hst
end
theorem zBm {K:PySem.W.Frag}{a:Addr}{xs:List V}{own:Nat}{g:TG}{ti:TT}{te:TE}{cv:List V}{D:Addr}{H1:Hp}{Q:VK}(Pv:Nat->List V->Hp->Prop)(h0:Pv 0 [] (upd H1 D (.lst [])))(hl:∀i ys H,Pv i ys H->SqL K H a xs)(hz:∀i ys H,Pv i ys H->ys.length<sizeLine)
 (hs:∀i x ys H,xs[i]? = some x->Pv i ys H->g x (List.replicate own none++cv.map some) H fun σ2 H2=>(σ2.length=own+cv.length/\σ2.drop own=cv.map some) /\
  ti σ2 H2 fun b H3=>if b=true then te σ2 H3 fun y H4=>H4 D=some (.lst ys)/\Pv (i+1) (ys++[y]) (upd H4 D (.lst (ys++[y]))) else Pv (i+1) ys H3)
 (hd:∀ys H,Pv xs.length ys H->Q (.ref D) H) :
 zG6 (Itl K a) own cv g ti te D H1 Q:=by
 refine⟨fun i m ys H=>m=xs.length-i/\i<=xs.length/\Pv i ys H,⟨xs.length,rfl,zh _,h0⟩,?_⟩
 rintro i m ys H ⟨rfl,hi,p⟩
 have q:=hl i ys H p
 by_cases hlt:i<xs.length
 . refine .inr ⟨⟨xs,xs[i],q,by simp[hlt]⟩,hz i ys H p,Pv (i+1),fun ys' H' p'=>⟨xs.length-(i+1),by omega,rfl,hlt,p'⟩,fun x H' y=>?_⟩
   obtain⟨e,y⟩:=y
   subst e
   exact hs i x ys _ (y xs q) p
 . have e:i=xs.length:=by omega
   subst e
   exact .inl ⟨⟨xs,q,zI _⟩,hd ys H p⟩
theorem zCl {K:PySem.W.Frag}{a:Addr}{xs:List V}{own:Nat}{g:TG}{ti:TT}{te:TE}{cv:List V}{D:Addr}{H1:Hp}{Q:VK}(Pv:Nat->List V->Hp->Prop)(h0:Pv 0 [] (upd H1 D (.lst [])))(hl:∀i ys H,Pv i ys H->SqT K H a xs)(hz:∀i ys H,Pv i ys H->ys.length<sizeLine)
 (hs:∀i x ys H,xs[i]? = some x->Pv i ys H->g x (List.replicate own none++cv.map some) H fun σ2 H2=>(σ2.length=own+cv.length/\σ2.drop own=cv.map some) /\
  ti σ2 H2 fun b H3=>if b=true then te σ2 H3 fun y H4=>H4 D=some (.lst ys)/\Pv (i+1) (ys++[y]) (upd H4 D (.lst (ys++[y]))) else Pv (i+1) ys H3)
 (hd:∀ys H,Pv xs.length ys H->Q (.ref D) H) :
 zG6 (Itt K a) own cv g ti te D H1 Q:=by
 refine⟨fun i m ys H=>m=xs.length-i/\i<=xs.length/\Pv i ys H,⟨xs.length,rfl,zh _,h0⟩,?_⟩
 rintro i m ys H ⟨rfl,hi,p⟩
 have q:=hl i ys H p
 by_cases hlt:i<xs.length
 . refine .inr ⟨⟨xs,xs[i],q,by simp[hlt]⟩,hz i ys H p,Pv (i+1),fun ys' H' p'=>⟨xs.length-(i+1),by omega,rfl,hlt,p'⟩,fun x H' y=>?_⟩
   obtain⟨e,y⟩:=y
   subst e
   exact hs i x ys _ (y xs q) p
 . have e:i=xs.length:=by omega
   subst e
   exact .inl ⟨⟨xs,q,zI _⟩,hd ys H p⟩
theorem zA0 {lo:Int}{n own:Nat}{g:TG}{ti:TT}{te:TE}{cv:List V}{D:Addr}{H1:Hp}{Q:VK}(Pv:Nat->List V->Hp->Prop)(h0:Pv 0 [] (upd H1 D (.lst [])))(hz:∀i ys H,Pv i ys H->ys.length<sizeLine)
 (hs:∀i ys H,i<n->Pv i ys H->g (.int (lo+i)) (List.replicate own none++cv.map some) H fun σ2 H2=>(σ2.length=own+cv.length/\σ2.drop own=cv.map some) /\
  ti σ2 H2 fun b H3=>if b=true then te σ2 H3 fun y H4=>H4 D=some (.lst ys)/\Pv (i+1) (ys++[y]) (upd H4 D (.lst (ys++[y]))) else Pv (i+1) ys H3)
 (hd:∀ys H,Pv n ys H->Q (.ref D) H) :
 zG6 (Itr lo n) own cv g ti te D H1 Q:=by
 refine⟨fun i m ys H=>m=n-i/\i<=n/\Pv i ys H,⟨n,rfl,zh _,h0⟩,?_⟩
 rintro i m ys H ⟨rfl,hi,p⟩
 by_cases hlt:i<n
 . refine .inr ⟨hlt,hz i ys H p,Pv (i+1),fun ys' H' p'=>⟨n-(i+1),by omega,rfl,hlt,p'⟩,fun x H' y=>?_⟩
   obtain⟨e,y⟩:=y
   subst e
   subst y
   exact hs i ys _ hlt p
 . have e:i=n:=by omega
   subst e
   exact .inl ⟨zI _,hd ys H p⟩
end L2
namespace SortT
open PySem.W PyProof.Rows
noncomputable def ev {α:Type}(lt:Nat->Nat->Bool):KasT α->α
 | .ret a=>a
 | .ask i j k=>ev lt (k (lt i j))
theorem zDI {α β:Type}(lt:Nat->Nat->Bool)(f:α->KasT β):∀t:KasT α,ev lt (t.bind f)=ev lt (f (ev lt t))
 | .ret _=>rfl
 | .ask i j k=>zDI lt f (k (lt i j))
section
variable {O:KeyOrd}{key:Nat->O.α}
noncomputable def kk (key:Nat->O.α)(p:Array Nat)(i:Nat):O.α:=key (p.getD i 0)
noncomputable def Sr (key:Nat->O.α)(p:Array Nat)(n:Nat):Prop:=∀i j,i<=j->j<n->O.kle (kk key p i) (kk key p j)
noncomputable def Fl (key:Nat->O.α)(p:Array Nat)(n:Nat):Prop:=∀i j,i<=j->j<n->O.kle (kk key p j) (kk key p i)
theorem zC5 {p q:Array Nat}{i j:Nat}(h:p[i]? = q[j]?):kk key p i=kk key q j:=by
 unfold kk;rw[Array.getD_eq_getD_getElem?,Array.getD_eq_getD_getElem?,h]
theorem zIh {p:Array Nat}{i j:Nat}(hj:j<=p.size)(k:Nat):kk key (kas_rev p i j) k=if i<=k/\k<j then kk key p (i+j-1-k) else kk key p k:=by
 have e:=getElem?_mirror_all (i:=i) hj k
 unfold kas_rev
 by_cases h1:i<=k/\k<j
 . rw[if_pos h1] at e ⊢;exact zC5 e
 . rw[if_neg h1] at e ⊢;exact zC5 e
theorem zDo {p:Array Nat}{i j:Nat}(hj:j<=p.size)(he:∀k,i<=k->k<j->kk key p k=kk key p (j-1))(k:Nat):kk key (kas_rev p i j) k=kk key p k:=by
 rw[zIh hj]
 split
 . rw[he _ (by omega) (by omega),he k (by omega) (by omega)]
 . rfl
theorem zFQ {p:Array Nat}{src d:Nat}(hs:src<p.size)(hd:d<=src)(k:Nat) :
 kk key (bubble p src d) k=if k=src-d then kk key p src else if src-d<k/\k<=src then kk key p (k-1) else kk key p k:=by
 have e:=getElem?_bubble hs d hd k
 by_cases h1:k=src-d
 . rw[if_pos h1] at e ⊢;exact zC5 e
 . rw[if_neg h1] at e ⊢
   by_cases h2:src-d<k/\k<=src
   . rw[if_pos h2] at e ⊢;exact zC5 e
   . rw[if_neg h2] at e ⊢;exact zC5 e
noncomputable def lt_ (key:Nat->O.α)(i j:Nat):Bool:=O.blt (key i) (key j)
theorem zB3 (p:Array Nat)(i j:Nat):(kas_rev p i j).Perm p:=mirror_perm _ _ _ _
theorem zEi (p:Array Nat)(i j:Nat):(kas_rev p i j).size=p.size:=(zB3 p i j).size_eq
theorem zJR {p:Array Nat}:∀(f n:Nat),1<=n->Sr key p n->∃m,ev (lt_ key) (kas_asc p f n)=m/\n<=m/\m<=n+f/\Sr key p m/\(m=n+f\/O.klt (kk key p m) (kk key p (m-1)))
 | 0,n,_,hs=>⟨n,rfl,zI _,zI _,hs,.inl rfl⟩
 | f+1,n,h1,hs=>by
  show ∃m,ev (lt_ key) (if lt_ key (p.getD n 0) (p.getD (n-1) 0)=true then KasT.ret n else kas_asc p f (n+1))=m/\_
  cases hl:lt_ key (p.getD n 0) (p.getD (n-1) 0) with
  | true=>exact⟨n,by simp[ev],zI _,by omega,hs,.inr hl⟩
  | false=>
   have hs':Sr key p (n+1):=fun i j hij hj=>by
    by_cases hjn:j<n
    . exact hs i j hij hjn
    . have hj':j=n:=by omega
      subst hj'
      by_cases hi':i=j
      . subst hi';exact KeyOrd.kle_refl _
      . exact KeyOrd.kle_trans (hs i (j-1) (by omega) (by omega)) hl
   obtain⟨m,e,a,b,c,d⟩:=zJR f (n+1) (by omega) hs'
   refine⟨m,by simpa using e,by omega,by omega,c,?_⟩
   rcases d with d | d
   . exact .inl (by omega)
   . exact .inr d
theorem zGR {p:Array Nat}{n nrem:Nat}(h1:1<=n)(hn:n<=nrem)(hz:nrem<=p.size)(hs:Fl key p n) :
 ∃m q,ev (lt_ key) (kas_tail3 n nrem p)=(m,q)/\q.Perm p/\1<=m/\m<=nrem/\Sr key q m:=by
 unfold kas_tail3
 have hs':Sr key (kas_rev p 0 n) n:=fun i j hij hj=>by
  rw[zIh (by omega),zIh (by omega),if_pos (by omega),if_pos (by omega)]
  exact hs _ _ (by omega) (by omega)
 obtain⟨m,e,a,b,c,_⟩:=zJR (nrem-n) n h1 hs'
 exact⟨m,kas_rev p 0 n,by rw[zDI,e];rfl,zB3 _ _ _,by omega,by omega,c⟩
theorem zEu:∀(f n q:Nat)(p:Array Nat),1<=n->n+f<=p.size->Fl key p n->q+1<=n->(∀i,n-(q+1)<=i->i<n->kk key p i=kk key p (n-1)) ->
 ∃p' n' q',ev (lt_ key) (kas_desc f p n q)=(p',n',q')/\p'.Perm p/\n<=n'/\n'<=n+f/\Fl key p' n'/\q'+1<=n'/\(∀i,n'-(q'+1)<=i->i<n'->kk key p' i=kk key p' (n'-1))
 | 0,n,q,p,_,_,hs,hq,he=>⟨p,n,q,rfl,.refl _,zI _,zI _,hs,hq,he⟩
 | f+1,n,q,p,h1,hz,hs,hq,he=>by
  show ∃p' n' q',ev (lt_ key) (if lt_ key (p.getD n 0) (p.getD (n-1) 0)=true then _ else KasT.ask _ _ _)=(p',n',q')/\_
  cases hl:lt_ key (p.getD n 0) (p.getD (n-1) 0) with
  | true=>
   have step:∀xs:Array Nat,(∀k,kk key xs k=kk key p k)->Fl key xs (n+1):=fun xs hk i j hij hj=>by
    rw[hk,hk]
    by_cases hjn:j<n
    . exact hs i j hij hjn
    . have hj':j=n:=by omega
      subst hj'
      by_cases hi':i=j
      . subst hi';exact KeyOrd.kle_refl _
      . exact KeyOrd.kle_trans (KeyOrd.kle_of_klt hl) (hs i (j-1) (by omega) (by omega))
   by_cases hq0:q > 0
   . have hk:=zDo (key:=key) (p:=p) (i:=n-(q+1)) (j:=n) (by omega) he
     obtain⟨p',n',q',e,a,b,c,d⟩:=zEu f (n+1) 0 (kas_rev p (n-(q+1)) n) (by omega) (by rw[zEi];omega) (step _ hk) (by omega) (fun i h1 h2=>by congr 1;omega)
     exact⟨p',n',q',by simpa [hq0] using e,a.trans (zB3 _ _ _),by omega,by omega,d⟩
   . obtain⟨p',n',q',e,a,b,c,d⟩:=zEu f (n+1) 0 p (by omega) (by omega) (step _ fun _=>rfl) (by omega) (fun i h1 h2=>by congr 1;omega)
     exact⟨p',n',q',by simpa [hq0] using e,a,by omega,by omega,d⟩
  | false=>
   show ∃p' n' q',ev (lt_ key) (if lt_ key (p.getD (n-1) 0) (p.getD n 0)=true then KasT.ret (p,n,q) else kas_desc f p (n+1) (q+1))=(p',n',q')/\_
   cases hr:lt_ key (p.getD (n-1) 0) (p.getD n 0) with
   | true=>exact⟨p,n,q,by simp[ev],.refl _,zI _,by omega,hs,hq,he⟩
   | false=>
    have heq:kk key p n=kk key p (n-1):=KeyOrd.kle_antisymm hr hl
    have hs':Fl key p (n+1):=fun i j hij hj=>by
     by_cases hjn:j<n
     . exact hs i j hij hjn
     . have hj':j=n:=by omega
       subst hj'
       by_cases hi':i=j
       . subst hi';exact KeyOrd.kle_refl _
       . rw[heq];exact hs i (j-1) (by omega) (by omega)
    obtain⟨p',n',q',e,a,b,c,d⟩:=zEu f (n+1) (q+1) p (by omega) (by omega) hs' (by omega) (fun i h1 h2=>by
     rw[show n+1-1=n by omega]
     by_cases hix:i=n
     . subst hix;rfl
     . rw[heq];exact he i (by omega) (by omega))
    exact⟨p',n',q',by simpa using e,a,by omega,by omega,d⟩
theorem zDv {p:Array Nat}{n nrem:Nat}(hn:n+1<=nrem)(hz:nrem<=p.size)(hs:Fl key p (n+1)) :
 ∃m q,ev (lt_ key) (kas_descPart n nrem p)=(m,q)/\q.Perm p/\1<=m/\m<=nrem/\Sr key q m:=by
 unfold kas_descPart
 rw[zDI]
 obtain⟨p',n',q',e,a,b,c,d,hq,he⟩:=zEu (nrem-(n+1)) (n+1) 0 p (by omega) (by omega) hs (by omega) (fun i h1 h2=>by congr 1;omega)
 rw[e]
 dsimp only
 have hz':p'.size=p.size:=a.size_eq
 by_cases hq0:q' > 0
 . rw[if_pos hq0]
   have hk:=zDo (key:=key) (p:=p') (i:=n'-(q'+1)) (j:=n') (by omega) he
   obtain⟨m,r,e2,a2,b2,c2,d2⟩:=zGR (key:=key) (p:=kas_rev p' (n'-(q'+1)) n') (n:=n') (nrem:=nrem) (by omega) (by omega) (by rw[zEi];omega) (fun i j hij hj=>by rw[hk,hk];exact d i j hij hj)
   exact⟨m,r,e2,a2.trans ((zB3 _ _ _).trans a),b2,c2,d2⟩
 . rw[if_neg hq0]
   obtain⟨m,r,e2,a2,b2,c2,d2⟩:=zGR (key:=key) (p:=p') (n:=n') (nrem:=nrem) (by omega) (by omega) (by omega) d
   exact⟨m,r,e2,a2.trans a,b2,c2,d2⟩
theorem zKa {p:Array Nat}{nrem:Nat}(h1:1<=nrem)(hz:nrem<=p.size):∃m q,ev (lt_ key) (kas_count nrem p)=(m,q)/\q.Perm p/\1<=m/\m<=nrem/\Sr key q m:=by
 unfold kas_count
 rw[zDI]
 obtain⟨n,e,a,b,hsn,hor⟩:=zJR (key:=key) (p:=p) (nrem-1) 1 (zI _) (fun i j hij hj=>by have:i=j:=(by omega);subst this;exact KeyOrd.kle_refl _)
 rw[e]
 by_cases hnn:n=nrem
 . rw[if_pos (by simpa using hnn)]
   exact⟨n,p,rfl,.refl _,a,by omega,hsn⟩
 . rw[if_neg (by simpa using hnn)]
   have hlt:O.klt (kk key p n) (kk key p (n-1)):=hor.resolve_left (by omega)
   by_cases hgt:n > 1
   . rw[if_pos hgt]
     show ∃m q,ev (lt_ key) (if lt_ key (p.getD 0 0) (p.getD (n-1) 0)=true then KasT.ret (n,p) else kas_descPart n nrem (kas_rev p 0 n))=(m,q)/\_
     cases hr:lt_ key (p.getD 0 0) (p.getD (n-1) 0) with
     | true=>exact⟨n,p,by simp[ev],.refl _,a,by omega,hsn⟩
     | false=>
      have hall:∀k,0<=k->k<n->kk key p k=kk key p (n-1):=fun k _ hk=>
       KeyOrd.kle_antisymm (hsn k (n-1) (by omega) (by omega)) (KeyOrd.kle_trans hr (hsn 0 k (by omega) hk))
      have hk:=zDo (key:=key) (p:=p) (i:=0) (j:=n) (by omega) hall
      obtain⟨m,q,e2,a2,b2,c2,d2⟩:=zDv (key:=key) (p:=kas_rev p 0 n) (n:=n) (nrem:=nrem) (by omega) (by rw[zEi];omega) (fun i j hij hj=>by
       rw[hk,hk]
       by_cases hjn:j<n
       . rw[hall i (by omega) (by omega),hall j (by omega) hjn];exact KeyOrd.kle_refl _
       . have hj':j=n:=by omega
         subst hj'
         by_cases hi':i=j
         . subst hi';exact KeyOrd.kle_refl _
         . rw[hall i (by omega) (by omega)];exact KeyOrd.kle_of_klt hlt)
      exact⟨m,q,by simpa using e2,a2.trans (zB3 _ _ _),b2,c2,d2⟩
   . rw[if_neg hgt]
     have hn1:n=1:=by omega
     subst hn1
     refine zDv (by omega) hz fun i j hij hj=>?_
     by_cases hi':i=j
     . subst hi';exact KeyOrd.kle_refl _
     . have hi0:i=0:=by omega
       have hj1:j=1:=by omega
       subst hi0;subst hj1
       exact KeyOrd.kle_of_klt hlt
theorem zEk {p:Array Nat}{k:Nat}(hs:Sr key p k):∀(f l r:Nat),l<=r->r<=k->r-l<=f->(∀i,i<l->O.kle (kk key p i) (kk key p k))->(∀i,r<=i->i<k->O.klt (kk key p k) (kk key p i)) ->
 ∃m,ev (lt_ key) (kas_place p k f l r)=m/\m<=k/\(∀i,i<m->O.kle (kk key p i) (kk key p k))/\(∀i,m<=i->i<k->O.klt (kk key p k) (kk key p i))
 | 0,l,r,hlr,hrk,hf,hlo,hhi=>⟨l,rfl,by omega,hlo,fun i h1 h2=>hhi i (by omega) h2⟩
 | f+1,l,r,hlr,hrk,hf,hlo,hhi=>by
  unfold kas_place
  by_cases hge:l ≥ r
  . rw[if_pos hge]
    exact⟨l,rfl,by omega,hlo,fun i h1 h2=>hhi i (by omega) h2⟩
  . rw[if_neg hge]
    show ∃m,ev (lt_ key) (if lt_ key (p.getD k 0) (p.getD ((l+r)/2) 0)=true then kas_place p k f l ((l+r)/2) else kas_place p k f ((l+r)/2+1) r)=m/\_
    cases hl:lt_ key (p.getD k 0) (p.getD ((l+r)/2) 0) with
    | true=>
     obtain⟨m,e,x⟩:=zEk hs f l ((l+r)/2) (by omega) (by omega) (by omega) hlo (fun i h1 h2=>KeyOrd.klt_of_klt_of_kle hl (hs _ _ h1 h2))
     exact⟨m,by simpa using e,x⟩
    | false=>
     obtain⟨m,e,x⟩:=zEk hs f ((l+r)/2+1) r (by omega) (by omega) (by omega) (fun i h1=>KeyOrd.kle_trans (hs i ((l+r)/2) (by omega) (by omega)) (show O.kle _ _ from hl)) hhi
     exact⟨m,by simpa using e,x⟩
theorem zLC:∀(f:Nat)(p:Array Nat)(k:Nat),k+f=p.size->Sr key p k->∃q,ev (lt_ key) (kas_bin f p k)=q/\q.Perm p/\Sr key q (k+f)
 | 0,p,k,_,hs=>⟨p,rfl,.refl _,hs⟩
 | f+1,p,k,hz,hs=>by
  unfold kas_bin
  rw[zDI]
  obtain⟨l,e,hlk,hlo,hhi⟩:=zEk (key:=key) hs k 0 k (by omega) (by omega) (by omega) (fun i h=>by omega) (fun i h1 h2=>by omega)
  rw[e]
  have hs':Sr key (bubble p k (k-l)) (k+1):=fun i j hij hj=>by
   rw[zFQ (by omega) (by omega),zFQ (by omega) (by omega),show k-(k-l)=l by omega]
   repeat' split
   all_goals first
    | (exfalso;omega)
    | exact KeyOrd.kle_refl _
    | exact hlo _ (by omega)
    | exact KeyOrd.kle_of_klt (hhi _ (by omega) (by omega))
    | exact hs _ _ (by omega) (by omega)
  obtain⟨q,e2,a,b⟩:=zLC f (bubble p k (k-l)) (k+1) (by rw[(bubble_perm p k (k-l)).size_eq];omega) hs'
  exact⟨q,e2,a.trans (bubble_perm _ _ _),by rw[show k+(f+1)=k+1+f by omega];exact b⟩
theorem zLQ (n:Nat)(h1:1<=n):∃q,ev (lt_ key) (kas_sort n)=q/\q.Perm (List.range n).toArray/\Sr key q n:=by
 unfold kas_sort
 rw[zDI]
 have hz:(List.range n).toArray.size=n:=by simp
 obtain⟨m,q,e,a,b,c,d⟩:=zKa (key:=key) (p:=(List.range n).toArray) h1 (by omega)
 rw[e]
 dsimp only
 have hq:q.size=n:=by rw[a.size_eq,hz]
 by_cases hm:m<n
 . rw[if_pos hm]
   obtain⟨r,e2,a2,b2⟩:=zLC (key:=key) (n-max m 1) q (max m 1) (by omega) (by rw[show max m 1=m by omega];exact d)
   exact⟨r,e2,a2.trans a,by rw[show max m 1+(n-max m 1)=n by omega] at b2;exact b2⟩
 . rw[if_neg hm]
   have:m=n:=by omega
   subst this
   exact⟨q,rfl,a,d⟩
end
end SortT
namespace SortT
open PySem.W PyProof.Rows
noncomputable def zEB {α:Type}(n:Nat)(R:α->Prop):KasT α->Prop
 | .ret a=>R a
 | .ask i j k=>i<n/\j<n/\∀b,zEB n R (k b)
theorem zEB.bind {α β:Type}{n:Nat}{R:α->Prop}{R':β->Prop}{f:α->KasT β}(hf:∀a,R a->zEB n R' (f a)):∀(t:KasT α),zEB n R t->zEB n R' (t.bind f)
 | .ret a,h=>hf a h
 | .ask _ _ k,h=>⟨h.1,h.2.1,fun b=>zEB.bind hf (k b) (h.2.2 b)⟩
noncomputable def Bd (n:Nat)(p:Array Nat):Prop:=∀i,p.getD i 0<n
theorem Bd.perm {n:Nat}{p q:Array Nat}(h:Bd n q)(hp:p.Perm q):Bd n p:=fun i=>by
 have h0:0<n:=zAD (zh _) (h 0)
 by_cases hi:i<p.size
 . have e:p.getD i 0=p[i]:=by simp[Array.getD,hi]
   rw[e]
   have hm:p[i]∈q.toList:=(Array.perm_iff_toList_perm.mp hp).mem_iff.mp (by simp)
   obtain⟨j,hj,ej⟩:=zx hm
   have hj':j<q.size:=by simpa using hj
   have:=h j
   rw[show q.getD j 0=q[j] by simp[Array.getD,hj']] at this
   rw[<-ej]
   simpa using this
 . have e:p.getD i 0=0:=by simp[Array.getD,hi]
   rw[e];exact h0
theorem zGL {n:Nat}{p:Array Nat}(hp:Bd n p):∀f m,zEB n (fun _=>True) (kas_asc p f m)
 | 0,_=>trivial
 | f+1,m=>⟨hp _,hp _,fun b=>by
  cases b with
  | true=>exact trivial
  | false=>exact zGL hp f (m+1)⟩
theorem zDW {n:Nat}:∀(f:Nat)(p:Array Nat)(m q:Nat),Bd n p->zEB n (fun r=>Bd n r.1) (kas_desc f p m q)
 | 0,_,_,_,hp=>hp
 | f+1,p,m,q,hp=>⟨hp _,hp _,fun b=>by
  cases b with
  | true=>
   show zEB n _ (if q > 0 then kas_desc f (kas_rev p (m-(q+1)) m) (m+1) 0 else kas_desc f p (m+1) 0)
   split
   . exact zDW f _ _ _ (hp.perm (zB3 _ _ _))
   . exact zDW f _ _ _ hp
  | false=>
   refine⟨hp _,hp _,fun d=>?_⟩
   cases d with
   | true=>exact hp
   | false=>exact zDW f _ _ _ hp⟩
theorem zE6 {n m nrem:Nat}{p:Array Nat}(hp:Bd n p):zEB n (fun r=>Bd n r.2) (kas_tail3 m nrem p):=by
 unfold kas_tail3
 exact zEB.bind (R:=fun _=>True) (R':=fun r=>Bd n r.2) (f:=fun k=>KasT.ret (k,kas_rev p 0 m)) (fun a _=>hp.perm (zB3 p 0 m)) _ (zGL (hp.perm (zB3 p 0 m)) _ _)
theorem zDP {n m nrem:Nat}{p:Array Nat}(hp:Bd n p):zEB n (fun r=>Bd n r.2) (kas_descPart m nrem p):=
 zEB.bind (fun r hr=>by
  split
  . exact zE6 (hr.perm (zB3 _ _ _))
  . exact zE6 hr) _ (zDW _ _ _ _ hp)
theorem zJF {n nrem:Nat}{p:Array Nat}(hp:Bd n p):zEB n (fun r=>Bd n r.2) (kas_count nrem p):=
 zEB.bind (fun r _=>by
  split
  . exact hp
  . split
    . refine⟨hp _,hp _,fun b=>?_⟩
      cases b with
      | true=>exact hp
      | false=>exact zDP (hp.perm (zB3 _ _ _))
    . exact zDP hp) _ (zGL hp _ _)
theorem zDf {n k:Nat}{p:Array Nat}(hp:Bd n p):∀f l r,zEB n (fun _=>True) (kas_place p k f l r)
 | 0,_,_=>trivial
 | f+1,l,r=>by
  unfold kas_place
  split
  . exact trivial
  . refine⟨hp _,hp _,fun b=>?_⟩
    cases b with
    | true=>exact zDf hp f _ _
    | false=>exact zDf hp f _ _
theorem zJO {n:Nat}:∀(f:Nat)(p:Array Nat)(k:Nat),Bd n p->zEB n (fun _=>True) (kas_bin f p k)
 | 0,_,_,_=>trivial
 | f+1,p,k,hp=>zEB.bind (fun l _=>zJO f _ _ (hp.perm (bubble_perm _ _ _))) _ (zDf hp _ _ _)
theorem zJr {n:Nat}(h:0<n):zEB n (fun _=>True) (kas_sort n):=
 zEB.bind (fun r hr=>by
  split
  . exact zJO _ _ _ hr
  . exact trivial) _ (zJF fun i=>by
    by_cases hi:i<n
    . simp[Array.getD,hi]
    . simp[Array.getD,hi];exact h)
end SortT
namespace SortT
open PySem PySem.W PySem.Calls PyProof.Rows
theorem wp_ev {α:Type}{cmp:Nat->Nat->(Bool->Shared->Prop)->Shared->Prop}{lt:Nat->Nat->Bool}{n:Nat}{s:Shared}(hc:∀i j C,i<n->j<n->C (lt i j) s->cmp i j C s){R:α->Prop}{Q:α->Shared->Prop} :
 ∀t:KasT α,zEB n R t->Q (ev lt t) s->t.kasWp cmp Q s
 | .ret _,_,h=>h
 | .ask i j k,w,h=>hc i j _ w.1 w.2.1 (wp_ev hc (k (lt i j)) (w.2.2 _) h)
section
variable {prog:Program}{w:World}{A:Around}{E:Value->Shared->Prop}{s:Shared}
structure Put {O:KeyOrd}(key:Nat->O.α)(n:Nat)(out:List Nat):Prop where
 perm:out.Perm (List.range n)
 rise:∀(i j a b:Nat),i<=j->out[i]? = some a->out[j]? = some b->O.kle (key a) (key b)
theorem put_of {O:KeyOrd}{key:Nat->O.α}{n:Nat}{q:Array Nat}(hp:q.Perm (List.range n).toArray)(hs:Sr key q n):Put key n q.toList:=by
 have hl:q.toList.Perm (List.range n):=Array.perm_iff_toList_perm.mp hp
 refine⟨hl,fun i j a b hij ha hb=>?_⟩
 have hz:q.size=n:=by have:=hp.size_eq;simpa using this
 have hj:j<q.toList.length:=(zK.mp hb).1
 have hj':j<n:=by rw[<-hz];simpa using hj
 have h:=hs i j hij hj'
 have ga:q.getD i 0=a:=by
  rw[Array.getD_eq_getD_getElem?,<-Array.getElem?_toList,ha];rfl
 have gb:q.getD j 0=b:=by
  rw[Array.getD_eq_getD_getElem?,<-Array.getElem?_toList,hb];rfl
 unfold kk at h
 rw[ga,gb] at h
 exact h
structure Asks (prog:Program)(w:World)(A:Around)(s:Shared)(a:Addr)(vs:List Value){O:KeyOrd}(key:Nat->O.α)(κ:SortKind):Prop where
 kind:∀(h':Heap)(Q:SortKind->Shared->Prop)(E:Value->Shared->Prop),(∀b o,b≠a->s.heap.get? b=some o->h'.get? b=some o)->Q κ { s with heap:=h' }->wpAny (model prog w) A (keyKind' vs.toArray) Q E { s with heap:=h' }
 less:∀(h':Heap)(i j:Nat)(Q:Bool->Shared->Prop)(E:Value->Shared->Prop),(∀b o,b≠a->s.heap.get? b=some o->h'.get? b=some o)->i<vs.length->j<vs.length->Q (O.blt (key i) (key j)) { s with heap:=h' } ->
  wpAny (model prog w) A (keyLt' κ (vs.getD i Value.none) (vs.getD j Value.none)) Q E { s with heap:=h' }
theorem zFN {a:Addr}{vs:List Value}{n:Nat}{P:PySem.Fin->Shared->Prop}{O:KeyOrd}{key:Nat->O.α}{κ:SortKind}(ho:s.heap.get? a=some (seqObj "list" vs.toArray n)) (h64:vs.length<64)
 (ask:2<=vs.length->Asks prog w A s a vs key κ)
 (h:∀out:List Nat,Put key vs.length out->P (.done (.ret .none)) { s with heap:=sortedHeap s.heap a vs (out.map fun i=>vs.getD i Value.none).toArray }) :
 wpAny (model prog w) A (Builtin.«list.sort» ⟨[.ref a],[]⟩) P E s:=by
 rw[list_sort_plain]
 have ha:a<s.heap.objs.size:=zV ho
 refine zA (listItems_at ho rfl ?_)
 refine zA (listUpdate_at ho rfl ?_ (by rw[zc,sizeLine_eq];omega) (zh _))
 obtain⟨e1,ho1⟩:∃e1,(s.heap.update a (Obj.mapSeq fun _=>#[])).get? a=some (seqObj "list" #[] e1):=⟨_,get?_update_seq ho (fun _=>#[])⟩
 refine zA (seqEpoch_at ho1 rfl ?_)
 refine zA (wpAny_newTuple ?_ (by show vs.length<=_;rw[sizeLine_eq];omega))
 refine zA (wpAny_newList ?_ (zh _))
 refine zAR ?_
 have ho6:(((s.heap.update a (Obj.mapSeq fun _=>#[])).push (seqObj "tuple" vs.toArray 0)).push (seqObj "list" #[] 0)).get? a=some (seqObj "list" #[] e1):=by
  rw[Heap.get?_push_ne _ _ _ (by rw[size_push',Heap.size_update];exact za (zAh ha)),Heap.get?_push_ne _ _ _ (by rw[Heap.size_update];exact za ha)]
  exact ho1
 have keep:∀b o,b≠a->s.heap.get? b=some o->(((s.heap.update a (Obj.mapSeq fun _=>#[])).push (seqObj "tuple" vs.toArray 0)).push (seqObj "list" #[] 0)).get? b=some o:=fun b o hb e=>by
  refine zF _ (zF _ ?_)
  rw[zAo _ _ _ _ hb]
  exact e
 show wpAny (model prog w) A _ P E { s with heap:=((s.heap.update a (Obj.mapSeq fun _=>#[])).push (seqObj "tuple" vs.toArray 0)).push (seqObj "list" #[] 0) }
 dsimp only
 by_cases h2:vs.toArray.size<2
 . rw[if_pos h2,if_pos h2]
   refine zA (zG ?_)
   rw[StateT.run_pure]
   refine zA (zG ?_)
   dsimp only
   refine zA (seqEpoch_at ho6 rfl ?_)
   refine zA (listUpdate_at ho6 rfl ?_ (zh _) (by rw[Array.size_map];show (pairsOf vs).size<=_;rw[pairsOf_size,sizeLine_eq];omega))
   simp only[bne_self_eq_false,zBW,if_false]
   refine zG ?_
   have hlen:vs.length<2:=by simpa using h2
   have hout:(arrOf (SortSt.mk' general' (vs.toArray.zip vs.toArray) #[] 7 none)).map (·.2)=((List.range vs.length).map fun i=>vs.getD i Value.none).toArray:=by
    show (vs.toArray.zip vs.toArray).map (·.2)=_
    match vs,hlen with
    | [],_=>simp
    | [v],_=>simp
    | _::_::_,h=>exfalso;simp only[zt] at h;omega
   have fin:=h (List.range vs.length) ⟨.refl _,fun i j x y hij hx hy=>by
    have hj:j<(List.range vs.length).length:=(zK.mp hy).1
    rw[zu] at hj
    have e:i=j:=by omega
    subst e
    rw[hx] at hy
    cases hy
    exact KeyOrd.kle_refl _⟩
   rw[<-hout] at fin
   exact fin
 . rw[if_neg h2,if_neg h2]
   have h2':2<=vs.length:=by
    have:¬ vs.length<2:=by simpa using h2
    omega
   have K:=ask h2'
   refine zA (K.kind _ _ _ keep ?_)
   obtain⟨q,eq,hp,hs⟩:=zLQ (key:=key) vs.length (by omega)
   have run:(kas_sort vs.length).kasWp (kas_ask prog w A κ vs) (fun p s'=>p=q/\s'={ s with heap:=((s.heap.update a (Obj.mapSeq fun _=>#[])).push (seqObj "tuple" vs.toArray 0)).push (seqObj "list" #[] 0) })
    { s with heap:=((s.heap.update a (Obj.mapSeq fun _=>#[])).push (seqObj "tuple" vs.toArray 0)).push (seqObj "list" #[] 0) }:=
    wp_ev (lt:=lt_ key) (n:=vs.length) (fun i j C hi hj hC=>K.less _ i j C _ keep hi hj hC) _ (zJr (by omega)) ⟨eq,rfl⟩
   refine zA (zAJ (kat_run (ks:=vs) (vs:=vs) (Q:=fun st' s'=>∃p:Array Nat,p.size=vs.length/\arrOf st'=p.map (kas_item (vs.toArray.zip vs.toArray))/\failedOf st'=none/\p=q/\s'={ s with heap:=((s.heap.update a (Obj.mapSeq fun _=>#[])).push (seqObj "tuple" vs.toArray 0)).push (seqObj "list" #[] 0) })
    rfl h2' h64 (fun p' st' s' a1 a2 a3 a4=>⟨p',a1,a2,a3,a4⟩) run) ?_ fun _ _ e=>e)
   rintro ⟨⟨⟩,st'⟩ s' ⟨p,hsz,har,hf,rfl,rfl⟩
   dsimp only
   refine zA (seqEpoch_at ho6 rfl ?_)
   refine zA (listUpdate_at ho6 rfl ?_ (zh _) (by rw[Array.size_map,har,Array.size_map,hsz,sizeLine_eq];omega))
   rw[hf]
   simp only[bne_self_eq_false,zBW,if_false]
   refine zG ?_
   have hout:=kat_snds (ks:=vs) (vs:=vs) rfl har
   have fin:=h p.toList (put_of hp hs)
   rw[<-hout] at fin
   exact fin
theorem sorted_list {l:Addr}{vs:List Value}{Q:Value->Shared->Prop}{O:KeyOrd}{key:Nat->O.α}{κ:SortKind}(hl:s.heap.IsList l vs.toArray)(h64:vs.length<64)
 (ask:2<=vs.length->∀(s':Shared)(a:Addr),(∀b o,s.heap.get? b=some o->b≠a)->(∀b o,s.heap.get? b=some o->s'.heap.get? b=some o)->Asks prog w A.in1.in1 s' a vs key κ)
 (h:∀(D:Addr)(h':Heap)(out:List Nat)(c:Nat),Put key vs.length out->s.heap.objs.size<=D->(∀b o,s.heap.get? b=some o->h'.get? b=some o) ->
  h'.get? D=some (seqObj "list" (out.map fun i=>vs.getD i Value.none).toArray c)->Q (.ref D) { s with heap:=h' }) :
 wpAny (model prog w) A (call (.builtin "sorted") [.ref l]) Q E s:=by
 refine Calls.call_function_entry kind_sorted plain_sorted entry_sorted (args_sorted1 _) ?_
 unfold Builtin.«sorted»
 refine zA (m:=checkCount "sorted" 1 1 _) (zG ?_)
 refine zA (collect_list hl ?_ (by rw[sizeLine_eq];omega))
 refine zA (wpAny_newList ?_ (by rw[sizeLine_eq];omega))
 have hsz:((s.heap.push (seqObj "list" #[] 0)).update s.heap.objs.size (Obj.mapSeq (· ++ vs.toArray))).objs.size=s.heap.objs.size+1:=by
  rw[Heap.size_update,size_push']
 have hoL:(((s.heap.push (seqObj "list" #[] 0)).update s.heap.objs.size (Obj.mapSeq (· ++ vs.toArray))).push (seqObj "list" vs.toArray 0)).get? (s.heap.objs.size+1)=some (seqObj "list" vs.toArray 0):=by
  rw[<-hsz];exact zQ _ rfl
 have keep:∀b o,s.heap.get? b=some o->(((s.heap.push (seqObj "list" #[] 0)).update s.heap.objs.size (Obj.mapSeq (· ++ vs.toArray))).push (seqObj "list" vs.toArray 0)).get? b=some o:=fun b o q=>by
  have hlt:b<s.heap.objs.size:=zV q
  rw[Heap.get?_push_ne _ _ _ (by rw[hsz];exact za (zAh hlt)),zAo _ _ _ _ (za hlt),Heap.get?_push_ne _ _ _ (za hlt)]
  exact q
 show wpAny _ _ _ _ _ { s with heap:=((s.heap.push (seqObj "list" #[] 0)).update s.heap.objs.size (Obj.mapSeq (· ++ vs.toArray))).push (seqObj "list" vs.toArray 0) }
 rw[hsz]
 refine zA (zAR (zA7 slot_list_sort ⟨_,hoL,rfl⟩ entry_list_sort (zFN (O:=O) (key:=key) (κ:=κ) hoL h64 (fun h2=>ask h2 _ _ (fun b o e=>za (zAh (zV e))) keep) fun out hp=>⟨_,rfl,?_⟩) (args_list_sort _)))
 refine zG ⟨_,rfl,?_⟩
 obtain⟨c,hc⟩:=sortedAll_at s.heap vs (out.map fun i=>vs.getD i Value.none).toArray
 exact h _ _ out c hp (zA3 _) (fun b o e=>sortedAll_old e) hc
end
end SortT
namespace DRaw
open PySem PySem.W PySem.Calls PyProof.Rows
noncomputable def At (h:Heap)(d:Addr)(es:Array DictEntry)(ep:Nat):Prop:=∃o,h.get? d=some o/\o.ExactDict/\o.data = .dict es ep
theorem At.keep {h h':Heap}{d:Addr}{es:Array DictEntry}{ep:Nat}(x:At h d es ep)(k:∀o,h.get? d=some o->h'.get? d=some o):At h' d es ep:=
 let ⟨o,ho,r⟩:=x;⟨o,k o ho,r⟩
theorem At.lt {h:Heap}{d:Addr}{es:Array DictEntry}{ep:Nat}(x:At h d es ep):d<h.objs.size:=let ⟨_,ho,_⟩:=x;zV ho
theorem At.typeIs {s:Shared}{d:Addr}{es:Array DictEntry}{ep:Nat}(x:At s.heap d es ep):s.TypeIs (.ref d) "dict" := let ⟨o,ho,hc,_⟩:=x;⟨o,ho,hc.1⟩
section
variable {prog:Program}{w:World}{A:Around}{E:Value->Shared->Prop}{s:Shared}{it d:Addr}{es:Array DictEntry}{i ep:Nat}
theorem iter {Q:Value->Shared->Prop}(hd:(d==sysModules)=false)(hm:At s.heap d es ep)
 (hQ:Q (.ref s.heap.objs.size) { s with heap:=s.heap.push { cls:=.type "dict_keyiterator",data:=.fields #[.ref d,.int 0 0,.int es.size 0,.int ep 0] } }) :
 wpAny (model prog w) A (pyIter (.ref d)) Q E s:=by
 obtain⟨o,ho,hc,hdat⟩:=id hm
 have hT:=hm.typeIs
 refine wpAny_pyIter_slot hT F.slot_dict_iter (zA7 F.slot_dict_iter hT F.entry_dict_iter ?_ (F.args_dict_iter_1 _))
 unfold Builtin.«dict.__iter__»
 refine zA ?_
 unfold Builtin.Dict.dictSlotNone
 refine zA (wpAny_notOrdered_dict hT ?_)
 show wpAny _ _ (pure (Value.ref d)) _ _ s
 refine zG ?_
 show wpAny _ _ (Builtin.Dict.showsAll d >>= _) _ _ s
 unfold Builtin.Dict.showsAll
 rw[if_neg (by rw[hd];exact zm)]
 refine zA (zG ?_)
 refine zA (wpAny_dictEntries ho hdat ?_)
 refine zA (wpAny_dictEpoch ho hdat ?_)
 refine zA (zAs (zG ⟨_,rfl, "dict_keyiterator",_,⟨_,zQ _ rfl,rfl⟩,F.slot_dict_keyiterator_next.lookup,?_⟩))
 simpa [rawInt] using hQ
theorem next {Q:Option Value->Shared->Prop}(hit:s.heap.IsKeyIter it d i es.size ep)(hm:At s.heap d es ep)(hlt':i<es.size)
 (hQ:∀h',h'.IsKeyIter it d (i+1) es.size ep->Heap.SameBut it s.heap h'->Q (some es[i].key) { s with heap:=h' }):wpAny (model prog w) A (pyNext (.ref it)) Q E s:=by
 obtain⟨o,ho,hc,hd⟩:=id hit
 obtain⟨od,hod,hcd,hdd⟩:=id hm
 unfold pyNext
 refine zA (wpAny_attempt (zA1 (name:=Str.ofString "__next__") hit.typeIs F.slot_dict_keyiterator_next
  (zA7 F.slot_dict_keyiterator_next hit.typeIs F.entry_dict_keyiterator_next ?_ (F.args_dict_keyiterator_next_1 _))))
 refine zA (zG ?_)
 refine zA ?_
 refine zA ?_
 first | refine zA (zBu hit.typeIs (zG ?_)) | refine zA (wpAny_typeNameOf_keyiter hit.typeIs (zG ?_))
 refine zA (wpAny_fieldsOf ho hd ?_)
 have hown:Builtin.Dict_items.ownsTuple "dict_keyiterator" = false:=by decide
 simp only[hown,zBW,if_false]
 show wpAny _ _ (if (Value.ref d==Value.none)=true then _ else _) _ _ s
 rw[if_neg (show ¬ ((Value.ref d==Value.none)=true) from zm)]
 refine zA (zG ?_)
 refine zA (wpAny_dictEntries hod hdd ?_)
 rw[if_neg (by simp)]
 refine zA (zG ?_)
 refine zA (wpAny_dictEpoch hod hdd ?_)
 rw[if_neg (by simp)]
 refine zG ?_
 simp only[show ¬ ((i:Int)<0) from by omega,if_false,zAF,Array.getElem?_eq_getElem hlt']
 refine zA ?_
 first | refine zA (zBu hit.typeIs (zG ?_)) | refine zA (wpAny_typeNameOf_keyiter hit.typeIs (zG ?_))
 refine zA (wpAny_isOneOf_keyiter hit.typeIs ?_)
 show wpAny _ _ (setField (.ref it) 1 (rawInt ((i:Int)+1)) >>= _) _ _ s
 refine zA (wpAny_setField ho hd (by simp) ?_)
 have hit':(s.heap.update it (Obj.mapFields (·.setIfInBounds 1 (rawInt ((i:Int)+1))))).IsKeyIter it d (i+1) es.size ep:=
  ⟨_,zAW _ ho (Obj.isFreed_of_fields (Obj.data_mapFields hd _)),(Obj.cls_mapFields ..).trans hc,by rw[Obj.data_mapFields hd];simp[rawInt]⟩
 refine zA (zAR ?_)
 refine zA (wpAny_isOneOf_keyiter (s:={ s with heap:=s.heap.update it (Obj.mapFields (·.setIfInBounds 1 (rawInt ((i:Int)+1)))) }) hit'.typeIs ?_)
 show wpAny _ _ (pure es[i].key) _ _ _
 exact zG (zG ⟨_,rfl,zG (hQ _ hit' (Heap.SameBut.update ..))⟩)
theorem stop {Q:Option Value->Shared->Prop}(hh:A.handled=none)(hit:s.heap.IsKeyIter it d i es.size ep)(hm:At s.heap d es ep)(hge:es.size<=i)
 (hQ:∀h',Heap.ExtBut it s.heap h'->Q none { s with heap:=h' }):wpAny (model prog w) A (pyNext (.ref it)) Q E s:=by
 obtain⟨o,ho,hc,hd⟩:=id hit
 obtain⟨od,hod,hcd,hdd⟩:=id hm
 unfold pyNext
 refine zA (wpAny_attempt (zA1 (name:=Str.ofString "__next__") hit.typeIs F.slot_dict_keyiterator_next
  (zA7 F.slot_dict_keyiterator_next hit.typeIs F.entry_dict_keyiterator_next ?_ (F.args_dict_keyiterator_next_1 _))))
 refine zA (zG ?_)
 refine zA ?_
 refine zA ?_
 first | refine zA (zBu hit.typeIs (zG ?_)) | refine zA (wpAny_typeNameOf_keyiter hit.typeIs (zG ?_))
 refine zA (wpAny_fieldsOf ho hd ?_)
 have hown:Builtin.Dict_items.ownsTuple "dict_keyiterator" = false:=by decide
 simp only[hown,zBW,if_false]
 show wpAny _ _ (if (Value.ref d==Value.none)=true then _ else _) _ _ s
 rw[if_neg (show ¬ ((Value.ref d==Value.none)=true) from zm)]
 refine zA (zG ?_)
 refine zA (wpAny_dictEntries hod hdd ?_)
 rw[if_neg (by simp)]
 refine zA (zG ?_)
 refine zA (wpAny_dictEpoch hod hdd ?_)
 rw[if_neg (by simp)]
 refine zG ?_
 simp only[show ¬ ((i:Int)<0) from by omega,if_false,zAF,Array.getElem?_eq_none hge]
 refine zA ?_
 first | refine zA (zBu hit.typeIs (zG ?_)) | refine zA (wpAny_typeNameOf_keyiter hit.typeIs (zG ?_))
 show wpAny _ _ (setField (.ref it) 0 .none >>= _) _ _ s
 refine zA (wpAny_setField ho hd (by simp) ?_)
 show wpAny _ _ (newExc (.type "StopIteration") [] >>= _) _ _ _
 refine zA ?_
 simp only[newExc,newTuple]
 refine zA (zAs ?_ (by size_fits))
 refine zA (m:=firstArgMember _ _) (wpAny_of_eq (a:=Value.none) (by first | rfl | (simp only[firstArgMember];rfl)) ?_)
 refine zAs ?_ (by size_fits)
 simp only[raiseNew]
 refine zA (wpAny_handled ?_)
 rw[show A.in1.handled=none from hh]
 refine zA (zG (wpAny_throw ?_))
 refine zA (wpAny_isInstance (T := "StopIteration") (b:=true) ⟨_,zQ _ rfl,rfl⟩ isSubtype_stop ?_)
 exact zG (hQ _ (((Heap.SameBut.update ..).extBut.push _).push _))
end
section
variable {prog:Program}{w:World}{A:Around}{d:Addr}{es:Array DictEntry}{ep:Nat}
theorem walks (hh:A.handled=none)(I:Addr)(hne:d≠I):Walks prog w A I [I,d] [I] es.size (fun i v=>∃e,es[i]? = some e/\v=e.key) (fun i h=>h.IsKeyIter I d i es.size ep/\At h d es ep) where
 sub:=fun b hb=>by simp at hb;simp[hb]
 frame:=fun _ _ _ st hk=>⟨st.1.at fun o e=>hk I (by simp) o e,st.2.keep fun o e=>hk d (by simp) o e⟩
 item:=fun i s Q E hi st hQ=>next st.1 st.2 hi fun h' hit' hs'=>
  hQ _ h' s.toks ⟨es[i],by simp[hi],rfl⟩ ⟨hit',st.2.keep fun o e=>hs'.extBut d o hne e⟩ fun b o hb e=>hs'.extBut b o (fun h=>hb (by simp[h])) e
 done:=fun s Q E st hQ=>stop hh st.1 st.2 (zI _) fun h' he'=>hQ h' s.toks fun b o hb e=>he' b o (fun h=>hb (by simp[h])) e
 self:=fun _ _ _ _ st hQ=>wpAny_pyIter_keyiter st.1 hQ
theorem src (lo:(d==sysModules)=false):KdlSrc prog w "dict" d d es.size (fun i v=>∃e,es[i]? = some e/\v=e.key) (fun h=>At h d es ep) where
 type:=fun _ hm=>hm.typeIs
 there:=fun _ hm=>⟨hm.lt,hm.lt⟩
 keep:=fun _ _ hm hk=>hm.keep fun o e=>hk d (.inl rfl) o e
 notList:=by decide
 notTuple:=by decide
 hint:=fun _ _ _ _ hm hq=>kdl_hint_dict hm.typeIs hq
 iter:=fun _ _ hh hm=>⟨_,_,(fun _ _ hq=>iter lo hm hq),walks hh _ (za hm.lt),⟨⟨_,zQ _ rfl,rfl,rfl⟩,hm.keep fun o e=>zF _ e⟩⟩
end
end DRaw
namespace SortT
open PySem PySem.W PySem.Calls PyProof.Rows
theorem sorted_dict {prog:Program}{w:World}{A:Around}{E:Value->Shared->Prop}{s:Shared}{d:Addr}{es:Array DictEntry}{ep:Nat}{vs:List Value}{Q:Value->Shared->Prop}{O:KeyOrd}{key:Nat->O.α}{κ:SortKind}
 (hh:A.handled=none)(lo:(d==sysModules)=false)(hm:DRaw.At s.heap d es ep)(hvs:vs=es.toList.map (·.key))(h64:vs.length<64)
 (ask:2<=vs.length->∀(s':Shared)(a:Addr),(∀b o,s.heap.get? b=some o->b≠a)->(∀b o,s.heap.get? b=some o->s'.heap.get? b=some o)->Asks prog w A.in1.in1 s' a vs key κ)
 (h:∀(h1:Heap)(D:Addr)(h':Heap)(t':Nat)(out:List Nat)(c:Nat),Put key vs.length out->(∀b o,s.heap.get? b=some o->h1.get? b=some o)->h1.objs.size<=D->(∀b o,h1.get? b=some o->h'.get? b=some o) ->
  h'.get? D=some (seqObj "list" (out.map fun i=>vs.getD i Value.none).toArray c)->Q (.ref D) { s with heap:=h',toks:=t' }) :
 wpAny (model prog w) A (call (.builtin "sorted") [.ref d]) Q E s:=by
 have hlen:vs.length=es.size:=by rw[hvs];simp
 refine call_function_entry kind_sorted plain_sorted entry_sorted (args_sorted1 _) ?_
 unfold Builtin.«sorted»
 refine zA (m:=checkCount "sorted" 1 1 _) (zG ?_)
 refine zA (kdu_collect (A:=A.in1) (DRaw.src (es:=es) (ep:=ep) lo) hh hm (by rw[sizeLine_eq];omega) fun h1 tk acc hk hacc=>?_)
 have el:acc.toList=vs:=by
  apply List.ext_getElem?
  intro j
  by_cases hj:j<es.size
  . have hz:j<acc.size:=by rw[hacc.1];exact hj
    obtain⟨e,he,hv⟩:=hacc.2 j acc[j] (by simp[hz])
    rw[Array.getElem?_toList,Array.getElem?_eq_getElem hz,hv,hvs,zJ,Array.getElem?_toList,he]
    rfl
  . rw[zAn (by rw[Array.length_toList,hacc.1];omega),zAn (by omega)]
 rw[el]
 refine zA (wpAny_newList ?_ (by rw[sizeLine_eq];omega))
 have hoL:(h1.push (seqObj "list" vs.toArray 0)).get? h1.objs.size=some (seqObj "list" vs.toArray 0):=zQ _ rfl
 have keep1:∀b o,h1.get? b=some o->(h1.push (seqObj "list" vs.toArray 0)).get? b=some o:=fun b o q=>zF _ q
 refine zA (zAR (zA7 slot_list_sort ⟨_,hoL,rfl⟩ entry_list_sort (zFN (O:=O) (key:=key) (κ:=κ) hoL h64
  (fun h2=>ask h2 _ _ (fun b o e=>za (zV (hk b o e))) fun b o e=>keep1 b o (hk b o e)) fun out hp=>⟨_,rfl,?_⟩) (args_list_sort _)))
 refine zG ⟨_,rfl,?_⟩
 obtain⟨c,hc⟩:=sortedHeap_at (vs:=vs) (out:=(out.map fun i=>vs.getD i Value.none).toArray) hoL
 refine h h1 _ _ _ out c hp hk (zI _) (fun b o e=>?_) hc
 have hb:b<h1.objs.size:=zV e
 rw[sortedHeap_old (za hb) (by rw[zAj];exact zAh hb)]
 exact keep1 b o e
end SortT
namespace L2
open PySem PySem.Spec PyProof.Rows
theorem zEQ:∀a:List Int,HT.lexLt a a=false
 | []=>rfl
 | x::r=>by rw[HT.lexLt_cons,if_pos rfl];exact zEQ r
theorem zDl:∀a b c:List Int,HT.lexLt a b=true->HT.lexLt b c=true->HT.lexLt a c=true
 | [],[],_,h,_=>by cases h
 | [],_::_,[],_,h=>by cases h
 | [],_::_,_::_,_,_=>rfl
 | _::_,[],_,h,_=>by cases h
 | _::_,_::_,[],_,h=>by cases h
 | x::a,y::b,z::c,h1,h2=>by
  rw[HT.lexLt_cons] at h1 h2 ⊢
  by_cases e1:x=y
  . subst e1
    rw[if_pos rfl] at h1
    by_cases e2:x=z
    . subst e2
      rw[if_pos rfl] at h2 ⊢
      exact zDl a b c h1 h2
    . rw[if_neg e2] at h2 ⊢;exact h2
  . rw[if_neg e1] at h1
    have l1:x<y:=of_decide_eq_true h1
    by_cases e2:y=z
    . subst e2;rw[if_neg e1];exact h1
    . rw[if_neg e2] at h2
      have l2:y<z:=of_decide_eq_true h2
      rw[if_neg (by omega)]
      exact zU (by omega)
theorem zDm:∀a b:List Int,HT.lexLt a b=false->HT.lexLt b a=false->a=b
 | [],[],_,_=>rfl
 | [],_::_,h,_=>by cases h
 | _::_,[],_,h=>by cases h
 | x::a,y::b,h1,h2=>by
  rw[HT.lexLt_cons] at h1 h2
  by_cases e:x=y
  . subst e
    rw[if_pos rfl] at h1 h2
    rw[zDm a b h1 h2]
  . rw[if_neg e] at h1
    rw[if_neg (Ne.symm e)] at h2
    have l1:=of_decide_eq_false h1
    have l2:=of_decide_eq_false h2
    omega
theorem zMG (a b c:List Int)(h:HT.lexLt a c=true):HT.lexLt a b=true\/HT.lexLt b c=true:=by
 cases h1:HT.lexLt a b with
 | true=>exact .inl rfl
 | false=>
  cases h2:HT.lexLt b a with
  | true=>exact .inr (zDl b a c h2 h)
  | false=>rw[<-zDm a b h1 h2];exact .inr h
noncomputable def zKM:KeyOrd:=⟨List Int,HT.lexLt,zEQ,zDl,zMG,zDm⟩
noncomputable def zJT (ms:List (List Int)):Prop:=ms.Pairwise fun a b=>HT.lexLt b a=false
noncomputable def zAk (H:Hp):List V->List (List Int)->Prop
 | [],[]=>True
 | x::xs,k::ks=>(∃a,x = .ref a/\H a=some (.tup (k.map V.int))/\k≠[])/\zAk H xs ks
 | _,_=>False
theorem zAk.length {H:Hp}:∀{xs:List V}{ks:List (List Int)},zAk H xs ks->xs.length=ks.length
 | [],[],_=>rfl
 | [],_::_,h=>h.elim
 | _::_,[],h=>h.elim
 | _::_,_::_,h=>by rw[zt,zt,zAk.length h.2]
theorem zAk.get {H:Hp}:∀{xs:List V}{ks:List (List Int)}{i:Nat}{x:V},zAk H xs ks->xs[i]? = some x->∃a k,x = .ref a/\ks[i]? = some k/\H a=some (.tup (k.map V.int))/\k≠[]
 | [],_,_,_,_,h=>by simp at h
 | _::_,[],_,_,h,_=>h.elim
 | y::_,k::_,0,x,h,e=>by
  obtain⟨⟨a,h1,h2,h3⟩,_⟩:=h
  have e':y=x:=by simpa using e
  subst e'
  exact⟨a,k,h1,rfl,h2,h3⟩
 | _::_,_::_,i+1,x,h,e=>by
  obtain⟨a,k,h1,h2,h3⟩:=zAk.get (i:=i) h.2 (by simpa using e)
  exact⟨a,k,h1,by simpa using h2,h3⟩
theorem zAk.mk {H:Hp}:∀{xs:List V}{ks:List (List Int)},xs.length=ks.length->(∀(i:Nat)(x:V)(k:List Int),xs[i]? = some x->ks[i]? = some k->∃a,x=V.ref a/\H a=some (.tup (k.map V.int))/\k≠[])->zAk H xs ks
 | [],[],_,_=>trivial
 | [],_::_,e,_=>by simp at e
 | _::_,[],e,_=>by simp at e
 | x::xs,k::ks,e,h=>⟨h 0 x k rfl rfl,zAk.mk (by simpa using e) fun i x' k' h1 h2=>h (i+1) x' k' (by simpa using h1) (by simpa using h2)⟩
theorem zAk.keep {H H':Hp}{xs:List V}{ks:List (List Int)}(h:zAk H xs ks)(k:∀b ys,H b=some (.tup ys)->H' b=some (.tup ys)):zAk H' xs ks:=
 zAk.mk h.length fun i x c h1 h2=>by
  obtain⟨a,c',e1,e2,e3,e4⟩:=h.get h1
  rw[h2] at e2
  cases e2
  exact⟨a,e1,k a _ e3,e4⟩
theorem zAk.snoc {H:Hp}:∀{xs:List V}{ks:List (List Int)}{x:V}{k:List Int},zAk H xs ks->(∃a,x = .ref a/\H a=some (.tup (k.map V.int))/\k≠[])->zAk H (xs++[x]) (ks++[k])
 | [],[],_,_,_,h=>⟨h,trivial⟩
 | [],_::_,_,_,t,_=>t.elim
 | _::_,[],_,_,t,_=>t.elim
 | _::_,_::_,_,_,t,h=>⟨t.1,zAk.snoc t.2 h⟩
section
variable {prog:Program}{w:World}{A:Around}{s:Shared}
theorem zDq {fin:Bool}{Q:Bool->Shared->Prop}:∀(ns ms:List Int)(us ws:List Value)(i:Nat),IntsAre us ns->IntsAre ws ms->fin=decide (ns.length<ms.length)->Q (HT.lexLt ns ms) s ->
 PySem.W.KatLex prog w A true fin Q (us.zip ws) i s
 | [],[],_,_,_,.nil,.nil,e,q=>by subst e;exact q
 | [],_::_,_,_,_,.nil,.cons _ _ _,e,q=>by subst e;exact q
 | _::_,[],_,_,_,.cons _ _ _,.nil,e,q=>by subst e;exact q
 | n::ns,m::ms,_,_,i,.cons _ t hu,.cons _ u hw,e,q=>by
  rw[HT.lexLt_cons] at q
  refine PySem.W.kat_cons (wpAny_eqBool_int ?_)
  by_cases h:n=m
  . rw[if_pos h] at q
    rw[show (n==m)=true by simpa using h]
    exact PySem.W.kat_yes (zDq ns ms _ _ (i+1) hu hw (by rw[e];simp) q)
  . rw[if_neg h] at q
    rw[show (n==m)=false by simpa using h]
    refine PySem.W.kat_no ?_
    cases i with
    | zero=>exact oneLt_int q
    | succ j=>exact PySem.W.kat_one _ _ (PyProof.Rows.lt_int q)
theorem zFq {X:Cx}{pins:List (Addr×Obj)}{σ:St}{H:Hp}{s s':Shared}{a:Addr}{ys:List V}{ks:List (List Int)}{vs:List Value}{A:Around}(I:Inv X pins σ H s)(T:zAk H ys ks)(r:zBJ ys vs)(hne:0<vs.length)
 (fa:∀b o,s.heap.get? b=some o->b≠a)(kp:∀b o,s.heap.get? b=some o->s'.heap.get? b=some o):SortT.Asks X.prog X.w A s' a vs (O:=zKM) (fun i=>ks.getD i []) (tuples' true):=by
 have hl:=T.length
 have hv:=r.length
 have at_:∀(h':Heap),(∀b o,b≠a->s'.heap.get? b=some o->h'.get? b=some o)->∀i,i<vs.length->∃(p:Addr)(k:List Int)(us:List Value)(o:Obj)(n:Nat),vs[i]? = some (Value.ref p)/\ks[i]? = some k/\k≠[]/\IntsAre us k/\h'.get? p=some o/\o.cls = .type "tuple" /\ o.data = .seq us.toArray n:=fun h' kh i hi=>by
  have hy:i<ys.length:=by omega
  obtain⟨p,k,e1,e2,e3,e4⟩:=T.get (i:=i) (x:=ys[i]) (by simp[hy])
  obtain⟨u,hu,ru⟩:=r.get (i:=i) (x:=ys[i]) (by simp[hy])
  rw[e1] at ru
  cases (show u=Value.ref p from ru)
  obtain⟨_,its,rv,o,ho,hc,n,hd⟩:=I.hok p _ e3
  exact⟨p,k,its,o,n,hu,e2,e4,zBc rv,kh p o (fa p o ho) (kp p o ho),hc,hd⟩
 refine⟨fun h' Q E kh q=>?_,fun h' i j Q E kh hi hj q=>?_⟩
 . -- all keys are tuples whose first items are ints
   have tups:∀(m:Nat),m<=vs.length->∃fs:List Value,PySem.W.KatTups h' (vs.drop (vs.length-m)) fs/\fs.length=m/\∀f∈fs,∃x t,f=Value.int x t:=by
    intro m
    induction m with
    | zero=>intro _;exact⟨[],by rw[Nat.sub_zero,List.drop_length];exact trivial,rfl,fun f hf=>by simp at hf⟩
    | succ m ih=>
     intro hm
     obtain⟨fs,t,e,hf⟩:=ih (by omega)
     obtain⟨p,k,us,o,n,hu,hk,hk0,hI,ho,hc,hd⟩:=at_ h' kh (vs.length-(m+1)) (by omega)
     have ed:vs.drop (vs.length-(m+1))=Value.ref p::vs.drop (vs.length-m):=by
      have hlt:vs.length-(m+1)<vs.length:=by omega
      rw[List.drop_eq_getElem_cons hlt,show vs.length-(m+1)+1=vs.length-m by omega]
      have:vs[vs.length-(m+1)]=Value.ref p:=by
       rw[zC hlt] at hu
       exact zP hu
      rw[this]
     cases hI with
     | nil=>exact absurd rfl hk0
     | cons x tx hI'=>
      refine⟨Value.int x tx::fs,by rw[ed];exact PySem.W.KatTups.cons ho hc hd rfl t,by rw[zt,e],fun f hf'=>?_⟩
      rcases ze.mp hf' with rfl | hf'
      . exact⟨x,tx,rfl⟩
      . exact hf f hf'
   obtain⟨fs,t,e,hf⟩:=tups vs.length (zI _)
   rw[Nat.sub_self,List.drop_zero] at t
   refine PySem.W.kat_kind (T:=Value.type "int") t (by omega) (fun v hv=>?_) (by rfl) q
   obtain⟨x,tx,rfl⟩:=hf v hv
   exact PySem.W.Looks.of_pure rfl
 . obtain⟨p,k,us,o,n,hu,hk,_,hI,ho,hc,hd⟩:=at_ h' kh i hi
   obtain⟨p2,k2,us2,o2,n2,hu2,hk2,_,hI2,ho2,hc2,hd2⟩:=at_ h' kh j hj
   have e1:vs.getD i Value.none = .ref p:=by rw[zD,hu];rfl
   have e2:vs.getD j Value.none = .ref p2:=by rw[zD,hu2];rfl
   have g1:ks.getD i []=k:=by rw[zD,hk];rfl
   have g2:ks.getD j []=k2:=by rw[zD,hk2];rfl
   rw[e1,e2]
   refine PySem.W.kat_lt (s:={ s' with heap:=h' }) ho hd ho2 hd2 ?_
   have q':Q (HT.lexLt k k2) { s' with heap:=h' }:=by
    have:zKM.blt (ks.getD i []) (ks.getD j [])=HT.lexLt k k2:=by rw[g1,g2];rfl
    rw[<-this];exact q
   have l1:=hI.length
   have l2:=hI2.length
   exact zDq k k2 us us2 0 hI hI2 (by simp only[zc];rw[l1,l2]) q'
theorem zGh {H:Hp}{ys:List V}{ks:List (List Int)}{vs:List Value}{out:List Nat}(T:zAk H ys ks)(r:zBJ ys vs)(p:SortT.Put (O:=zKM) (fun i=>ks.getD i []) vs.length out) :
 ∃zs ms,zAk H zs ms/\ms.Perm ks/\zJT ms/\zBJ zs (out.map fun i=>vs.getD i Value.none)/\zs.length=ys.length:=by
 have hl:=T.length
 have hv:=r.length
 have hb:∀i∈out,i<vs.length:=fun i hi=>zAd.mp (p.perm.mem_iff.mp hi)
 refine⟨out.map fun i=>ys.getD i .non,out.map fun i=>ks.getD i [],zAk.mk (by rw[zB,zB]) fun j x k hx hk=>?_,?_,?_,?_,?_⟩
 . rw[zJ] at hx hk
   cases e:out[j]? with
   | none=>rw[e] at hx;cases hx
   | some i=>
    rw[e] at hx hk
    have hi:=hb i (zS e)
    have hy:i<ys.length:=by omega
    obtain⟨a,c,e1,e2,e3,e4⟩:=T.get (i:=i) (x:=ys[i]) (by simp[hy])
    have ex:ys.getD i .non=x:=zP hx
    have ek:ks.getD i []=k:=zP hk
    rw[zD,zC hy] at ex
    rw[zD,e2] at ek
    have ex':ys[i]=x:=ex
    have ek':c=k:=ek
    subst ek'
    exact⟨a,by rw[<-ex'];exact e1,e3,e4⟩
 . have h1:=p.perm.map fun i=>ks.getD i []
   have h2:(List.range vs.length).map (fun i=>ks.getD i [])=ks:=by
    rw[show vs.length=ks.length by omega]
    apply List.ext_getElem?
    intro j
    rw[zJ]
    by_cases hj:j<ks.length
    . rw[zBs hj,zC hj];simp[hj]
    . rw[zAn (by rw[zu];omega),zAn (by omega)];rfl
   rw[h2] at h1
   exact h1
 . refine zAi.mpr fun i j hi hj hij=>?_
   rw[zB] at hi hj
   have:=p.rise i j out[i] out[j] (zBo hij) (by simp) (by simp)
   have h3:HT.lexLt (ks.getD out[j] []) (ks.getD out[i] [])=false:=this
   simpa using h3
 . have:∀l:List Nat,(∀i∈l,i<vs.length)->zBJ (l.map fun i=>ys.getD i .non) (l.map fun i=>vs.getD i Value.none):=by
    intro l
    induction l with
    | nil=>intro _;exact .nil
    | cons i l ih=>
     intro h
     have hi:=h i zd
     have hy:i<ys.length:=by omega
     obtain⟨u,hu,ru⟩:=r.get (i:=i) (x:=ys[i]) (by simp[hy])
     refine .cons ?_ (ih fun j hj=>h j (zb _ hj))
     show zBT (ys.getD i V.non) (vs.getD i Value.none)
     rw[zD,zC hy,zD,hu]
     exact ru
   exact this out hb
 . rw[zB,p.perm.length_eq,zu];omega
theorem zDF {X:Cx}{pins:List (Addr×Obj)}{σ:St}{H:Hp}{s:Shared}{h':Heap}{D:Addr}{c t':Nat}{zs:List V}{us:List Value}(I:Inv X pins σ H s)(hD:s.heap.objs.size<=D)(kp:∀b o,s.heap.get? b=some o->h'.get? b=some o)
 (ho:h'.get? D=some (seqObj "list" us.toArray c)) (r:zBJ zs us)(hz:zs.length<=sizeLine):Inv X pins σ (upd H D (.lst zs)) { s with heap:=h',toks:=t' }:=
 I.laid kp hD (show zBM X.prog X.w _ _ _ (.lst zs) from ⟨hz,us,c,r,ho⟩)
end
section
variable {X:Cx}
theorem zGJ:zCo X (.builtin "sorted") (fun xs H Q=>∃p ys ks,xs=[.ref p]/\SqL X.K H p ys/\zAk H ys ks/\ks.length<64 /\
 ∀l zs ms,H l=none->zAk H zs ms->ms.Perm ks->zJT ms->Q (.ref l) (upd H l (.lst zs))):=by
 intro pins s σ H xs us Q I r h
 obtain⟨p,ys,ks,rfl,hq,T,h64,q⟩:=h
 obtain⟨u,rfl,rx⟩:=zCn r
 cases rx
 obtain⟨its,r',pl,hz⟩:=I.list hq
 have hl:=T.length
 have hv:=r'.length
 refine SortT.sorted_list (O:=zKM) (key:=fun i=>ks.getD i []) (κ:=tuples' true) pl.isList (by omega) (fun h2 s' a fa kp=>zFq I T r' (by omega) fa kp) fun D h' out c pt hD kp ho=>?_
 obtain⟨zs,ms,T2,hp,hr,rz,hlz⟩:=zGh T r' pt
 exact⟨.ref D,_,zDF (t':=s.toks) I hD kp ho rz (by omega),rfl,q D zs ms (I.hok.fresh hD) T2 hp hr⟩
theorem zFh (hc:X.calm=true):zCo X (.builtin "sorted") (fun xs H Q=>∃p kvs ks,xs=[.ref p]/\H p=some (.dT kvs)/\kvs.map (·.1)=ks.map (List.map Sum.inl)/\(∀k∈ks,k≠[])/\ks.length<64 /\
 ∀l zs ms,H l=none->zAk H zs ms->ms.Perm ks->zJT ms->Q (.ref l) (upd H l (.lst zs))):=by
 intro pins s σ H xs us Q I r h
 obtain⟨p,kvs,ks,rfl,hd,hks,hk0,h64,q⟩:=h
 obtain⟨u,rfl,rx⟩:=zCn r
 cases rx
 obtain⟨hz,lo,xs,rel,o,es,ep,ho,hx,hdat,hes,hnd⟩:=I.hok p _ hd
 have key:∀(kvs:List (List Key×V))(xs:List (List Key×Addr×Value))(ks:List (List Int)),KT H kvs xs->kvs.map (·.1)=ks.map (List.map Sum.inl)->(∀k∈ks,k≠[]) ->
  zAk H (xs.map fun q=>V.ref q.2.1) ks/\zBJ (xs.map fun q=>V.ref q.2.1) ((xs.map (entryOfKey (tupleKind (zA9 X.prog X.w)))).map (·.key)):=by
  intro kvs xs ks rel
  induction rel generalizing ks with
  | nil=>
   intro e _
   cases ks with
   | nil=>exact⟨trivial,.nil⟩
   | cons k ks=>simp at e
  | cons hpq _ ih=>
   intro e h0
   cases ks with
   | nil=>simp at e
   | cons k ks=>
    simp only[zz,List.cons.injEq] at e
    obtain⟨T,V⟩:=ih ks e.2 fun c hc=>h0 c (zb _ hc)
    obtain⟨e1,e2,_⟩:=hpq
    refine⟨⟨⟨_,rfl,?_,h0 k zd⟩,T⟩,.cons rfl V⟩
    rw[e2,e.1,zBp]
    rfl
 obtain⟨T,rv⟩:=key kvs xs ks rel hks hk0
 have hl:=T.length
 have hv:=rv.length
 have evs:(xs.map (entryOfKey (tupleKind (zA9 X.prog X.w)))).map (·.key)=es.toList.map (·.key):=by rw[hes]
 refine SortT.sorted_dict (O:=zKM) (key:=fun i=>ks.getD i []) (κ:=tuples' true) (vs:=(xs.map (entryOfKey (tupleKind (zA9 X.prog X.w)))).map (·.key)) (I.ok.hd hc) lo ⟨o,ho,hx,hdat⟩ evs (by omega) (fun h2 s' a fa kp=>zFq I T rv (by omega) fa kp) fun h1 D h' t' out c pt k1 hD k2 ho=>?_
 obtain⟨zs,ms,T2,hp,hr,rz,hlz⟩:=zGh T rv pt
 have I1:Inv X pins σ H { s with heap:=h1,toks:=s.toks }:=I.kept k1
 refine⟨.ref D,_,zDF (s:={ s with heap:=h1,toks:=s.toks }) (t':=t') I1 hD k2 ho rz ?_,rfl,q D zs ms (I1.hok.fresh hD) T2 hp hr⟩
 have:sizeLine=16777216:=rfl
 omega
end
end L2
namespace L2
open PySem PySem.Spec PyProof.Rows
mutual
inductive zEC (H:Hp):V->PyData->Prop
 | non:zEC H .non .none
 | bl (b:Bool):zEC H (.bl b) (.bool b)
 | int (i:Int):zEC H (.int i) (.int i)
 | str (x:Str):zEC H (.str x) (.str x)
 | tup {a:Addr}{xs:List V}{ds:List PyData}:H a=some (.tup xs)->zB4 H xs ds->zEC H (.ref a) (.tuple ds)
 | lst {a:Addr}{xs:List V}{ds:List PyData}:H a=some (.lst xs)->zB4 H xs ds->zEC H (.ref a) (.list ds)
inductive zB4 (H:Hp):List V->List PyData->Prop
 | nil:zB4 H [] []
 | cons {x:V}{xs:List V}{d:PyData}{ds:List PyData}:zEC H x d->zB4 H xs ds->zB4 H (x::xs) (d::ds)
end
section
variable {P:Program}{w:World}{H:Hp}{h:Heap}
mutual
theorem zEC.reads (ok:HOk P w H h):∀{x:V}{d:PyData},zEC H x d->∀{u:Value},zBT x u->∃as,Reads h u d as
 | _,_,.non,u,r=>by cases (show u=Value.none from r);exact⟨_,.none⟩
 | _,_,.bl b,u,r=>by cases (show u=Value.bool b from r);exact⟨_,.bool b⟩
 | _,_,.int i,u,r=>by obtain⟨t,rfl⟩:=r;exact⟨_,.int i t⟩
 | _,_,.str x,u,r=>by obtain⟨t,rfl⟩:=r;exact⟨_,.str x t⟩
 | _,_,.tup (a:=a) e s,u,r=>by
  cases (show u=Value.ref a from r)
  obtain⟨_,its,rv,o,ho,hc,n,hd⟩:=ok a _ e
  obtain⟨as,ra⟩:=zB4.reads ok s rv
  exact⟨_,.tuple ho hc hd (by simpa using ra)⟩
 | _,_,.lst (a:=a) e s,u,r=>by
  cases (show u=Value.ref a from r)
  obtain⟨_,its,n,rv,ho⟩:=ok a _ e
  obtain⟨as,ra⟩:=zB4.reads ok s rv
  exact⟨_,.list ho rfl rfl (by simpa using ra)⟩
theorem zB4.reads (ok:HOk P w H h):∀{xs:List V}{ds:List PyData},zB4 H xs ds->∀{us:List Value},zBJ xs us->∃as,ReadsAll h us ds as
 | _,_,.nil,us,r=>by cases r;exact⟨_,.nil⟩
 | _,_,.cons s t,us,r=>by
  cases r with
  | cons r1 r2=>
   obtain⟨a1,h1⟩:=zEC.reads ok s r1
   obtain⟨a2,h2⟩:=zB4.reads ok t r2
   exact⟨_,.cons h1 h2⟩
end
end
section
variable {X:Cx}
end
end L2
namespace L2
open PySem PySem.Spec PyProof.Rows
section
variable {X:Cx}{es xs:List Expr}{t t1:TA}
theorem zB6 {i j pos} (hr:PA X es t):PA X (.Constant (.int i) j pos::es) (zLK (tC (.int i)) t):=zE zj hr (by rfl)
theorem pa_lst {pos} (h:PA X xs t1)(hr:PA X es t):PA X (.List xs pos::es) (zLK (tLst t1) t):=zE (zB9 h) hr (by rfl)
end
inductive zD1:List Expr->List Int->Prop where
 | nil:zD1 [] []
 | cons {i:Int}{j:Nat}{pos:Pos}{es:List Expr}{ns:List Int}:zD1 es ns->zD1 (.Constant (.int i) j pos::es) (i::ns)
theorem zLp {X:Cx}{es:List Expr}{ns:List Int}(h:zD1 es ns):PA X es (fun _ H Q=>Q (ns.map V.int) H):=by
 induction h with
 | nil=>exact zO
 | cons _ ih=>
  intro pos pins s σ H Q I q
  exact (zB6 ih) pos pins s σ H Q I q
inductive zDB:List Expr->List (List Int)->Prop where
 | nil:zDB [] []
 | cons {xs:List Expr}{ns:List Int}{pos:Pos}{es:List Expr}{nss:List (List Int)}:zD1 xs ns->ns.length<=sizeLine->zDB es nss->zDB (.List xs pos::es) (ns::nss)
noncomputable def zKk:List (List Int)->TA
 | []=>tNil
 | ns::r=>fun σ H Q=>∀p,H p=none->zKk r σ (upd H p (.lst (ns.map V.int))) fun xs H2=>Q (.ref p::xs) H2
theorem zKF {X:Cx}{es:List Expr}{nss:List (List Int)}(h:zDB es nss):PA X es (zKk nss):=by
 induction h with
 | nil=>exact zO
 | cons hx hl _ ih=>
  intro pos pins s σ H Q I q
  exact (pa_lst (zLp hx) ih) pos pins s σ H Q I ⟨by rw[zB];exact hl,fun p hp=>q p hp⟩
end L2
namespace WM
theorem zGm {α:Type} [DecidableEq α]:∀{l₁ l₂:List α},l₁.Nodup->(∀x∈l₁,x∈l₂)->l₁.length<=l₂.length
 | [],_,_,_=>zh _
 | x::r,l₂,h,s=>by
  obtain⟨h1,h2⟩:=zAN.mp h
  have hx:x∈l₂:=s x zd
  have ih:=zGm (l₁:=r) (l₂:=l₂.erase x) h2 fun y hy=>by
   have hne:y≠x:=fun e=>h1 (e ▸ hy)
   exact (List.mem_erase_of_ne hne).mpr (s y (zb _ hy))
  rw[List.length_erase_of_mem hx] at ih
  have:0<l₂.length:=List.length_pos_of_mem hx
  rw[zt]
  omega
noncomputable def lowTo (n:Nat):List Int:=(List.range n).map fun (i:Nat)=>(i:Int)
theorem zCA {n:Nat}{x:Int}:x∈lowTo n↔0<=x/\x<n:=by
 unfold lowTo
 rw[zp]
 constructor
 . rintro ⟨i,hi,rfl⟩
   have:=zAd.mp hi
   omega
 . rintro ⟨h0,h1⟩
   exact⟨x.toNat,zAd.mpr (by omega),by omega⟩
theorem nd_len {n:Nat}{l:List Int}(h:l.Nodup)(hb:∀x∈l,0<=x/\x<n):l.length<=n:=by
 have:=zGm h (l₂:=lowTo n) fun x hx=>zCA.mpr (hb x hx)
 simpa [lowTo] using this
theorem zFE:∀{l₁ l₂:List Int},l₁.Pairwise (· < ·)->l₂.Pairwise (· < ·)->(∀x,x∈l₁↔x∈l₂)->l₁=l₂
 | [],[],_,_,_=>rfl
 | [],y::_,_,_,h=>by have:=(h y).mpr zd;simp at this
 | x::_,[],_,_,h=>by have:=(h x).mp zd;simp at this
 | x::r,y::q,h1,h2,h=>by
  obtain⟨a1,b1⟩:=List.pairwise_cons.mp h1
  obtain⟨a2,b2⟩:=List.pairwise_cons.mp h2
  have e:x=y:=by
   rcases ze.mp ((h x).mp zd) with e | e
   . exact e
   . rcases ze.mp ((h y).mpr zd) with e' | e'
     . exact e'.symm
     . have:=a2 x e;have:=a1 y e';omega
  subst e
  refine congrArg (x :: ·) (zFE b1 b2 fun z=>?_)
  constructor
  . intro hz
    rcases ze.mp ((h z).mp (zb _ hz)) with e | e
    . subst e;have:=a1 z hz;omega
    . exact e
  . intro hz
    rcases ze.mp ((h z).mpr (zb _ hz)) with e | e
    . subst e;have:=a2 z hz;omega
    . exact e
theorem zC8 (n:Nat):(lowTo n).Pairwise (· < ·):=by
 unfold lowTo
 rw[zAt]
 exact List.pairwise_lt_range.imp fun h=>by omega
noncomputable abbrev T3:=Int×Int×Int
noncomputable def tl (t:T3):List Int:=[t.1,t.2.1,t.2.2]
structure GW (n:Int)(ts:List T3):Prop where
 n1:1<=n
 n24:n<=24
 len:ts.length<64
 rng:∀t∈ts,0<=t.1/\t.1<t.2.1/\t.2.1<n/\1<=t.2.2/\t.2.2<=99
 dis:ts.Pairwise fun s t=>¬ (s.1=t.1/\s.2.1=t.2.1)
noncomputable def Adj (ts:List T3)(x y l:Int):Prop:=(x,y,l)∈ts\/(y,x,l)∈ts
theorem Adj.symm {ts:List T3}{x y l:Int}(h:Adj ts x y l):Adj ts y x l:=h.elim .inr .inl
theorem GW.uniq {n:Int}{ts:List T3}(g:GW n ts){x y l l':Int}(h:Adj ts x y l)(h':Adj ts x y l'):l=l':=by
 have key:∀{ts:List T3},ts.Pairwise (fun s t=>¬ (s.1=t.1/\s.2.1=t.2.1))->∀{a b l l':Int},(a,b,l)∈ts->(a,b,l')∈ts->l=l':=by
  intro ts
  induction ts with
  | nil=>intro _ a b l l' h;simp at h
  | cons t r ih=>
   intro hp a b l l' h h'
   obtain⟨q,hr⟩:=List.pairwise_cons.mp hp
   rcases ze.mp h with e | e
   . rcases ze.mp h' with e' | e'
     . rw[<-e] at e';injection e' with _ e2;injection e2 with _ e3;exact e3.symm
     . exact absurd (by rw[<-e];exact⟨rfl,rfl⟩) (q _ e')
   . rcases ze.mp h' with e' | e'
     . exact absurd (by rw[<-e'];exact⟨rfl,rfl⟩) (q _ e)
     . exact ih hr e e'
 rcases h with h | h <;> rcases h' with h' | h'
 . exact key g.dis h h'
 . have:=g.rng _ h;have:=g.rng _ h';simp only at *;omega
 . have:=g.rng _ h;have:=g.rng _ h';simp only at *;omega
 . exact key g.dis h h'
theorem GW.adj {n:Int}{ts:List T3}(g:GW n ts){x y l:Int}(h:Adj ts x y l):0<=x/\x<n/\0<=y/\y<n/\x≠y/\1<=l/\l<=99:=by
 rcases h with h | h <;> (have:=g.rng _ h;simp only at *;omega)
noncomputable def fd (p:Int):List T3->List (List Int)
 | []=>[]
 | t::r=>(if t.1=p then [[t.2.1,t.2.2]] else [])++(if t.2.1=p then [[t.1,t.2.2]] else [])++fd p r
theorem zFY (p:Int):∀a b:List T3,fd p (a++b)=fd p a++fd p b
 | [],b=>rfl
 | t::r,b=>by show _++_++fd p (r++b)=_;rw[zFY p r b];simp[fd,List.append_assoc]
theorem zEP {p:Int}{k:List Int}:∀{ts:List T3},k∈fd p ts↔∃y l,k=[y,l]/\Adj ts p y l
 | []=>by simp[fd,Adj]
 | (a,b,c)::r=>by
  have ih:=zEP (p:=p) (k:=k) (ts:=r)
  show k∈_++_++fd p r↔_
  rw[zAC,zAC,ih]
  simp only
  constructor
  . rintro ((h | h) | ⟨y,l,e,h⟩)
    . split at h
      . rename_i e;simp at h;subst e;exact⟨b,c,h,.inl zd⟩
      . simp at h
    . split at h
      . rename_i e;simp at h;subst e;exact⟨a,c,h,.inr zd⟩
      . simp at h
    . exact⟨y,l,e,h.elim (fun z=>.inl (zb _ z)) fun z=>.inr (zb _ z)⟩
  . rintro ⟨y,l,e,h⟩
    rcases h with h | h
    . rcases ze.mp h with q | q
      . injection q with q1 q2;injection q2 with q2 q3;subst q1 q2 q3
        exact .inl (.inl (by simp[e]))
      . exact .inr ⟨y,l,e,.inl q⟩
    . rcases ze.mp h with q | q
      . injection q with q1 q2;injection q2 with q2 q3;subst q1 q2 q3
        exact .inl (.inr (by simp[e]))
      . exact .inr ⟨y,l,e,.inr q⟩
theorem zGx {n:Int}(p:Int):∀{ts:List T3},(∀t∈ts,t.1<t.2.1)->(fd p ts).length<=ts.length
 | [],_=>zI _
 | t::r,h=>by
  have ih:=zGx (n:=n) p (ts:=r) fun t ht=>h t (zb _ ht)
  have h0:=h t zd
  show (_++_++fd p r).length<=_
  rw[zM,zM,zt]
  have:(if t.1=p then [[t.2.1,t.2.2]] else ([]:List (List Int))).length+(if t.2.1=p then [[t.1,t.2.2]] else ([]:List (List Int))).length<=1:=by
   split <;> split <;> simp <;> omega
  omega
noncomputable def hd (k:List Int):Int:=k.getD 0 0
theorem zKU {n:Int}{ts:List T3}(g:GW n ts)(p:Int):((fd p ts).map hd).Nodup:=by
 have key:∀(ts:List T3),(∀t∈ts,t.1<t.2.1)->ts.Pairwise (fun s t=>¬ (s.1=t.1/\s.2.1=t.2.1))->((fd p ts).map hd).Nodup:=by
  intro ts
  induction ts with
  | nil=>intro _ _;exact List.nodup_nil
  | cons t r ih=>
   intro hlt hp
   obtain⟨q,hr⟩:=List.pairwise_cons.mp hp
   have h0:=hlt t zd
   have hr':∀t∈r,t.1<t.2.1:=fun t ht=>hlt t (zb _ ht)
   have ih':=ih hr' hr
   have no:∀y c,(∀l,Adj r p y l->False)->([y,c]:List Int)=[y,c]->¬ y∈(fd p r).map hd:=by
    intro y c hn _ hm
    obtain⟨k,hk,e⟩:=zp.mp hm
    obtain⟨y',l,ek,ha⟩:=zEP.mp hk
    subst ek
    have:y'=y:=e
    subst this
    exact hn l ha
   show ((_++_++fd p r).map hd).Nodup
   by_cases h1:t.1=p
   . have h2:¬ t.2.1=p:=by omega
     rw[if_pos h1,if_neg h2]
     show (t.2.1::(fd p r).map hd).Nodup
     refine zAN.mpr ⟨no _ t.2.2 (fun l ha=>?_) rfl,ih'⟩
     rcases ha with ha | ha
     . exact q _ ha ⟨h1,rfl⟩
     . have:=hr' _ ha;simp only at this;omega
   . by_cases h2:t.2.1=p
     . rw[if_neg h1,if_pos h2]
       show (t.1::(fd p r).map hd).Nodup
       refine zAN.mpr ⟨no _ t.2.2 (fun l ha=>?_) rfl,ih'⟩
       rcases ha with ha | ha
       . have:=hr' _ ha;simp only at this;omega
       . exact q _ ha ⟨rfl,h2⟩
     . rw[if_neg h1,if_neg h2]
       exact ih'
 exact key ts (fun t ht=>(g.rng t ht).2.1) g.dis
end WM
namespace WM
inductive Way (ts:List T3):Int->Int->Int->Prop where
 | nil (x:Int):Way ts x x 0
 | cons {x z y l d:Int}:Adj ts x z l->Way ts z y d->Way ts x y (l+d)
theorem Way.nn {n:Int}{ts:List T3}(g:GW n ts){x y d:Int}(h:Way ts x y d):0<=d:=by
 induction h with
 | nil=>exact zBt _
 | cons ha _ ih=>have:=g.adj ha;omega
theorem Way.one {ts:List T3}{x y l:Int}(h:Adj ts x y l):Way ts x y l:=by
 have:=Way.cons h (.nil y)
 rwa [Int.add_zero] at this
theorem Way.trans {ts:List T3}{x y z d e:Int}(h:Way ts x y d)(h':Way ts y z e):Way ts x z (d+e):=by
 induction h with
 | nil=>rw[zAI];exact h'
 | cons ha _ ih=>rw[Int.add_assoc];exact .cons ha (ih h')
theorem Way.symm {ts:List T3}{x y d:Int}(h:Way ts x y d):Way ts y x d:=by
 induction h with
 | nil=>exact .nil _
 | cons ha _ ih=>have:=ih.trans (.one ha.symm);rwa [Int.add_comm] at this
theorem Way.snoc {ts:List T3}{x y z d l:Int}(h:Way ts x y d)(ha:Adj ts y z l):Way ts x z (d+l):=h.trans (.one ha)
noncomputable def IsD (ts:List T3)(x y d:Int):Prop:=Way ts x y d/\∀e,Way ts x y e->d<=e
noncomputable def Len (ts:List T3)(x y:Int):Option Int->Prop
 | some d=>IsD ts x y d
 | none=>∀d,¬ Way ts x y d
theorem IsD.uniq {ts:List T3}{x y d e:Int}(h:IsD ts x y d)(h':IsD ts x y e):d=e:=Int.le_antisymm (h.2 _ h'.1) (h'.2 _ h.1)
theorem Len.uniq {ts:List T3}{x y:Int}{o o':Option Int}(h:Len ts x y o)(h':Len ts x y o'):o=o':=by
 cases o with
 | none=>
  cases o' with
  | none=>rfl
  | some e=>exact absurd h'.1 (h e)
 | some d=>
  cases o' with
  | none=>exact absurd h.1 (h' d)
  | some e=>exact congrArg some (IsD.uniq h h')
theorem IsD.symm {ts:List T3}{x y d:Int}(h:IsD ts x y d):IsD ts y x d:=⟨h.1.symm,fun e he=>h.2 e he.symm⟩
theorem Len.symm {ts:List T3}{x y:Int}{o:Option Int}(h:Len ts x y o):Len ts y x o:=by
 cases o with
 | none=>exact fun d hd=>h d hd.symm
 | some d=>exact IsD.symm h
theorem zGr {n:Int}{ts:List T3}(g:GW n ts)(x:Int):IsD ts x x 0:=⟨.nil x,fun _ h=>h.nn g⟩
structure Dj (ts:List T3)(s:Int)(kn wt:Int->Option Int):Prop where
 kd:∀p d,kn p=some d->IsD ts s p d
 wk:∀p d,wt p=some d->kn p=none/\Way ts s p d
 ord:∀p d q e,kn p=some d->wt q=some e->d<=e
 nb:∀p d q l,kn p=some d->Adj ts p q l->(∃e,kn q=some e)\/∃e,wt q=some e/\e<=d+l
 st:(∃d,kn s=some d)\/wt s=some 0
theorem Dj.front {n:Int}{ts:List T3}(g:GW n ts){s:Int}{kn wt:Int->Option Int}(h:Dj ts s kn wt){y d:Int}(w:Way ts s y d):(∃e,kn y=some e)\/∃q e,wt q=some e/\e<=d:=by
 have key:∀{x y d:Int},Way ts x y d->∀dx,kn x=some dx->(∃e,kn y=some e)\/∃q e,wt q=some e/\e<=dx+d:=by
  intro x y d w
  induction w with
  | nil=>intro dx hx;exact .inl ⟨dx,hx⟩
  | cons ha w' ih=>
   intro dx hx
   rename_i x z y l d
   have hl:=g.adj ha
   have hw:=w'.nn g
   rcases h.nb x dx z l hx ha with ⟨e,he⟩ | ⟨e,he,hle⟩
   . have hez:e<=dx+l:=(h.kd z e he).2 _ ((h.kd x dx hx).1.snoc ha)
     rcases ih e he with q | ⟨q,e',hq,hle⟩
     . exact .inl q
     . exact .inr ⟨q,e',hq,by omega⟩
   . exact .inr ⟨z,e,he,by omega⟩
 rcases h.st with ⟨ds,hs⟩ | hs
 . have:ds=0:=IsD.uniq (h.kd s ds hs) (zGr g s)
   subst this
   rcases key w 0 hs with q | ⟨q,e,a,b⟩
   . exact .inl q
   . exact .inr ⟨q,e,a,by omega⟩
 . exact .inr ⟨s,0,hs,w.nn g⟩
theorem Dj.pick {n:Int}{ts:List T3}(g:GW n ts){s:Int}{kn wt:Int->Option Int}(h:Dj ts s kn wt){p d:Int}(hp:wt p=some d)(hm:∀q e,wt q=some e->d<=e):IsD ts s p d:=by
 obtain⟨hk,hw⟩:=h.wk p d hp
 refine⟨hw,fun e he=>?_⟩
 rcases h.front g he with ⟨e',q⟩ | ⟨q,e',hq,hle⟩
 . rw[hk] at q;cases q
 . exact Int.le_trans (hm q e' hq) hle
theorem Dj.done {n:Int}{ts:List T3}(g:GW n ts){s:Int}{kn wt:Int->Option Int}(h:Dj ts s kn wt)(hw:∀q,wt q=none)(y:Int):Len ts s y (kn y):=by
 cases e:kn y with
 | some d=>exact h.kd y d e
 | none=>
  intro d w
  rcases h.front g w with ⟨e',q⟩ | ⟨q,e',hq,_⟩
  . rw[e] at q;cases q
  . rw[hw] at hq;cases hq
structure Dm (ts:List T3)(s p d:Int)(kn wt:Int->Option Int)(seen:Int->Prop):Prop where
 kd:∀q e,kn q=some e->IsD ts s q e
 wk:∀q e,wt q=some e->kn q=none/\Way ts s q e
 ord:∀q e r f,kn q=some e->wt r=some f->e<=f
 nb:∀q e r l,kn q=some e->Adj ts q r l->(q=p/\¬ seen r)\/(∃f,kn r=some f)\/∃f,wt r=some f/\f<=e+l
 st:∃e,kn s=some e
 pd:kn p=some d
 mx:∀q e,kn q=some e->e<=d
theorem Dj.enter {n:Int}{ts:List T3}(g:GW n ts){s:Int}{kn wt:Int->Option Int}(h:Dj ts s kn wt){p d:Int}(hp:wt p=some d)(hm:∀q e,wt q=some e->d<=e) :
 Dm ts s p d (fun q=>if q=p then some d else kn q) (fun q=>if q=p then none else wt q) (fun _=>False):=by
 have hd:=h.pick g hp hm
 have hk:=(h.wk p d hp).1
 refine⟨fun q e hq=>?_,fun q e hq=>?_,fun q e r f hq hr=>?_,fun q e r l hq ha=>?_,?_,if_pos rfl,fun q e hq=>?_⟩
 . by_cases hqp:q=p
   . rw[if_pos hqp] at hq;cases hq;rw[hqp];exact hd
   . rw[if_neg hqp] at hq;exact h.kd q e hq
 . by_cases hqp:q=p
   . rw[if_pos hqp] at hq;cases hq
   . rw[if_neg hqp] at hq ⊢;exact h.wk q e hq
 . by_cases hrp:r=p
   . rw[if_pos hrp] at hr;cases hr
   . rw[if_neg hrp] at hr
     by_cases hqp:q=p
     . rw[if_pos hqp] at hq;cases hq;exact hm r f hr
     . rw[if_neg hqp] at hq;exact h.ord q e r f hq hr
 . by_cases hqp:q=p
   . exact .inl ⟨hqp,fun z=>z⟩
   . rw[if_neg hqp] at hq
     by_cases hrp:r=p
     . exact .inr (.inl ⟨d,if_pos hrp⟩)
     . rcases h.nb q e r l hq ha with ⟨f,hf⟩ | ⟨f,hf,hle⟩
       . exact .inr (.inl ⟨f,by rw[if_neg hrp];exact hf⟩)
       . exact .inr (.inr ⟨f,by rw[if_neg hrp];exact hf,hle⟩)
 . by_cases hsp:s=p
   . exact⟨d,if_pos hsp⟩
   . rcases h.st with ⟨e,he⟩ | he
     . exact⟨e,by rw[if_neg hsp];exact he⟩
     . -- s waits with 0: then d is 0 too,and p is come to by a way of 0
       have h0:=hm s 0 he
       have:=hd.1.nn g
       have hd0:d=0:=by omega
       subst hd0
       exfalso
       have:∀{x y d:Int},Way ts x y d->d=0->x=y:=by
        intro x y d w
        cases w with
        | nil=>intro _;rfl
        | cons ha w'=>intro e;have:=g.adj ha;have:=w'.nn g;omega
       exact hsp (this hd.1 rfl)
 . by_cases hqp:q=p
   . rw[if_pos hqp] at hq;cases hq;exact zBt _
   . rw[if_neg hqp] at hq;exact h.ord q e p d hq hp
theorem Dm.skip {ts:List T3}{s p d:Int}{kn wt:Int->Option Int}{seen:Int->Prop}(h:Dm ts s p d kn wt seen){r:Int}(hr:∃f,kn r=some f):Dm ts s p d kn wt (fun x=>seen x\/x=r):=
 ⟨h.kd,h.wk,h.ord,fun q e x l hq ha=>by
  rcases h.nb q e x l hq ha with ⟨a,b⟩ | c
  . by_cases hx:x=r
    . subst hx;exact .inr (.inl hr)
    . exact .inl ⟨a,fun z=>z.elim b hx⟩
  . exact .inr c,h.st,h.pd,h.mx⟩
theorem Dm.wait {n:Int}{ts:List T3}(g:GW n ts){s p d:Int}{kn wt:Int->Option Int}{seen:Int->Prop}(h:Dm ts s p d kn wt seen){r l:Int}(ha:Adj ts p r l)(hr:kn r=none){f:Int}
 (hf:(wt r=none/\f=d+l)\/∃e,wt r=some e/\f=min (d+l) e):Dm ts s p d kn (fun x=>if x=r then some f else wt x) (fun x=>seen x\/x=r):=by
 have hl:=g.adj ha
 have hway:Way ts s r (d+l):=(h.kd p d h.pd).1.snoc ha
 have hf1:f<=d+l:=by
  rcases hf with ⟨_,e⟩ | ⟨e,_,e'⟩
  . omega
  . omega
 have hf2:Way ts s r f:=by
  rcases hf with ⟨_,rfl⟩ | ⟨e,he,rfl⟩
  . exact hway
  . by_cases hle:d+l<=e
    . rw[Int.min_eq_left hle];exact hway
    . rw[Int.min_eq_right (by omega)];exact (h.wk r e he).2
 have hf3:d<=f:=by
  rcases hf with ⟨_,rfl⟩ | ⟨e,he,rfl⟩
  . omega
  . have:=h.ord p d r e h.pd he;omega
 refine⟨h.kd,fun q e hq=>?_,fun q e x y hq hx=>?_,fun q e x k hq hax=>?_,h.st,h.pd,h.mx⟩
 . by_cases hqr:q=r
   . rw[if_pos hqr] at hq;cases hq;rw[hqr];exact⟨hr,hf2⟩
   . rw[if_neg hqr] at hq;exact h.wk q e hq
 . by_cases hxr:x=r
   . rw[if_pos hxr] at hx;cases hx;have:=h.mx q e hq;omega
   . rw[if_neg hxr] at hx;exact h.ord q e x y hq hx
 . by_cases hxr:x=r
   . subst hxr
     refine .inr (.inr ⟨f,if_pos rfl,?_⟩)
     rcases h.nb q e x k hq hax with ⟨a,_⟩ | ⟨y,hy⟩ | ⟨y,hy,hle⟩
     . subst a
       rw[h.pd] at hq;cases hq
       rw[g.uniq hax ha];exact hf1
     . rw[hr] at hy;cases hy
     . rcases hf with ⟨e1,_⟩ | ⟨e1,he1,e2⟩
       . rw[e1] at hy;cases hy
       . rw[he1] at hy;cases hy;omega
   . rcases h.nb q e x k hq hax with ⟨a,b⟩ | c | ⟨y,hy,hle⟩
     . exact .inl ⟨a,fun z=>z.elim b hxr⟩
     . exact .inr (.inl c)
     . exact .inr (.inr ⟨y,by rw[if_neg hxr];exact hy,hle⟩)
theorem Dm.leave {ts:List T3}{s p d:Int}{kn wt:Int->Option Int}{seen:Int->Prop}(h:Dm ts s p d kn wt seen)(hs:∀r l,Adj ts p r l->seen r):Dj ts s kn wt:=
 ⟨h.kd,h.wk,h.ord,fun q e r l hq ha=>by
  rcases h.nb q e r l hq ha with ⟨a,b⟩ | c
  . subst a;exact absurd (hs r l ha) b
  . exact c,.inl h.st⟩
inductive zEX (ts:List T3)(k:Int):Int->Int->Int->Prop where
 | nil (x:Int):zEX ts k x x 0
 | tie {x y l:Int}:Adj ts x y l->zEX ts k x y l
 | cons {x z y l d:Int}:Adj ts x z l->z<k->zEX ts k z y d->zEX ts k x y (l+d)
theorem zEX.way {ts:List T3}{k x y d:Int}(h:zEX ts k x y d):Way ts x y d:=by
 induction h with
 | nil=>exact .nil _
 | tie ha=>exact .one ha
 | cons ha _ _ ih=>exact .cons ha ih
theorem Way.toK {n:Int}{ts:List T3}(g:GW n ts){x y d:Int}(h:Way ts x y d):zEX ts n x y d:=by
 induction h with
 | nil=>exact .nil _
 | cons ha _ ih=>exact .cons ha (g.adj ha).2.2.2.1 ih
theorem zEX.split {n:Int}{ts:List T3}(g:GW n ts){k x y d:Int}(h:zEX ts (k+1) x y d):zEX ts k x y d\/∃d1 d2,zEX ts k x k d1/\zEX ts k k y d2/\d1+d2<=d:=by
 induction h with
 | nil=>exact .inl (.nil _)
 | tie ha=>exact .inl (.tie ha)
 | cons ha hz w ih=>
  rename_i x z y l d
  by_cases hk:z<k
  . rcases ih with q | ⟨d1,d2,a,b,c⟩
    . exact .inl (.cons ha hk q)
    . exact .inr ⟨l+d1,d2,.cons ha hk a,b,by omega⟩
  . have e:z=k:=by omega
    subst e
    rcases ih with q | ⟨d1,d2,a,b,c⟩
    . exact .inr ⟨l,d,.tie ha,q,zBt _⟩
    . have:=a.way.nn g
      exact .inr ⟨l,d2,.tie ha,b,by omega⟩
theorem zEX.zero {n:Int}{ts:List T3}(g:GW n ts){x y d:Int}(h:zEX ts 0 x y d):(x=y/\d=0)\/Adj ts x y d:=by
 cases h with
 | nil=>exact .inl ⟨rfl,rfl⟩
 | tie ha=>exact .inr ha
 | cons ha hz _=>have:=g.adj ha;omega
structure Fw (ts:List T3)(n:Int)(F:Int->Int->Option Int):Prop where
 snd:∀x y d,0<=x->x<n->0<=y->y<n->F x y=some d->Way ts x y d
noncomputable def Cov (ts:List T3)(n k:Int)(F:Int->Int->Option Int):Prop:=∀x y d,0<=x->x<n->0<=y->y<n->zEX ts k x y d->∃e,F x y=some e/\e<=d
theorem Fw.len {n:Int}{ts:List T3}(g:GW n ts){F:Int->Int->Option Int}(h:Fw ts n F)(c:Cov ts n n F){x y:Int}(hx:0<=x)(hx':x<n)(hy:0<=y)(hy':y<n):Len ts x y (F x y):=by
 cases e:F x y with
 | some d=>
  refine⟨h.snd x y d hx hx' hy hy' e,fun e' he=>?_⟩
  obtain⟨f,hf,hle⟩:=c x y e' hx hx' hy hy' (he.toK g)
  rw[e] at hf;cases hf;exact hle
 | none=>
  intro d hd
  obtain⟨f,hf,_⟩:=c x y d hx hx' hy hy' (hd.toK g)
  rw[e] at hf;cases hf
end WM
namespace WM
noncomputable def fnl (kn:List (Option Int))(p:Int):Option Int:=if 0<=p then kn.getD p.toNat none else none
noncomputable def cnt (kn:List (Option Int)):Nat:=(kn.filter Option.isSome).length
theorem zJH (kn:List (Option Int)):cnt kn<=kn.length:=zv _ _
theorem zIz {kn:List (Option Int)}{p:Int}{o:Option Int}(h0:0<=p)(h1:p.toNat<kn.length)(q:Int):fnl (kn.set p.toNat o) q=if q=p then o else fnl kn q:=by
 unfold fnl
 by_cases hq:0<=q
 . rw[if_pos hq,if_pos hq,zD,zD,List.getElem?_set]
   by_cases e:q=p
   . subst e;simp[h1]
   . have:¬ p.toNat=q.toNat:=by omega
     rw[if_neg this,if_neg e]
 . rw[if_neg hq,if_neg (by omega),if_neg hq]
theorem zGI:∀{kn:List (Option Int)}{j:Nat}{d:Int},kn[j]? = some none->cnt (kn.set j (some d))=cnt kn+1
 | [],_,_,h=>by simp at h
 | o::r,0,d,h=>by
  have:o=none:=by simpa using h
  subst this
  simp[cnt,List.set]
 | o::r,j+1,d,h=>by
  have ih:=zGI (kn:=r) (j:=j) (d:=d) (by simpa using h)
  unfold cnt at ih ⊢
  rw[List.set_cons_succ]
  cases o with
  | none=>rw[zAG (by simp),zAG (by simp)];exact ih
  | some x=>rw[zAV (by simp),zAV (by simp),zt,zt,ih]
theorem zMW (n:Nat):cnt (List.replicate n none)=0:=by
 unfold cnt
 rw[List.filter_replicate]
 simp
theorem zDt (n:Nat)(q:Int):fnl (List.replicate n none) q=none:=by
 unfold fnl
 split
 . rw[zD,zA5]
   split <;> rfl
 . rfl
structure Dl (ts:List T3)(n s:Int)(kn:List (Option Int))(wt:Int->Option Int):Prop where
 dj:Dj ts s (fnl kn) wt
 ln:kn.length=n.toNat
 bk:∀p d,fnl kn p=some d->d<=99*cnt kn
 bw:∀p e,wt p=some e->e<=99*cnt kn/\0<=p/\p<n
structure Dn (ts:List T3)(n s p d:Int)(kn:List (Option Int))(wt:Int->Option Int)(seen:Int->Prop):Prop where
 dm:Dm ts s p d (fnl kn) wt seen
 ln:kn.length=n.toNat
 bk:∀q e,fnl kn q=some e->e<=99*cnt kn
 bd:d+99<=99*cnt kn
 bw:∀q e,wt q=some e->e<=99*cnt kn/\0<=q/\q<n
theorem Dl.start {n:Int}{ts:List T3}(g:GW n ts){s:Int}(h0:0<=s)(h1:s<n):Dl ts n s (List.replicate n.toNat none) (fun q=>if q=s then some 0 else none):=by
 refine⟨⟨fun p d h=>?_,fun p d h=>?_,fun p d q e h=>?_,fun p d q l h=>?_,.inr (if_pos rfl)⟩,zAH,fun p d h=>?_,fun p e h=>?_⟩
 . rw[zDt] at h;cases h
 . by_cases e:p=s
   . rw[if_pos e] at h;cases h;rw[e];exact⟨zDt _ _,.nil s⟩
   . rw[if_neg e] at h;cases h
 . rw[zDt] at h;cases h
 . rw[zDt] at h;cases h
 . rw[zDt] at h;cases h
 . by_cases e:p=s
   . rw[if_pos e] at h;cases h;rw[e,zMW];exact⟨by simp,h0,h1⟩
   . rw[if_neg e] at h;cases h
theorem Dl.enter {n:Int}{ts:List T3}(g:GW n ts){s:Int}{kn:List (Option Int)}{wt:Int->Option Int}(h:Dl ts n s kn wt){p d:Int}(hp:wt p=some d)(hm:∀q e,wt q=some e->d<=e) :
 kn[p.toNat]? = some none/\0<=p/\p<n/\cnt (kn.set p.toNat (some d))=cnt kn+1/\Dn ts n s p d (kn.set p.toNat (some d)) (fun q=>if q=p then none else wt q) (fun _=>False):=by
 obtain⟨hb,h0,h1⟩:=h.bw p d hp
 have hl:=h.ln
 have hlt:p.toNat<kn.length:=by omega
 have hk:=(h.dj.wk p d hp).1
 have hn:kn[p.toNat]? = some none:=by
  unfold fnl at hk
  rw[if_pos h0,zD,zC hlt] at hk
  rw[zC hlt]
  exact congrArg some hk
 have hc:=zGI (d:=d) hn
 have ef:fnl (kn.set p.toNat (some d))=fun q=>if q=p then some d else fnl kn q:=funext fun q=>zIz h0 hlt q
 refine⟨hn,h0,h1,hc,⟨?_,by rw[zBh];exact hl,fun q e hq=>?_,by rw[hc];omega,fun q e hq=>?_⟩⟩
 . rw[ef];exact h.dj.enter g hp hm
 . rw[ef] at hq
   simp only at hq
   rw[hc]
   by_cases e':q=p
   . rw[if_pos e'] at hq;cases hq;omega
   . rw[if_neg e'] at hq;have:=h.bk q e hq;omega
 . by_cases e':q=p
   . rw[if_pos e'] at hq;cases hq
   . rw[if_neg e'] at hq;have:=h.bw q e hq;rw[hc];exact⟨by omega,this.2⟩
theorem Dn.skip {n:Int}{ts:List T3}{s p d:Int}{kn:List (Option Int)}{wt:Int->Option Int}{seen:Int->Prop}(h:Dn ts n s p d kn wt seen){r f:Int}(hr:fnl kn r=some f):Dn ts n s p d kn wt (fun x=>seen x\/x=r):=
 ⟨h.dm.skip ⟨f,hr⟩,h.ln,h.bk,h.bd,h.bw⟩
theorem Dn.wait {n:Int}{ts:List T3}(g:GW n ts){s p d:Int}{kn:List (Option Int)}{wt:Int->Option Int}{seen:Int->Prop}(h:Dn ts n s p d kn wt seen){r l:Int}(ha:Adj ts p r l)(hr:fnl kn r=none) :
 Dn ts n s p d kn (fun x=>if x=r then some (if (wt r).getD (d+l)<d+l then (wt r).getD (d+l) else d+l) else wt x) (fun x=>seen x\/x=r):=by
 have hl:=g.adj ha
 have hf:(wt r=none/\(if (wt r).getD (d+l)<d+l then (wt r).getD (d+l) else d+l)=d+l)\/∃e,wt r=some e/\(if (wt r).getD (d+l)<d+l then (wt r).getD (d+l) else d+l)=min (d+l) e:=by
  cases e:wt r with
  | none=>exact .inl ⟨rfl,by simp⟩
  | some x=>
   refine .inr ⟨x,rfl,?_⟩
   simp only[Option.getD_some]
   split <;> omega
 refine⟨h.dm.wait g ha hr hf,h.ln,h.bk,h.bd,fun q e hq=>?_⟩
 by_cases e':q=r
 . rw[if_pos e'] at hq
   have hd:=h.bd
   have e2:=zP hq
   refine⟨?_,by omega,by omega⟩
   split at e2 <;> omega
 . rw[if_neg e'] at hq;exact h.bw q e hq
theorem Dn.leave {n:Int}{ts:List T3}{s p d:Int}{kn:List (Option Int)}{wt:Int->Option Int}{seen:Int->Prop}(h:Dn ts n s p d kn wt seen)(hs:∀r l,Adj ts p r l->seen r):Dl ts n s kn wt:=
 ⟨h.dm.leave hs,h.ln,h.bk,h.bw⟩
structure zJc (ts:List T3)(n s:Int)(kn:List (Option Int)):Prop where
 ln:kn.length=n.toNat
 len:∀y,0<=y->y<n->Len ts s y (fnl kn y)
 bd:∀o∈kn,∀d,o=some d->0<=d/\d<=2376
theorem Dl.done {n:Int}{ts:List T3}(g:GW n ts){s:Int}{kn:List (Option Int)}{wt:Int->Option Int}(h:Dl ts n s kn wt)(hw:∀q,wt q=none):zJc ts n s kn:=by
 refine⟨h.ln,fun y _ _=>h.dj.done g hw y,fun o ho d e=>?_⟩
 obtain⟨j,hj,ej⟩:=zx ho
 have hf:fnl kn (j:Int)=some d:=by
  unfold fnl
  rw[if_pos (by omega),zD,zAF,zC hj,ej,e];rfl
 have h1:=h.bk _ _ hf
 have h2:=(h.dj.kd _ _ hf).1.nn g
 have h3:=zJH kn
 have:=h.ln
 have:=g.n24
 omega
end WM
namespace WM
noncomputable def oadd:Option Int->Option Int->Option Int
 | some a,some b=>some (a+b)
 | _,_=>none
noncomputable def oles:Option Int->Option Int->Option Int
 | none,o=>o
 | some a,none=>some a
 | some a,some b=>some (if b<a then b else a)
theorem zEX.mono {ts:List T3}{k k' x y d:Int}(h:zEX ts k x y d)(hk:k<=k'):zEX ts k' x y d:=by
 induction h with
 | nil=>exact .nil _
 | tie ha=>exact .tie ha
 | cons ha hz _ ih=>exact .cons ha (by omega) ih
structure Fm (ts:List T3)(n k:Int)(F:Int->Int->Option Int)(done:Int->Int->Prop):Prop where
 fw:Fw ts n F
 cv:Cov ts n k F
 dn:∀x y d,0<=x->x<n->0<=y->y<n->done x y->zEX ts (k+1) x y d->∃e,F x y=some e/\e<=d
theorem zLv {o p:Option Int}{d:Int}(h:(∃e,o=some e/\e<=d)\/∃e,p=some e/\e<=d):∃e,oles o p=some e/\e<=d:=by
 rcases h with ⟨e,rfl,h⟩ | ⟨e,rfl,h⟩
 . cases p with
   | none=>exact⟨e,rfl,h⟩
   | some b=>exact⟨_,rfl,by split <;> omega⟩
 . cases o with
   | none=>exact⟨e,rfl,h⟩
   | some a=>exact⟨_,rfl,by split <;> omega⟩
theorem zLu {o p:Option Int}{d:Int}(h:oles o p=some d):o=some d\/p=some d:=by
 cases o with
 | none=>exact .inr h
 | some a=>
  cases p with
  | none=>exact .inl h
  | some b=>
   have e:(if b<a then b else a)=d:=zP h
   split at e
   . exact .inr (by rw[e])
   . exact .inl (by rw[e])
theorem zFL {o p:Option Int}{d:Int}(h:oadd o p=some d):∃a b,o=some a/\p=some b/\a+b=d:=by
 cases o with
 | none=>cases h
 | some a=>
  cases p with
  | none=>cases h
  | some b=>exact⟨a,b,rfl,rfl,zP h⟩
theorem Fm.step {n:Int}{ts:List T3}(g:GW n ts){k:Int}{F:Int->Int->Option Int}{done:Int->Int->Prop}(h:Fm ts n k F done){a b:Int}(ha:0<=a)(ha':a<n)(hb:0<=b)(hb':b<n)(hk:0<=k)(hk':k<n) :
 Fm ts n k (fun x y=>if x=a/\y=b then oles (F a b) (oadd (F a k) (F k b)) else F x y) (fun x y=>done x y\/(x=a/\y=b)):=by
 have snd:∀d,oles (F a b) (oadd (F a k) (F k b))=some d->Way ts a b d:=fun d hd=>by
  rcases zLu hd with e | e
  . exact h.fw.snd a b d ha ha' hb hb' e
  . obtain⟨d1,d2,e1,e2,rfl⟩:=zFL e
    exact (h.fw.snd a k d1 ha ha' hk hk' e1).trans (h.fw.snd k b d2 hk hk' hb hb' e2)
 have cov1:∀d,zEX ts (k+1) a b d->∃e,oles (F a b) (oadd (F a k) (F k b))=some e/\e<=d:=fun d w=>by
  refine zLv ?_
  rcases w.split g with q | ⟨d1,d2,q1,q2,hle⟩
  . exact .inl (h.cv a b d ha ha' hb hb' q)
  . obtain⟨e1,f1,l1⟩:=h.cv a k d1 ha ha' hk hk' q1
    obtain⟨e2,f2,l2⟩:=h.cv k b d2 hk hk' hb hb' q2
    exact .inr ⟨e1+e2,by rw[f1,f2];rfl,by omega⟩
 refine⟨⟨fun x y d hx hx' hy hy' e=>?_⟩,fun x y d hx hx' hy hy' w=>?_,fun x y d hx hx' hy hy' hd w=>?_⟩
 . by_cases c:x=a/\y=b
   . rw[if_pos c] at e;rw[c.1,c.2];exact snd d e
   . rw[if_neg c] at e;exact h.fw.snd x y d hx hx' hy hy' e
 . by_cases c:x=a/\y=b
   . rw[if_pos c];rw[c.1,c.2] at w;exact cov1 d (w.mono (by omega))
   . rw[if_neg c];exact h.cv x y d hx hx' hy hy' w
 . by_cases c:x=a/\y=b
   . rw[if_pos c];rw[c.1,c.2] at w;exact cov1 d w
   . rw[if_neg c];exact h.dn x y d hx hx' hy hy' (hd.resolve_right c) w
theorem Fm.enter {n:Int}{ts:List T3}{k:Int}{F:Int->Int->Option Int}(h:Fw ts n F)(c:Cov ts n k F):Fm ts n k F (fun _ _=>False):=⟨h,c,fun _ _ _ _ _ _ _ z=>z.elim⟩
theorem Fm.leave {n:Int}{ts:List T3}{k:Int}{F:Int->Int->Option Int}{done:Int->Int->Prop}(h:Fm ts n k F done)(hd:∀x y,0<=x->x<n->0<=y->y<n->done x y):Fw ts n F/\Cov ts n (k+1) F:=
 ⟨h.fw,fun x y d hx hx' hy hy' w=>h.dn x y d hx hx' hy hy' (hd x y hx hx' hy hy') w⟩
noncomputable def Ft (ts:List T3)(n:Int)(F:Int->Int->Option Int):Prop:=∀x y d,0<=x->x<n->0<=y->y<n->(F x y=some d↔(x=y/\d=0)\/Adj ts x y d)
theorem Ft.fw {n:Int}{ts:List T3}(g:GW n ts){F:Int->Int->Option Int}(h:Ft ts n F):Fw ts n F/\Cov ts n 0 F:=by
 refine⟨⟨fun x y d hx hx' hy hy' e=>?_⟩,fun x y d hx hx' hy hy' w=>?_⟩
 . rcases (h x y d hx hx' hy hy').mp e with ⟨rfl,rfl⟩ | ha
   . exact .nil x
   . exact .one ha
 . refine⟨d,(h x y d hx hx' hy hy').mpr ?_,zBt _⟩
   rcases w.zero g with q | q
   . exact .inl q
   . exact .inr q
theorem Ft.nil (n:Int){F:Int->Int->Option Int}(h:∀x y,0<=x->x<n->0<=y->y<n->F x y=if x=y then some 0 else none):Ft [] n F:=fun x y d hx hx' hy hy'=>by
 rw[h x y hx hx' hy hy']
 constructor
 . intro e
   split at e
   . rename_i c;exact .inl ⟨c,(zP e).symm⟩
   . cases e
 . rintro (⟨rfl,rfl⟩ | ha)
   . rw[if_pos rfl]
   . rcases ha with z | z <;> simp at z
theorem Ft.put {n:Int}{pre post:List T3}{a b l:Int}(g:GW n (pre++(a,b,l)::post)){F:Int->Int->Option Int}(h:Ft pre n F) :
 Ft (pre++[(a,b,l)]) n (fun x y=>if x=b/\y=a then some l else if x=a/\y=b then some l else F x y):=fun x y d hx hx' hy hy'=>by
 have hr:=g.rng (a,b,l) (by simp)
 simp only at hr
 have sub:∀{x y d:Int},Adj pre x y d->Adj (pre++(a,b,l)::post) x y d:=fun z=>z.elim (fun z=>.inl (zA6 _ z)) fun z=>.inr (zA6 _ z)
 have own:Adj (pre++(a,b,l)::post) a b l:=.inl (by simp)
 have hadj:Adj (pre++[(a,b,l)]) x y d↔Adj pre x y d\/(x=a/\y=b/\d=l)\/(x=b/\y=a/\d=l):=by
  unfold Adj
  simp only[zAC,zk,Prod.mk.injEq]
  constructor
  . rintro ((z | z) | (z | z))
    . exact .inl (.inl z)
    . exact .inr (.inl z)
    . exact .inl (.inr z)
    . exact .inr (.inr ⟨z.2.1,z.1,z.2.2⟩)
  . rintro ((z | z) | z | z)
    . exact .inl (.inl z)
    . exact .inr (.inl z)
    . exact .inl (.inr z)
    . exact .inr (.inr ⟨z.2.1,z.1,z.2.2⟩)
 rw[hadj]
 show (if x=b/\y=a then some l else if x=a/\y=b then some l else F x y)=some d↔_
 by_cases c1:x=b/\y=a
 . rw[if_pos c1]
   constructor
   . intro e;exact .inr (.inr (.inr ⟨c1.1,c1.2,(zP e).symm⟩))
   . rintro (⟨e,_⟩ | z | ⟨e1,e2,e3⟩ | ⟨_,_,e3⟩)
     . omega
     . have z':=sub z;rw[c1.1,c1.2] at z';rw[g.uniq z' own.symm]
     . rw[e3]
     . rw[e3]
 . rw[if_neg c1]
   by_cases c2:x=a/\y=b
   . rw[if_pos c2]
     constructor
     . intro e;exact .inr (.inr (.inl ⟨c2.1,c2.2,(zP e).symm⟩))
     . rintro (⟨e,_⟩ | z | ⟨e1,e2,e3⟩ | ⟨_,_,e3⟩)
       . omega
       . have z':=sub z;rw[c2.1,c2.2] at z';rw[g.uniq z' own]
       . rw[e3]
       . rw[e3]
   . rw[if_neg c2,h x y d hx hx' hy hy']
     constructor
     . rintro (z | z)
       . exact .inl z
       . exact .inr (.inl z)
     . rintro (z | z | z | z)
       . exact .inl z
       . exact .inr z
       . exact absurd ⟨z.1,z.2.1⟩ c2
       . exact absurd ⟨z.1,z.2.1⟩ c1
noncomputable def mat (M:List (List (Option Int)))(x y:Int):Option Int:=if 0<=x then fnl (M.getD x.toNat []) y else none
noncomputable def zHk (M:List (List (Option Int)))(a b:Int)(v:Option Int):List (List (Option Int)):=M.set a.toNat ((M.getD a.toNat []).set b.toNat v)
structure Sqm (n:Int)(M:List (List (Option Int))):Prop where
 ln:M.length=n.toNat
 rw_:∀r∈M,r.length=n.toNat
theorem Sqm.row {n:Int}{M:List (List (Option Int))}(h:Sqm n M){a:Int}(ha:0<=a)(ha':a<n):∃r,M[a.toNat]? = some r/\M.getD a.toNat []=r/\r.length=n.toNat:=by
 have hl:=h.ln
 have hlt:a.toNat<M.length:=by omega
 exact⟨M[a.toNat],zC hlt,by rw[zD,zC hlt];rfl,h.rw_ _ (zBA hlt)⟩
theorem Sqm.set {n:Int}{M:List (List (Option Int))}(h:Sqm n M){a b:Int}{v:Option Int}(ha:0<=a)(ha':a<n):Sqm n (zHk M a b v):=by
 obtain⟨r,h1,h2,h3⟩:=h.row ha ha'
 refine⟨by unfold zHk;rw[zBh];exact h.ln,fun q hq=>?_⟩
 unfold zHk at hq
 rcases List.mem_or_eq_of_mem_set hq with z | z
 . exact h.rw_ q z
 . rw[z,zBh,h2,h3]
theorem zGA {n:Int}{M:List (List (Option Int))}(h:Sqm n M){a b:Int}{v:Option Int}(ha:0<=a)(ha':a<n)(hb:0<=b)(hb':b<n){x y:Int}(hx:0<=x)(hx':x<n) :
 mat (zHk M a b v) x y=if x=a/\y=b then v else mat M x y:=by
 obtain⟨r,h1,h2,h3⟩:=h.row ha ha'
 have hl:=h.ln
 unfold mat zHk
 rw[if_pos hx,if_pos hx,zD,List.getElem?_set]
 by_cases e:x=a
 . subst e
   rw[if_pos rfl,if_pos (by omega),Option.getD_some,h2,zIz hb (by omega)]
   by_cases e2:y=b
   . rw[if_pos e2,if_pos ⟨rfl,e2⟩]
   . rw[if_neg e2,if_neg fun z=>e2 z.2]
 . rw[if_neg (by omega),if_neg fun z=>e z.1,<-zD]
theorem Fm.congr {n:Int}{ts:List T3}{k:Int}{F G:Int->Int->Option Int}{done done':Int->Int->Prop}(h:Fm ts n k F done)(e:∀x y,0<=x->x<n->0<=y->y<n->G x y=F x y)(hd:∀x y,0<=x->x<n->0<=y->y<n->done' x y->done x y):Fm ts n k G done':=
 ⟨⟨fun x y d a b c d' z=>h.fw.snd x y d a b c d' (by rw[<-e x y a b c d'];exact z)⟩,fun x y d a b c d' w=>by rw[e x y a b c d'];exact h.cv x y d a b c d' w,fun x y d a b c d' z w=>by rw[e x y a b c d'];exact h.dn x y d a b c d' (hd x y a b c d' z) w⟩
theorem Ft.congr {n:Int}{ts:List T3}{F G:Int->Int->Option Int}(h:Ft ts n F)(e:∀x y,0<=x->x<n->0<=y->y<n->G x y=F x y):Ft ts n G:=fun x y d a b c d'=>by rw[e x y a b c d'];exact h x y d a b c d'
noncomputable def Rows (ts:List T3)(n:Int)(M:List (List (Option Int))):Prop:=M.length=n.toNat/\∀x,0<=x->x<n->zJc ts n x (M.getD x.toNat [])
theorem zHo {n:Int}{ts:List T3}(g:GW n ts)(x y:Int)(hx:0<=x)(hx':x<n)(d:Int)(h:IsD ts x y d):0<=d/\d<=2376:=by
 have ex:∀(m:Nat)(kn:List (Option Int))(wt:Int->Option Int),Dl ts n x kn wt->n.toNat-cnt kn<=m->(∃L:List Int,∀q e,wt q=some e->q∈L)->∃kn',zJc ts n x kn':=by
  intro m
  induction m with
  | zero=>
   intro kn wt D hm _
   refine⟨kn,D.done g fun q=>?_⟩
   cases e:wt q with
   | none=>rfl
   | some d=>
    have hk:=(D.dj.wk q d e).1
    obtain⟨_,h0,h1⟩:=D.bw q d e
    have hl:=D.ln
    have hlt:q.toNat<kn.length:=by omega
    have hn:kn[q.toNat]? = some none:=by
     unfold fnl at hk
     rw[if_pos h0,zD,zC hlt] at hk
     rw[zC hlt]
     exact congrArg some hk
    have h1:=zGI (d:=0) hn
    have h2:=zJH (kn.set q.toNat (some 0))
    rw[zBh] at h2
    omega
  | succ m ih=>
   intro kn wt D hm hL
   by_cases hw:∀q,wt q=none
   . exact⟨kn,D.done g hw⟩
   . -- pick the nearest
     obtain⟨L,hL⟩:=hL
     have pick:∀L:List Int,(∃q∈L,(wt q).isSome)->∃p d,wt p=some d/\∀q∈L,∀e,wt q=some e->d<=e:=by
      intro L
      induction L with
      | nil=>rintro ⟨q,hq,_⟩;simp at hq
      | cons z L ihL=>
       rintro ⟨q,hq,hs⟩
       by_cases hr:∃q∈L,(wt q).isSome
       . obtain⟨p,d,hp,hmin⟩:=ihL hr
         cases ez:wt z with
         | none=>
          refine⟨p,d,hp,fun q' hq' e he=>?_⟩
          rcases ze.mp hq' with rfl | hq'
          . rw[ez] at he;cases he
          . exact hmin q' hq' e he
         | some dz=>
          by_cases hz:dz<d
          . refine⟨z,dz,ez,fun q' hq' e he=>?_⟩
            rcases ze.mp hq' with rfl | hq'
            . rw[ez] at he;cases he;exact zBt _
            . have:=hmin q' hq' e he;omega
          . refine⟨p,d,hp,fun q' hq' e he=>?_⟩
            rcases ze.mp hq' with rfl | hq'
            . rw[ez] at he;cases he;omega
            . exact hmin q' hq' e he
       . rcases ze.mp hq with rfl | hq
         . obtain⟨d,hd⟩:=Option.isSome_iff_exists.mp hs
           refine⟨q,d,hd,fun q' hq' e he=>?_⟩
           rcases ze.mp hq' with rfl | hq'
           . rw[hd] at he;cases he;exact zBt _
           . exact absurd ⟨q',hq',by rw[he];rfl⟩ hr
         . exact absurd ⟨q,hq,hs⟩ hr
     obtain⟨p,d,hp,hmin⟩:=pick L (by
      apply zBa
      intro hno
      refine hw fun q=>?_
      cases e:wt q with
      | none=>rfl
      | some d=>exact absurd ⟨q,hL q d e,by rw[e];rfl⟩ hno)
     obtain⟨hn,h0,h1,hc,N⟩:=D.enter g hp (fun q e he=>hmin q (hL q e he) e he)
     have all:∀(ns:List (Int×Int))(wt':Int->Option Int)(seen:Int->Prop),Dn ts n x p d (kn.set p.toNat (some d)) wt' seen->(∃L:List Int,∀q e,wt' q=some e->q∈L)->(∀r l,(r,l)∈ns->Adj ts p r l) ->
      ∃(wt'':Int->Option Int)(seen':Int->Prop),Dn ts n x p d (kn.set p.toNat (some d)) wt'' seen'/\(∃L:List Int,∀q e,wt'' q=some e->q∈L)/\(∀r,seen r->seen' r)/\∀r l,(r,l)∈ns->seen' r:=by
      intro ns
      induction ns with
      | nil=>intro wt' seen N hL _;exact⟨wt',seen,N,hL,fun _ z=>z,fun r l z=>by simp at z⟩
      | cons t ns ih'=>
       intro wt' seen N hL' ha
       obtain⟨r,l⟩:=t
       have har:=ha r l zd
       have ha':∀r l,(r,l)∈ns->Adj ts p r l:=fun r l z=>ha r l (zb _ z)
       cases ek:fnl (kn.set p.toNat (some d)) r with
       | some f=>
        obtain⟨w2,s2,N2,L2,m2,a2⟩:=ih' wt' _ (N.skip ek) hL' ha'
        refine⟨w2,s2,N2,L2,fun q z=>m2 q (.inl z),fun q l' z=>?_⟩
        rcases ze.mp z with e | z
        . cases e;exact m2 _ (.inr rfl)
        . exact a2 q l' z
       | none=>
        obtain⟨L',hL'⟩:=hL'
        obtain⟨w2,s2,N2,L2,m2,a2⟩:=ih' _ _ (N.wait g har ek) ⟨r::L',fun q e he=>by
         by_cases e':q=r
         . rw[e'];exact zd
         . rw[if_neg e'] at he;exact zb _ (hL' q e he)⟩ ha'
        refine⟨w2,s2,N2,L2,fun q z=>m2 q (.inl z),fun q l' z=>?_⟩
        rcases ze.mp z with e | z
        . cases e;exact m2 _ (.inr rfl)
        . exact a2 q l' z
     have nbr:∃ns:List (Int×Int),(∀r l,(r,l)∈ns->Adj ts p r l)/\∀r l,Adj ts p r l->(r,l)∈ns:=by
      refine⟨(ts.filterMap fun t=>if t.1=p then some (t.2.1,t.2.2) else none)++(ts.filterMap fun t=>if t.2.1=p then some (t.1,t.2.2) else none),fun r l z=>?_,fun r l z=>?_⟩
      . rcases zAC.mp z with z | z
        . obtain⟨⟨a,b,c⟩,ht,e⟩:=zA4.mp z
          split at e
          . rename_i c1
            have c1':a=p:=c1
            have e':=zP e
            simp only[Prod.mk.injEq] at e'
            obtain⟨rfl,rfl⟩:=e'
            subst c1'
            exact .inl ht
          . cases e
        . obtain⟨⟨a,b,c⟩,ht,e⟩:=zA4.mp z
          split at e
          . rename_i c1
            have c1':b=p:=c1
            have e':=zP e
            simp only[Prod.mk.injEq] at e'
            obtain⟨rfl,rfl⟩:=e'
            subst c1'
            exact .inr ht
          . cases e
      . rcases z with z | z
        . exact zA6 _ (zA4.mpr ⟨_,z,by simp⟩)
        . exact zg _ (zA4.mpr ⟨_,z,by simp⟩)
     obtain⟨ns,hns1,hns2⟩:=nbr
     obtain⟨w2,s2,N2,L2,_,a2⟩:=all ns _ _ N ⟨L,fun q e he=>by
      by_cases e':q=p
      . rw[if_pos e'] at he;cases he
      . rw[if_neg e'] at he;exact hL q e he⟩ hns1
     exact ih _ _ (N2.leave fun r l ha=>a2 r l (hns2 r l ha)) (by omega) L2
 obtain⟨kn,K⟩:=ex n.toNat _ _ (Dl.start g hx hx') (by omega) ⟨[x],fun q e he=>by
  by_cases e':q=x
  . simp[e']
  . rw[if_neg e'] at he;cases he⟩
 have hy:(0<=y/\y<n)\/y=x:=by
  have:∀{x y d:Int},Way ts x y d->x=y\/(0<=y/\y<n):=by
   intro x y d w
   induction w with
   | nil=>exact .inl rfl
   | cons ha _ ih=>
    rcases ih with rfl | q
    . have:=g.adj ha;exact .inr ⟨this.2.2.1,this.2.2.2.1⟩
    . exact .inr q
  rcases this h.1 with e | q
  . exact .inr e.symm
  . exact .inl q
 have hy':0<=y/\y<n:=hy.elim id fun e=>by omega
 have hl:=K.len y hy'.1 hy'.2
 have hlen:=K.ln
 have hlt:y.toNat<kn.length:=by omega
 have e1:fnl kn y=kn[y.toNat]:=by
  unfold fnl
  rw[if_pos hy'.1,zD,zC hlt];rfl
 have e2:=Len.uniq hl (show Len ts x y (some d) from h)
 exact K.bd _ (zBA hlt) d (by rw[<-e1];exact e2)
theorem zLd {n:Int}{ts:List T3}(g:GW n ts){M:List (List (Option Int))}(h:Sqm n M)(f:Fw ts n (mat M))(c:Cov ts n n (mat M)):Rows ts n M:=by
 refine⟨h.ln,fun x hx hx'=>?_⟩
 obtain⟨r,h1,h2,h3⟩:=h.row hx hx'
 have e:∀y,mat M x y=fnl r y:=fun y=>by unfold mat;rw[if_pos hx,h2]
 rw[h2]
 refine⟨h3,fun y hy hy'=>by rw[<-e];exact f.len g c hx hx' hy hy',fun o ho d ed=>?_⟩
 obtain⟨j,hj,ej⟩:=zx ho
 have hf:fnl r (j:Int)=some d:=by
  unfold fnl
  rw[if_pos (by omega),zD,zAF,zC hj,ej,ed];rfl
 have hl:=f.len g c hx hx' (y:=(j:Int)) (by omega) (by omega)
 rw[e,hf] at hl
 exact zHo g x j hx hx' d hl
end WM
namespace WM
noncomputable def Btw (ts:List T3)(x y p:Int):Prop:=∃a b,IsD ts x p a/\IsD ts p y b/\IsD ts x y (a+b)
noncomputable def Nxt (ts:List T3)(x y p:Int):Prop:=∃l b,Adj ts x p l/\IsD ts p y b/\IsD ts x y (l+b)
theorem Way.in_ {n:Int}{ts:List T3}(g:GW n ts){x y d:Int}(w:Way ts x y d)(hx:0<=x)(hx':x<n):0<=y/\y<n:=by
 induction w with
 | nil=>exact⟨hx,hx'⟩
 | cons ha _ ih=>have:=g.adj ha;exact ih this.2.2.1 this.2.2.2.1
theorem Btw.self {n:Int}{ts:List T3}(g:GW n ts){x y d:Int}(h:IsD ts x y d):Btw ts x y x:=⟨0,d,zGr g x,h,by rw[zAI];exact h⟩
theorem Len.via {ts:List T3}{x y p a d:Int}{o:Option Int}(h1:IsD ts x p a)(h2:IsD ts x y d)(h3:Len ts p y o):∃b,o=some b/\d<=a+b:=by
 cases o with
 | none=>exact absurd (h1.1.symm.trans h2.1) (h3 _)
 | some b=>exact⟨b,rfl,h2.2 _ (h1.1.trans h3.1)⟩
end WM
namespace WM
end WM
namespace L2
open PySem PySem.Spec PyProof.Rows
noncomputable def intO:KeyOrd:=⟨Int,fun a b=>decide (a<b),fun a=>zZ (by omega),fun a b c h1 h2=>zU (by have:=of_decide_eq_true h1;have:=of_decide_eq_true h2;omega),
 fun a b c h=>by
  have h':a<c:=of_decide_eq_true h
  by_cases hab:a<b
  . exact .inl (zU hab)
  . exact .inr (zU (by omega)),
 fun a b h1 h2=>by have:=of_decide_eq_false h1;have:=of_decide_eq_false h2;omega⟩
theorem zJQ {prog:Program}{w:World}{A:Around}{s:Shared}{a:Addr}{vs:List Value}{ns:List Int}(hI:IntsAre vs ns)(h2:2<=vs.length) :
 SortT.Asks prog w A s a vs (O:=intO) (fun i=>ns.getD i 0) oneType':=by
 have hl:=hI.length
 have at_:∀i,i<vs.length->∃t,vs.getD i Value.none = .int (ns.getD i 0) t:=fun i hi=>by
  obtain⟨n,hn⟩:∃n,ns[i]? = some n:=⟨_,zC (by omega)⟩
  obtain⟨t,ht⟩:=hI.get i n hn
  exact⟨t,by rw[zD,zD,ht,hn];rfl⟩
 refine⟨fun h' Q E kh q=>?_,fun h' i j Q E kh hi hj q=>?_⟩
 . rw[ksk_kind (keys:=vs.toArray) (kz:=ns) (by simpa using hI) (by simpa using h2)]
   exact zG q
 . obtain⟨t,e1⟩:=at_ i hi
   obtain⟨u,e2⟩:=at_ j hj
   rw[e1,e2]
   exact PySem.W.kat_lt_int q
theorem zJ6 {vs:List Value}{ns:List Int}{out:List Nat}(hI:IntsAre vs ns)(p:SortT.Put (O:=intO) (fun i=>ns.getD i 0) vs.length out) :
 ∃ms:List Int,ms.Perm ns/\ms.Pairwise (· <= ·)/\zBJ (ms.map V.int) (out.map fun i=>vs.getD i Value.none)/\ms.length=ns.length:=by
 have hl:=hI.length
 have hb:∀i∈out,i<vs.length:=fun i hi=>zAd.mp (p.perm.mem_iff.mp hi)
 refine⟨out.map fun i=>ns.getD i 0,?_,?_,?_,?_⟩
 . have h1:=p.perm.map fun i=>ns.getD i 0
   have h2:(List.range vs.length).map (fun i=>ns.getD i 0)=ns:=by
    rw[show vs.length=ns.length by omega]
    apply List.ext_getElem?
    intro j
    rw[zJ]
    by_cases hj:j<ns.length
    . rw[zBs hj,zC hj];simp[hj]
    . rw[zAn (by rw[zu];omega),zAn (by omega)];rfl
   rw[h2] at h1
   exact h1
 . refine zAi.mpr fun i j hi hj hij=>?_
   rw[zB] at hi hj
   have:=p.rise i j out[i] out[j] (zBo hij) (by simp) (by simp)
   have h3:decide (ns.getD out[j] 0<ns.getD out[i] 0)=false:=this
   have h4:=of_decide_eq_false h3
   rw[List.getElem_map,List.getElem_map]
   omega
 . have:∀l:List Nat,(∀i∈l,i<vs.length)->zBJ ((l.map fun i=>ns.getD i 0).map V.int) (l.map fun i=>vs.getD i Value.none):=by
    intro l
    induction l with
    | nil=>intro _;exact .nil
    | cons i l ih=>
     intro h
     have hi:=h i zd
     obtain⟨n,hn⟩:∃n,ns[i]? = some n:=⟨_,zC (by omega)⟩
     obtain⟨t,ht⟩:=hI.get i n hn
     refine .cons ?_ (ih fun j hj=>h j (zb _ hj))
     show zBT (V.int (ns.getD i 0)) (vs.getD i Value.none)
     rw[zD,zD,ht,hn]
     exact⟨t,rfl⟩
   exact this out hb
 . rw[zB,p.perm.length_eq,zu];omega
section
variable {X:Cx}
theorem zFg (hc:X.calm=true):zCo X (.builtin "sorted") (fun xs H Q=>∃p kvs ns,xs=[.ref p]/\H p=some (.dK kvs)/\kvs.map (·.1)=ns.map Sum.inl/\ns.length<64 /\
 ∀(l:Addr)(ms:List Int),H l=none->ms.Perm ns->ms.Pairwise (· <= ·)->Q (.ref l) (upd H l (.lst (ms.map V.int)))):=by
 intro pins s σ H xs us Q I r h
 obtain⟨p,kvs,ns,rfl,hd,hks,h64,q⟩:=h
 obtain⟨u,rfl,rx⟩:=zCn r
 cases rx
 obtain⟨hz,lo,vs,rel,o,es,ep,ho,hx,hdat,_,hpr,hnd⟩:=zI6 I.hok hd
 have key:∀(es:List DictEntry)(kvs:List (Key×V))(vs:List (Key×Value))(ns:List Int),KV kvs vs->Pairs (zA9 X.prog X.w) es vs->kvs.map (·.1)=ns.map Sum.inl->IntsAre (es.map (·.key)) ns:=by
  intro es
  induction es with
  | nil=>
   intro kvs vs ns rel pr e
   cases pr
   cases rel
   cases ns with
   | nil=>exact .nil
   | cons n ns=>simp at e
  | cons d es ih=>
   intro kvs vs ns rel pr e
   cases pr with
   | cons k1 k2 k3=>
    cases rel with
    | cons hpq t=>
     cases ns with
     | nil=>simp at e
     | cons n ns=>
      simp only[zz,List.cons.injEq] at e
      rw[<-hpq.1,e.1] at k1
      obtain⟨t0,e0⟩:=Value.isInt_shape (k:=n) (v:=d.key) k1
      rw[zz,e0]
      exact .cons n t0 (ih _ _ _ t k3 e.2)
 have hI:IntsAre (es.toList.map (·.key)) ns:=key _ _ _ _ rel hpr hks
 have hl:=hI.length
 refine SortT.sorted_dict (O:=intO) (key:=fun i=>ns.getD i 0) (κ:=oneType') (vs:=es.toList.map (·.key)) (I.ok.hd hc) lo ⟨o,ho,hx,hdat⟩ rfl (by omega) (fun h2 s' a fa kp=>zJQ hI h2) fun h1 D h' t' out c pt k1 hD k2 ho=>?_
 obtain⟨ms,hp,hr,rz,hlz⟩:=zJ6 hI pt
 have I1:Inv X pins σ H { s with heap:=h1,toks:=s.toks }:=I.kept k1
 refine⟨.ref D,_,zDF (s:={ s with heap:=h1,toks:=s.toks }) (t':=t') I1 hD k2 ho rz ?_,rfl,q D ms (I1.hok.fresh hD) hp hr⟩
 have:sizeLine=16777216:=rfl
 rw[zB]
 omega
end
noncomputable def zE0 (c:Addr)(q:Str):Heap->Prop:=fun h=>∃o vs t,h.get? c=some o/\o.data = .fields vs/\vs[1]? = some (.str q t)
noncomputable def zB7 (H:Hp)(P:Addr)(pos:Pos)(q:Str):Prop:=∃ps,H P=some (.tbl ps)/\TriplesOk ps.toList/\(codeAmong pos ps.toList=none\/∃c,codeAmong pos ps.toList=some (.ref c)/\H c=some (.ext (zE0 c q)))
noncomputable def SmT (H H':Hp):Prop:=∀b o,H b=some o->(∃ps,o = .tbl ps)\/H' b=some o
theorem SmT.of {H H':Hp}(h:zAy H H'):SmT H H':=fun b o e=>.inr (h b o e)
theorem SmT.trans {H H1 H2:Hp}(a:SmT H H1)(b:SmT H1 H2):SmT H H2:=fun c o e=>by
 rcases a c o e with z | z
 . exact .inl z
 . exact b c o z
theorem zB7.keep {H H':Hp}{P:Addr}{pos:Pos}{q:Str}(h:zB7 H P pos q)(k:∀o,H P=some o->H' P=some o)(k2:∀c φ,H c=some (.ext φ)->H' c=some (.ext φ)):zB7 H' P pos q:=by
 obtain⟨ps,a,b,c⟩:=h
 exact⟨ps,k _ a,b,c.imp id fun ⟨c,e,f⟩=>⟨c,e,k2 _ _ f⟩⟩
theorem zB7.same {H H':Hp}{P:Addr}{pos:Pos}{q:Str}(h:zB7 H P pos q)(k:zAy H H'):zB7 H' P pos q:=h.keep (fun _=>k _ _) fun _ _=>k _ _
noncomputable def zG7 (mg:Str->Option Value)(h:Heap):Prop:=∃bm ob,mg "__builtins__" = some (.ref bm)/\bm≠builtinsNs/\h.get? bm=some ob/\ob.cls = .type "module" /\ ob.dict=some builtinsNs/\ob.data = .plain
theorem zK4 {h:Heap}{a:Addr}{m m':Str->Option Value}(x:h.Ns a m)(y:h.Ns a m'):m=m':=by
 obtain⟨o,es,ep,e,d,_,f⟩:=x
 obtain⟨o',es',ep',e',d',_,f'⟩:=y
 rw[e] at e';cases e'
 rw[d] at d';cases d'
 funext n
 rw[<-f n,<-f' n]
section
variable {X:Cx}{pins:List (Addr×Obj)}{σ:St}{H:Hp}{s:Shared}
theorem Inv.growL {Pt c':Addr}{ps more:Array Value}{o:HO}{t':Nat}{h':Heap}(I:Inv X pins σ H s)(hP:H Pt=some (.tbl ps))(hp:s.heap.objs.size<=c')(k:∀b u,b≠Pt->s.heap.get? b=some u->h'.get? b=some u)
 (newP:h'.get? Pt=some (PySem.W.tabObj (ps++more)))(new:zBM X.prog X.w (upd (upd H Pt (.tbl (ps++more))) c' o) h' c' o) :
 Inv X pins σ (upd (upd H Pt (.tbl (ps++more))) c' o) { s with heap:=h',toks:=t' }:=by
 have hc:H c'=none:=I.hok.fresh hp
 have nP:∀b,H b=none->b≠Pt:=fun b n z=>by rw[z,hP] at n;cases n
 have nc:∀b u,s.heap.get? b=some u->b≠c':=fun b u e=>za (zl (zV e) hp)
 have up:∀b u,H b=some u->b≠Pt->(upd (upd H Pt (.tbl (ps++more))) c' o) b=some u:=fun b u e hb=>by rw[zX (zi e hc),zX hb];exact e
 refine I.un ⟨fun b u e n _ _=>k b u (nP b n) e,fun b u e n _ _=>⟨u.slots,k b u (nP b n) e⟩,fun b u e n _=>by rw[zX (nc b u e),zX (nP b n)];exact n,fun b u e _=>?_,fun b xs e=>up b _ e (zBw e hP (by intro z;cases z)),fun b ob u e=>up b _ e (zBw e hP (by intro z;cases z)),fun b qs e=>?_⟩ ?_
 . by_cases hb:b=Pt
   . rw[hb];exact⟨_,newP⟩
   . exact⟨u,k b u hb e⟩
 . by_cases hb:b=Pt
   . subst hb
     rw[hP] at e;cases e
     exact⟨more,by rw[zX (zi hP hc),zH]⟩
   . exact⟨#[],by rw[up b _ e hb];simp⟩
 . intro b u e
   by_cases hbc:b=c'
   . subst hbc;rw[zH] at e;cases e;exact new
   . rw[zX hbc] at e
     by_cases hb:b=Pt
     . subst hb;rw[zH] at e;cases e;exact newP
     . rw[zX hb] at e
       refine (I.hok b u e).stay (fun d v hd q=>k d v ?_ q) (fun d q=>up d _ q (zBw q hP (by intro z;cases z))) fun d xs q=>up d _ q (zBw q hP (by intro z;cases z))
       rcases hd with z | z
       . rw[z];exact hb
       . exact zBw z hP (by intro z';cases z')
end
theorem zMT {X:Cx}{sc:Scope}(h:(sc.names.all fun y=>y.2 != .free || X.env.kindOf y.1==some .cell)=true):∀y∈sc.names,y.2 = .free->X.env.kindOf y.1=some .cell:=fun y hy e=>by
 have a:=zBH.mp h y hy
 rw[e] at a
 simpa using a
section
variable {X:Cx}
end
end L2
namespace L2
open PySem PySem.Spec PyProof.Rows
structure zJY (K:PySem.W.Frag)(x qual:Str)(st:Stmt)(f:Addr)(fd:FuncData)(c:Addr):Prop where
 ex:∃(oc:Value)(od:Option Addr)(kV doc pm:Value)(an:Option Addr)(ct:Value)(osl:Array (Option Value)),
  fd=PySem.W.fnOf x qual (defArgs st) (defBody st) (defScope st) .none kV doc pm an (.ref c) ct/\K.lookup f=some ⟨oc,od,.func fd,osl⟩/\PySem.W.codeIn K (.ref c) qual=true
 kp:PySem.W.keepIn K (.ref f)=true
theorem zJY.fn {K:PySem.W.Frag}{x qual:Str}{st:Stmt}{f c:Addr}{fd:FuncData}(F:zJY K x qual st f fd c):Fun K x qual st f fd:=by
 obtain⟨oc,od,kV,doc,pm,an,ct,osl,h⟩:=F.ex
 exact⟨⟨oc,od,kV,doc,pm,an,.ref c,ct,osl,h⟩,F.kp⟩
theorem zJY.ok {P:Program}{w:World}{K:PySem.W.Frag}{mg:Str->Option Value}{base:Heap}{x qual:Str}{st:Stmt}{f c:Addr}{fd:FuncData}{N ps:List Str}{k:Nat}{sp:Sp}(F:zJY K x qual st f fd c)(S:zAB N ps (defScope st))(len:∀vs H Q E,sp vs H Q E->vs.length=ps.length)
 (hbody:∀(A:Around)(outer:List Env)(s:Shared)(H:Hp)(vs:List V)(Q:VK)(E:XK),zCq k (A.deeper (envOfC qual (defScope st) s.heap.objs.size f (.ref c)))->sp vs H Q E ->
  ∃t,PSs (zJb CX0 P w K mg base N qual (defScope st) f (.ref c) A outer s H E).nox (defBody st) t/\t { nx:=fun _ H'=>Q .non H',rt:=Q } (start N vs) H):zAb P w K mg base CX0 (k+1) f fd ps sp:=by
 obtain⟨oc,od,kV,doc,pm,an,ct,osl,rfl,lk,hcd⟩:=F.ex
 refine zMU lk hcd S len fun A outer s H vs Q E hr hsp=>?_
 obtain⟨t,h,q⟩:=hbody A outer s H vs Q E hr hsp
 exact⟨t,h.nox,q⟩
theorem zMS {K:PySem.W.Frag}{x qual:Str}{st:Stmt}{f c:Addr}{oc:Value}{od an:Option Addr}{osl:Array (Option Value)}{kV doc pm ct:Value}(l:K.lookup f=some ⟨oc,od,.func (PySem.W.fnOf x qual (defArgs st) (defBody st) (defScope st) .none kV doc pm an (.ref c) ct),osl⟩)
 (hc:PySem.W.codeIn K (.ref c) qual=true)(k:PySem.W.keepIn K (.ref f)=true):zJY K x qual st f (PySem.W.fnOf x qual (defArgs st) (defBody st) (defScope st) .none kV doc pm an (.ref c) ct) c:=⟨⟨oc,od,kV,doc,pm,an,ct,osl,rfl,l,hc⟩,k⟩
section
variable {κ:Type} [DecidableEq κ]
theorem zKL {kvs:List (κ×V)}{k:κ}{v:V}{kv:κ×V}(h:kv∈zCz kvs k v):kv∈kvs\/kv=(k,v):=by
 unfold zCz at h
 split at h
 . obtain⟨q,hq,e⟩:=zp.mp h
   by_cases hk:q.1=k
   . rw[if_pos hk] at e;rw[<-e,hk];exact .inr rfl
   . rw[if_neg hk] at e;rw[<-e];exact .inl hq
 . rcases zAC.mp h with q | q
   . exact .inl q
   . exact .inr (zk.mp q)
theorem nd_put {kvs:List (κ×V)}{k:κ}{v:V}(h:(kvs.map (·.1)).Nodup):((zCz kvs k v).map (·.1)).Nodup:=by
 cases e:zCS kvs k with
 | none=>exact zIW v h e
 | some x=>
  have ha:(kvs.any fun kv=>decide (kv.1=k))=true:=by rw[zB2,e];rfl
  unfold zCz
  rw[if_pos ha]
  have e3:(kvs.map fun kv=>if kv.1=k then (kv.1,v) else kv).map (·.1)=kvs.map (·.1):=by
   rw[zBp]
   refine zBS fun kv _=>?_
   show (if kv.1=k then (kv.1,v) else kv).1=kv.1
   split <;> rfl
  rw[e3];exact h
theorem zE4 (k j:κ):∀kvs:List (κ×V),zCS (zCL kvs k) j=if j=k then none else zCS kvs j
 | []=>by show (none:Option V)=_;split <;> rfl
 | p::r=>by
  have ih:=zE4 k j r
  by_cases e:p.1=k
  . rw[zFb e,ih]
    by_cases hj:j=k
    . rw[if_pos hj,if_pos hj]
    . rw[if_neg hj,if_neg hj,zBO fun z=>hj (z.symm.trans e)]
  . rw[zFc e]
    by_cases hj:p.1=j
    . rw[zBU hj,zBU hj,if_neg fun z=>e (hj.trans z)]
    . rw[zBO hj,zBO hj,ih]
end
noncomputable def unkW:Key->Int
 | .inl i=>i
 | .inr _=>0
structure WD (n:Int)(kvs:List (Key×V))(wt:Int->Option Int):Prop where
 sh:∀kv∈kvs,∃p d,kv=(Sum.inl p,V.int d)/\0<=p/\p<n
 nd:(kvs.map (·.1)).Nodup
 at_:∀p:Int,zCS kvs (Sum.inl p)=(wt p).map V.int
noncomputable def zD8 (kvs:List (Key×V)):List Int:=kvs.map fun kv=>unkW kv.1
theorem WD.keys {n:Int}{kvs:List (Key×V)}{wt:Int->Option Int}(h:WD n kvs wt):kvs.map (·.1)=(zD8 kvs).map Sum.inl:=by
 unfold zD8
 rw[zBp]
 refine zBS fun kv hkv=>?_
 obtain⟨p,d,e,_⟩:=h.sh kv hkv
 rw[e];rfl
theorem WD.nds {n:Int}{kvs:List (Key×V)}{wt:Int->Option Int}(h:WD n kvs wt):(zD8 kvs).Nodup:=by
 have e:=h.nd
 rw[h.keys,List.Nodup,zAt] at e
 exact e.imp fun h e'=>h (by rw[e'])
theorem WD.len {n:Int}{kvs:List (Key×V)}{wt:Int->Option Int}(h:WD n kvs wt)(h0:0<=n):(kvs.length:Int)<=n:=by
 have:=WM.nd_len (n:=n.toNat) h.nds fun x hx=>by
  obtain⟨kv,hkv,e⟩:=zp.mp hx
  obtain⟨p,d,e2,h1,h2⟩:=h.sh kv hkv
  have:x=p:=by rw[<-e,e2];rfl
  omega
 unfold zD8 at this
 rw[zB] at this
 omega
theorem WD.mem {n:Int}{kvs:List (Key×V)}{wt:Int->Option Int}(h:WD n kvs wt){p:Int}:p∈zD8 kvs↔∃e,wt p=some e:=by
 have e:p∈zD8 kvs↔(Sum.inl p:Key)∈kvs.map (·.1):=by
  rw[h.keys]
  constructor
  . intro m;exact zp.mpr ⟨p,m,rfl⟩
  . intro m
    obtain⟨q,hq,e⟩:=zp.mp m
    cases e;exact hq
 rw[e]
 have ha:=h.at_ p
 constructor
 . intro m
   cases hw:wt p with
   | some d=>exact⟨d,rfl⟩
   | none=>rw[hw] at ha;exact absurd m (zGO ha)
 . rintro ⟨d,hw⟩
   rw[hw] at ha
   exact zLD ha
theorem WD.one {n s:Int}(h0:0<=s)(h1:s<n):WD n [(Sum.inl s,V.int 0)] (fun q=>if q=s then some 0 else none):=by
 refine⟨fun kv hkv=>?_,by simp,fun p=>?_⟩
 . rw[zk.mp hkv];exact⟨s,0,rfl,h0,h1⟩
 . by_cases e:p=s
   . rw[if_pos e,e];exact zBU rfl
   . rw[if_neg e];exact (zBO fun z=>e (Sum.inl.inj z).symm).trans zJg
theorem WD.put {n:Int}{kvs:List (Key×V)}{wt:Int->Option Int}(h:WD n kvs wt){p d:Int}(h0:0<=p)(h1:p<n):WD n (zCz kvs (Sum.inl p) (.int d)) (fun q=>if q=p then some d else wt q):=by
 refine⟨fun kv hkv=>?_,nd_put h.nd,fun q=>?_⟩
 . rcases zKL hkv with z | z
   . exact h.sh kv z
   . exact⟨p,d,z,h0,h1⟩
 . rw[zJf]
   by_cases e:q=p
   . rw[if_pos e,if_pos (by rw[e])];rfl
   . rw[if_neg e,if_neg fun z=>e (Sum.inl.inj z)];exact h.at_ q
theorem WD.drop {n:Int}{kvs:List (Key×V)}{wt:Int->Option Int}(h:WD n kvs wt){p:Int}:WD n (zCL kvs (Sum.inl p)) (fun q=>if q=p then none else wt q):=by
 refine⟨fun kv hkv=>h.sh kv (zFd hkv),zEp h.nd,fun q=>?_⟩
 rw[zE4]
 by_cases e:q=p
 . rw[if_pos e,if_pos (by rw[e])];rfl
 . rw[if_neg e,if_neg fun z=>e (Sum.inl.inj z)];exact h.at_ q
noncomputable def oV:Option Int->V
 | none=>.non
 | some d=>.int d
theorem zCp {n:Nat}{i:Int}(h0:0<=i)(h1:i<n):ixN n i=some i.toNat:=by
 unfold ixN
 rw[if_pos h0,if_pos h1]
theorem zBG {α:Type}{xs:List α}{i:Int}{v:α}(h0:0<=i)(h:xs[i.toNat]? = some v):atI xs i=some v:=by
 have:=zBx h
 rwa [Int.toNat_of_nonneg h0] at this
theorem SmT.get {H H':Hp}(k:SmT H H'){b:Addr}{o:HO}(e:H b=some o)(h:∀ps,o ≠ .tbl ps):H' b=some o:=by
 rcases k b o e with ⟨ps,z⟩ | z
 . exact absurd z (h ps)
 . exact z
theorem zB7.chg {H:Hp}{P l:Addr}{pos:Pos}{q:Str}{o:HO}{xs:List V}(T:zB7 H P pos q)(h:H l=some (.lst xs)):zB7 (upd H l o) P pos q:=by
 obtain⟨ps,hps,_⟩:=id T
 refine T.keep (fun u hu=>?_) fun c φ hc=>?_
 . rw[zX (zBw hps h (by intro z;cases z))];exact hu
 . rw[zX (zBw hc h (by intro z;cases z))];exact hc
end L2
namespace L2
open PySem PySem.Spec PyProof.Rows
section
variable {X:Cx}
end
end L2
namespace L2
open PySem PySem.Spec PyProof.Rows
section
variable {X:Cx}
theorem zCh (hc:X.calm=true):zCo X (.builtin "sum") (fun xs H Q=>∃(p:Addr)(ns:List Int),xs=[.ref p]/\SqL X.K H p (ns.map V.int)/\Q (.int ns.sum) H):=by
 intro pins s σ H xs us Q I r h
 obtain⟨p,ns,rfl,hq,q⟩:=h
 obtain⟨u,rfl,rx⟩:=zCn r
 cases rx
 obtain⟨its,r',pl,hz⟩:=I.list hq
 have hi:=zBc r'
 have hl:=pl.isList
 obtain⟨zs,ez⟩:=hi.allInts.items
 have en:=hi.numsOf
 rw[ez] at hl
 have es:preSum (numAt zs) zs.size=ns.sum:=by
  rw[preSum_eq,zY (by simp),<-en,show its=its.toArray.toList from rfl,ez,nums_intItems]
 refine sum_intListG (I.ok.hd hc) hl fun h' tk t' hk=>⟨.int ns.sum,H,I.kept hk,⟨t',?_⟩,q⟩
 rw[es]
end
end L2
namespace L2
open PySem PySem.Spec PyProof.Rows
noncomputable def zEw (scope:Scope)(yc:Str)(cl:List (Str×Addr))(C:Addr)(env:Env):Env:=
 { scope:=relabel scope env,locals:=C,globals:=env.globals,cells:=(yc,C+1)::cl,qual:=env.qual,func:=none,code:=env.code,frame:=env.frame,builtins:=env.builtins }
theorem zKH {M:Model}{A:Around}{E:Value->Shared->Prop}{s:Shared}{scope:Scope}{globals:Addr}{cl:List (Str×Addr)}{qual yc:Str}{env:Env}{Q:Env->Shared->Prop}(hcf:∀n acc,cellsFrom n scope.names acc=(yc,n)::acc)
 (hQ:∀h':Heap,h'.Ns s.heap.objs.size (fun _=>none)->(∀b o,s.heap.get? b=some o->h'.get? b=some o)->h'.IsCell (s.heap.objs.size+1) none ->
  Q (newEnv scope s.heap.objs.size globals ((yc,s.heap.objs.size+1)::cl) qual none .none (some env) builtinsNs) { s with heap:=h',toks:=s.toks }) :
 wpAny M A (newFunctionEnv scope globals cl [] qual none .none (some env)) Q E s:=by
 simp only[newFunctionEnv,Option.isSome_some,if_true]
 refine zA (wpAny_alloc ?_)
 refine zA (wpAny_layCells _ (fun name kind cells=>by cases hkc:kind==NameKind.cell <;> simp[hkc]) _ _ _ _ ?_)
 have ok:=cellsFrom_ok scope.names (s.heap.push { cls:=.type "dict",data:=.dict #[] }) (s.heap.objs.size+1) [] ⟨fun _ _ hm=>(nomatch hm),List.Pairwise.nil⟩ (by rw[zAj];exact zI _)
 rw[zAj] at ok
 rw[show ({ s with heap:=s.heap.push { cls:=.type "dict",data:=.dict #[] } }:Shared).heap.objs.size=s.heap.objs.size+1 from zAj ..]
 rw[hcf] at ok ⊢
 refine zA ?_
 rw[List.forIn_nil]
 refine zG (zG ?_)
 exact hQ _ ((Heap.Ns.new s.heap (.type "dict")).keeps (pushCells_keeps _ _)) (fun b o e=>pushCells_keeps _ _ b o (zF _ e)) (ok.empty _ _ zd).1
noncomputable def zCP (X:Cx)(pl:List (Addr×Obj))(N':List Str)(scope:Scope)(yc:Str)(fp:List Addr)(s3:Shared)(H3:Hp):Cx where
 prog:=X.prog
 w:=X.w
 K:=X.K
 mg:=X.mg
 base:=X.base
 A:=X.A
 N:=N'
 s₀:=s3
 H₀:=H3
 env:=zEw scope yc (zCQ X.env.cells scope.names []) s3.heap.objs.size X.env
 outer:=X.stack
 stack:=X.stack
 ex:=fp
 fn:=fun x=>x==yc
 calm:=X.calm
 pn:=pl
 xe:=fun _ _=>False
structure zDL (X:Cx)(scope:Scope)(yc:Str):Prop where
 kind:scope.kind = .function
 cf:∀n acc,cellsFrom n scope.names acc=(yc,n)::acc
 own:scope.names.lookup yc=some .cell
 one:∀y∈scope.names,y.2 = .cell->y.1=yc
 names:∀y∈scope.names,y.2 = .local->scope.names.lookup y.1=some .local
 free:∀y∈scope.names,y.2 = .free->X.env.kindOf y.1=some .cell
section
variable {X:Cx}{pins:List (Addr×Obj)}{σ:St}{H3:Hp}{s3:Shared}{scope:Scope}{fp:List Addr}{N' own cn:List Str}{ci:List Nat}{cv:List V}{yc:Str}
theorem look1 {x:Str}{c n:Addr}{cl:List (Str×Addr)}(h:((yc,n)::cl).lookup x=some c):(x=yc/\c=n)\/(x≠yc/\cl.lookup x=some c):=by
 rw[zAq] at h
 cases hx:x==yc with
 | true=>rw[hx] at h;cases h;exact .inl ⟨by simpa using hx,rfl⟩
 | false=>rw[hx] at h;exact .inr ⟨by simpa using hx,h⟩
theorem zGn {x:Str}{n:Addr}{cl:List (Str×Addr)}(h:x≠yc):((yc,n)::cl).lookup x=cl.lookup x:=by
 rw[zAq,show (x==yc)=false by simpa using h]
theorem zFf (ok:X.Ok)(S:zDL X scope yc){x:Str}{n:Addr}(h:(relabel scope X.env).names.lookup x=some .cell\/(relabel scope X.env).names.lookup x=some .free) :
 ∃c,((yc,n)::zCQ X.env.cells scope.names []).lookup x=some c:=by
 by_cases hxy:x=yc
 . subst hxy
   exact⟨n,by rw[zAq,beq_self_eq_true]⟩
 rw[zGn hxy]
 have e:(relabel scope X.env).names.lookup x=(scope.names.lookup x).map fun k=>if (k==NameKind.free && X.env.scope.kind == .function && X.env.kindOf x==some .cell)=true then NameKind.cell else k:=zBj scope.names
 have hf:scope.names.lookup x=some .free:=by
  cases q:scope.names.lookup x with
  | none=>rw[e,q] at h;simp at h
  | some k=>
   by_cases hk:k = .free
   . rw[hk]
   . have hb:(k==NameKind.free)=false:=by simpa using hk
     rw[e,q] at h
     simp only[zAg,hb,Bool.false_and,zBW,if_false,Option.some.injEq] at h
     rcases h with h | h
     . exact absurd (S.one _ (PySem.mem_of_lookup q) h) hxy
     . exact absurd h hk
 exact zCY (ok.has x (.inl (S.free _ (PySem.mem_of_lookup hf) rfl))) scope.names [] (PySem.mem_of_lookup hf)
theorem zCm (I:Inv X pins σ H3 s3){x:Str}{c n:Addr}(h:((yc,n)::zCQ X.env.cells scope.names []).lookup x=some c):(x=yc/\c=n)\/(x≠yc/\X.env.cells.lookup x=some c/\c<s3.heap.objs.size):=by
 rcases look1 h with z | ⟨z,e⟩
 . exact .inl z
 . have e':=zB0 e
   obtain⟨v,o,ho,_⟩:=I.cell x c e'
   exact .inr ⟨z,e',zV ho⟩
theorem zKc (I:Inv X pins σ H3 s3)(S:zDL X scope yc)(f:∀b∈fp,zDE X pins H3 b)(fz:∀b∈fp,b<s3.heap.objs.size):(zCP X (X.pn++pins) N' scope yc fp s3 H3).Ok where
 mod:=I.ok.mod
 kind:=S.kind
 glob:=I.ok.glob
 blt:=I.ok.blt
 above:=zI _
 inj:=fun x y c h1 h2=>by
  rcases zCm I h1 with ⟨a,b⟩ | ⟨a,b,d⟩ <;> rcases zCm I h2 with ⟨a',b'⟩ | ⟨a',b',d'⟩
  . rw[a,a']
  . rw[b] at d';exact absurd d' (Nat.not_lt.mpr (zA3 _))
  . rw[b'] at d;exact absurd d (Nat.not_lt.mpr (zA3 _))
  . exact I.ok.inj x y c b b'
 has:=fun x h=>zFf I.ok S h
 cab:=fun x c h e=>by
  have hx:x=yc:=by simpa using (show (x==yc)=true from h)
  rcases zCm I e with ⟨_,b⟩ | ⟨a,_⟩
  . rw[b];exact zA3 _
  . exact absurd hx a
 hd:=I.ok.hd
 frames:=I.ok.frames
 stk:=.inl rfl
 exf:=fun b hb=>⟨za (fz b hb),fun x c h=>by
  have:=fz b hb
  rcases zCm I h with ⟨_,d⟩ | ⟨_,d,_⟩
  . intro z
    rw[<-z,d] at this;exact absurd this (Nat.not_lt.mpr (zA3 _))
  . exact (f b hb).2.2.2.2.1 x c d⟩
 bs:=I.bs
 bsz:=zAE I.ok.bsz I.sz
 noex:=fun b o e hb=>by
  rcases (f b hb).2.2.2.1 with z | z
  . exact I.ok.noex b o e z
  . exact absurd (zl (zV e) (zAE I.ok.bsz z)) (zBV _)
 exfs:=fun b hb z=>by
  rcases ze.mp (I.stkSub b z) with q | q
  . exact (f b hb).2.1 q
  . exact (f b hb).2.2.1 q
 funs:=I.stack
 frf:=I.stkFree
theorem zJG {h1:Heap}{t:Nat}(I:Inv X pins σ H3 s3)(S:zDL X scope yc)(f:∀b∈fp,zDE X pins H3 b)(fz:∀b∈fp,b<s3.heap.objs.size)
 (hN:N'=own++cn)(hc:zDD X scope cn ci)(hv:ci.map (fun j=>σ[j]?)=cv.map fun v=>some (some v))(hl:cn.length=ci.length)
 (hns:h1.Ns s3.heap.objs.size (fun _=>none))(hk:∀b o,s3.heap.get? b=some o->h1.get? b=some o)(hcl:h1.IsCell (s3.heap.objs.size+1) none) :
 Inv (zCP X (X.pn++pins) N' scope yc fp s3 H3) [] (List.replicate own.length none++cv.map some) H3 { s3 with heap:=h1,toks:=t }:=by
 have lenv:cv.length=ci.length:=by
  have:=congrArg List.length hv
  simpa using this.symm
 refine⟨zKc I S f fz,rfl,I.bare,Un.kept hk,⟨_,hns,fun i x v e1 e2 e3=>?_⟩,fun x c e=>?_,I.hok.fresh (zI _),fun x c e=>?_,fun p hp=>?_,I.hok.kept hk,?_⟩
 . -- a captured name
   have hi:own.length<=i:=by
    by_cases hi:own.length<=i
    . exact hi
    . rw[zW (by simpa using hi),zA5] at e2
      split at e2 <;> cases e2
   rw[zR (by simpa using hi),zAH,zJ] at e2
   have e1':(own++cn)[i]? = some x:=by rw[<-hN];exact e1
   rw[zR hi] at e1'
   obtain⟨j,hj,hNj,hkx,hfr⟩:=hc.get e1'
   have hcv:cv[i-own.length]? = some v:=by
    cases q:cv[i-own.length]? with
    | none=>rw[q] at e2;cases e2
    | some v'=>rw[q] at e2;cases e2;rfl
   have hσ:σ[j]? = some (some v):=by
    have:=congrArg (fun l:List (Option (Option V))=>l[i-own.length]?) hv
    simp only[zJ,hj,hcv,zAg,Option.some.injEq] at this
    exact this
   obtain⟨m,_,hl'⟩:=I.loc
   obtain⟨u,r,q⟩:=hl' j x v hNj hσ (.inr (.inl hkx))
   have hkd:(relabel scope X.env).names.lookup x=some .cell\/(relabel scope X.env).names.lookup x=some .free:=by
    have e:(relabel scope X.env).names.lookup x=(scope.names.lookup x).map fun k=>if (k==NameKind.free && X.env.scope.kind == .function && X.env.kindOf x==some .cell)=true then NameKind.cell else k:=zBj scope.names
    rw[e,hfr,zAg]
    by_cases cc:(NameKind.free==NameKind.free && X.env.scope.kind == .function && X.env.kindOf x==some .cell)=true
    . rw[if_pos cc];exact .inl rfl
    . rw[if_neg cc];exact .inr rfl
   obtain⟨c',hc'⟩:=zFf (n:=s3.heap.objs.size+1) I.ok S hkd
   have hxy:x≠yc:=fun z=>by rw[z,S.own] at hfr;cases hfr
   refine⟨u,r,.inr ⟨hkd,c',hc',?_⟩⟩
   rcases q with ⟨z,_⟩ | ⟨_,c,hcc,o,ho,hd⟩
   . rw[hkx] at z;cases z
   . have e:c=c':=zP (hcc.symm.trans (zB0 ((zGn hxy).symm.trans hc')))
     subst e
     exact⟨o,hk c o ho,hd⟩
 . rcases zCm I e with ⟨_,d⟩ | ⟨_,d,_⟩
   . rw[d];exact⟨_,hcl⟩
   . obtain⟨v,o,ho,hd⟩:=I.cell x c d
     exact⟨v,o,hk c o ho,hd⟩
 . rcases zCm I e with ⟨_,d⟩ | ⟨_,d,_⟩
   . rw[d];exact I.hok.fresh (zA3 _)
   . exact I.freeC x c d
 . have hp':p∈X.pn++pins:=by rw[zo] at hp;exact hp
   obtain⟨e,n,ne,nf,d⟩:=I.pin p hp'
   refine⟨hk _ _ e,n,za (zV e),fun z=>?_,d⟩
   rcases ze.mp (I.stkSub p.1 z) with q | q
   . exact ne q
   . exact nf q
 . show (List.replicate own.length none++cv.map some).length=N'.length
   rw[hN,zM,zM,zAH,zB,lenv,hl]
theorem zHe {elt target iter:Expr}{ifs:List Expr}{pos cpos:Pos}{wi:TI}{g:TG}{ti:TT}{te:TE}{use:Option (Value->Sem Unit)}{Q0:Value->Shared->Prop}{s:Shared}{H:Hp}{Q:VK}(hcalm:X.calm=true)(S:zDL X scope yc)(hc:zDD X scope cn ci)(hl:cn.length=ci.length)
 (hi:PI X target iter wi)(hg:∀pl fp s3 H3,PG (zCP X pl (own++cn) scope yc fp s3 H3) target g)(ht:∀pl fp s3 H3,PTs (zCP X pl (own++cn) scope yc fp s3 H3) ifs ti)
 (he:∀pl fp s3 H3,PE (zCP X pl (own++cn) scope yc fp s3 H3) elt te)(hs:∀x,foldedSetIterable iter X.env x=pure x)(I:Inv X pins σ H s)(h:zHt own.length ci wi g ti te σ H Q)
 (fin:∀(D C:Addr)(H5:Hp)(s6:Shared)(m6:Str->Option Value),Inv X pins σ H5 s6->s6.heap.Ns C m6->H5 C=none->C≠X.env.locals->X.s₀.heap.objs.size<=C->(∀x c,X.env.cells.lookup x=some c->c≠C) ->
  (∀p∈X.pn++pins,p.1≠C)->Q (.ref D) H5->compPost (model X.prog X.w) X.A X.xe use Q0 (.ref D) C (.ok .next) s6) :
 wpAny (model X.prog X.w) X.A (comprehension (.ListComp elt [⟨target,iter,ifs,0⟩] scope pos) scope X.env cpos (newList []) false (eval iter X.env) use) Q0 X.xe s:=by
 have hcl:closureFor scope X.env=pure (zCQ X.env.cells scope.names []):=zCC fun y hy hf=>I.ok.has y.1 (.inl (S.free y hy hf))
 refine wpAny_comprehension_free (use:=use) rfl hs hcl S.kind S.names ?_
 refine thn (hi pins s σ H _ I h) fun v s1 h1=>thn h1 fun itv s2 h2=>?_
 obtain⟨it,fp,tn,J,H2,e,I2,T,st2,f2,cv,hv,hD⟩:=h2
 subst e
 have lenv:cv.length=ci.length:=by
  have:=congrArg List.length hv
  simpa using this.symm
 have I3:=I2.lnew (ys:=[]) (its:=[]) (t':=s2.toks) .nil (zh _)
 obtain⟨W,⟨m0,w0⟩,turn⟩:=hD s2.heap.objs.size I2.fresh
 have fz:∀b∈fp,b<s2.heap.objs.size:=fun b hb=>by
  obtain⟨o,ho,_⟩:=T.obj _ _ st2 b hb
  exact zV ho
 refine zAs ?_
 refine zKH S.cf (fun h4 hns4 hk4 hc4=>?_)
 generalize hs3:({ s2 with heap:=s2.heap.push { cls:=.type "list",dict:=none,data:=.seq ([]:List Value).toArray } }:Shared)=s3 at hns4 hk4 hc4 ⊢
 have I3':Inv X pins σ (upd H2 s2.heap.objs.size (.lst [])) s3:=by rw[<-hs3];exact I3
 have hsz3:s3.heap.objs.size=s2.heap.objs.size+1:=by rw[<-hs3];exact zAj ..
 have k23:∀b o,s2.heap.get? b=some o->s3.heap.get? b=some o:=fun b o e=>by rw[<-hs3];exact zF _ e
 have k34:∀b o,s3.heap.get? b=some o->h4.get? b=some o:=hk4
 have nD:∀b∈fp,b≠s2.heap.objs.size:=fun b hb=>za (fz b hb)
 have f3:∀b∈fp,zDE X pins (upd H2 s2.heap.objs.size (.lst [])) b:=fun b hb=>⟨by rw[zX (nD b hb)];exact (f2 b hb).1,(f2 b hb).2⟩
 have fz3:∀b∈fp,b<s3.heap.objs.size:=fun b hb=>by rw[hsz3];exact zAh (fz b hb)
 have I4:Inv (zCP X (X.pn++pins) (own++cn) scope yc fp s3 (upd H2 s2.heap.objs.size (.lst []))) [] (List.replicate own.length none++cv.map some) (upd H2 s2.heap.objs.size (.lst [])) { s3 with heap:=h4,toks:=s3.toks }:=
  zJG I3' S f3 fz3 rfl hc hv hl hns4 k34 hc4
 have st4:tn 0 h4:=T.keep _ _ _ st2 fun b hb o e=>k34 b o (k23 b o e)
 generalize hX:zCP X (X.pn++pins) (own++cn) scope yc fp s3 (upd H2 s2.heap.objs.size (.lst []))=X' at I4
 have hg':PG X' target g:=by rw[<-hX];exact hg _ _ _ _
 have ht':PTs X' ifs ti:=by rw[<-hX];exact ht _ _ _ _
 have he':PE X' elt te:=by rw[<-hX];exact he _ _ _ _
 have ePr:X'.prog=X.prog:=by rw[<-hX];rfl
 have eW:X'.w=X.w:=by rw[<-hX];rfl
 have eK:X'.K=X.K:=by rw[<-hX];rfl
 have eA:X'.A=X.A:=by rw[<-hX];rfl
 have eE:X'.env=zEw scope yc (zCQ X.env.cells scope.names []) s3.heap.objs.size X.env:=by rw[<-hX];rfl
 have eXe:X'.xe=fun _ _=>False:=by rw[<-hX];rfl
 have eC:X'.calm=true:=by rw[<-hX];exact hcalm
 have eex:X'.ex=fp:=by rw[<-hX];rfl
 have epn:X'.pn=X.pn++pins:=by rw[<-hX];rfl
 have es0:X'.s₀=s3:=by rw[<-hX];rfl
 have eH0:X'.H₀=upd H2 s2.heap.objs.size (.lst []):=by rw[<-hX];rfl
 have efs:X'.fs=frs X.stack:=by rw[<-hX];rfl
 have ok':=I4.ok
 have stat:∀{H':Hp},(∀b∈fp,H' b=none)->∀b∈fp,zDE X' [] H' b:=fun hn b hb=>by
  have hb':b∈X'.ex:=by rw[eex];exact hb
  refine⟨hn b hb,(ok'.exf b hb').1,ok'.exfs b hb',.inl hb',(ok'.exf b hb').2,fun p hp=>?_⟩
  rw[epn,zo] at hp
  exact (f2 b hb).2.2.2.2.2 p hp
 have wk:∀(σ2:St),(σ2.length=own.length+cv.length/\σ2.drop own.length=cv.map some)->∀{pl:List (Addr×Obj)}{H':Hp}{s':Shared},Inv X' pl σ2 H' s'->Inv X' pl (List.replicate own.length none++cv.map some) H' s':=fun σ2 hq pl H' s' I'=>by
  refine I'.weak (by rw[hq.1,zM,zAH,zB]) fun i v hi=>?_
  by_cases hlt:i<own.length
  . rw[zW (by simpa using hlt),zA5] at hi
    split at hi <;> cases hi
  . rw[zR (by simpa using hlt),zAH,<-hq.2,List.getElem?_drop] at hi
    rw[show own.length+(i-own.length)=i by omega] at hi
    exact hi
 have loop:codeAny (model X.prog X.w) X.A (.compLoop (.ListComp elt [⟨target,iter,ifs,0⟩] scope pos) 0 (.ref it) (.ref s2.heap.objs.size) (zEw scope yc (zCQ X.env.cells scope.names []) s3.heap.objs.size X.env))
  (compPost (model X.prog X.w) X.A X.xe use Q0 (.ref s2.heap.objs.size) s3.heap.objs.size) { s3 with heap:=h4,toks:=s3.toks }:=by
  refine zDQ (fun n s'=>∃i ys H',Inv X' [] (List.replicate own.length none++cv.map some) H' s'/\tn i s'.heap/\(∀b∈fp,H' b=none)/\W i n ys H') ?_ m0
   ⟨0,[],_,I4,st4,fun b hb=>(f3 b hb).1,w0⟩
  rintro n s5 ⟨i,ys,H5,I5,st5,fr5,w5⟩
  rcases turn i n ys H5 w5 with ⟨stop,qn⟩ | ⟨go,hsz,N,hN,step⟩
  . have d:=T.done X' ePr eW eK eC i [] s5 _ H5 (fun _ _=>False) I5 (stat fr5) st5 stop
    rw[eA] at d
    refine thn d fun r s6 ⟨hr,I6⟩=>?_
    subst hr
    obtain⟨m6,hn6,_⟩:=I6.loc
    rw[eE] at hn6
    have hn6':s6.heap.Ns s3.heap.objs.size m6:=hn6
    have un6:Un (frs X.stack) fp (upd H2 s2.heap.objs.size (.lst [])) H5 s3.heap s6.heap:=by
     have b6:=I6.base
     rw[efs,eex,eH0,es0] at b6
     exact b6
    have os6:s6.os=s3.os:=by have o6:=I6.os;rw[es0] at o6;exact o6
    have hok6:HOk X.prog X.w H5 s6.heap:=by have o6:=I6.hok;rw[ePr,eW] at o6;exact o6
    have I7:Inv X pins σ H5 s6:=I3'.call' (ch:=fp) os6 un6 hok6 I6.bare fun b hb=>⟨(f2 b hb).2.2.2.1,(f2 b hb).2.1,(f2 b hb).2.2.2.2.1,(f2 b hb).2.2.2.2.2⟩
    have fr6:H5 s3.heap.objs.size=none:=by
     have q:=I6.free
     rw[eE] at q
     exact q
    refine fin s2.heap.objs.size s3.heap.objs.size H5 s6 m6 I7 hn6' fr6 (Nat.ne_of_gt I3'.lt) I3'.sz (fun x c e=>?_) (fun p hp=>?_) qn
    . obtain⟨_,o,ho,_⟩:=I3'.cell x c e
      exact za (zV ho)
    . exact za (zV (I3'.pin p hp).1)
  . have d:=T.item X' ePr eW eK eC i [] s5 _ H5 (fun _ _=>False) I5 (stat fr5) st5 go
    rw[eA] at d
    refine thn d fun r s6 ⟨u,hr,h6⟩=>?_
    subst hr
    refine thn h6 fun _ s7 ⟨x,H7,I7,r7,y7,st7,fr7⟩=>?_
    have I7':=I7.pinned (stat fr7) (T.obj _ _ st7)
    have g7:=hg' _ s7 _ H7 x u _ I7' r7 (step x H7 y7)
    rw[ePr,eW,eA,eE,eXe] at g7
    refine thn g7 fun _ s8 ⟨σ8,H8,I8,q8,ti8⟩=>?_
    have t8:=ht' _ s8 σ8 H8 _ I8 ti8
    rw[ePr,eW,eA,eE,eXe] at t8
    refine thn t8 fun ok s9 ⟨H9,I9,q9⟩=>?_
    have again:∀{ys':List V}{H':Hp}{s':Shared},Inv X' ([]++zEK fp s7.heap) σ8 H' s'->N ys' H' ->
     ∃m,m<n/\∃i ys H',Inv X' [] (List.replicate own.length none++cv.map some) H' s'/\tn i s'.heap/\(∀b∈fp,H' b=none)/\W i m ys H':=fun {ys' H' s'} I' n'=>by
     obtain⟨m',hm,w'⟩:=hN ys' H' n'
     refine⟨m',hm,i+1,ys',H',(wk σ8 q8 I').unpinned,T.keep _ _ _ st7 fun b hb o e=>(I'.pin (b,o) (zg _ (zg _ (zCE hb e)))).1,fun b hb=>?_,w'⟩
     obtain⟨o,e,_⟩:=T.obj _ _ st7 b hb
     exact (I'.pin (b,o) (zg _ (zg _ (zCE hb e)))).2.1
    cases ok with
    | false=>exact again I9 q9
    | true=>
     have e9:=he' _ s9 σ8 H9 _ I9 q9
     rw[ePr,eW,eA,eE,eXe] at e9
     refine thn e9 fun u10 s10 ⟨y,H10,I10,r10,hD10,n10⟩=>?_
     have a10:=zBi (X:=X') _ s10 σ8 H10 (.ref s2.heap.objs.size) [y] (.ref s2.heap.objs.size) [u10] (fun _ H'=>N (ys++[y]) H') I10 rfl (.cons r10 .nil) ⟨_,_,_,rfl,rfl,hD10,hsz,n10⟩
     rw[ePr,eW,eA,eXe] at a10
     exact thn a10 fun _ s11 ⟨_,H11,I11,_,n11⟩=>again I11 n11
 exact codeAny_compStart_list loop (T.self X.A 0 _ _ _ st4 loop)
theorem zJ8 {elt target iter:Expr}{ifs:List Expr}{pos pos' cpos:Pos}{wi:TI}{g:TG}{ti:TT}{te:TE}{i:Nat}{x:Str}(hN:X.N.Nodup)(hix:X.N[i]? = some x)(hx:Loc X.env.scope x)(hcalm:X.calm=true)(S:zDL X scope yc)(hc:zDD X scope cn ci)(hl:cn.length=ci.length)
 (hi:PI X target iter wi)(hg:∀pl fp s3 H3,PG (zCP X pl (own++cn) scope yc fp s3 H3) target g)(ht:∀pl fp s3 H3,PTs (zCP X pl (own++cn) scope yc fp s3 H3) ifs ti)
 (he:∀pl fp s3 H3,PE (zCP X pl (own++cn) scope yc fp s3 H3) elt te)(hs:∀x,foldedSetIterable iter X.env x=pure x:=by intro _;rfl)
 (hsw:swapsWith (.ListComp elt [⟨target,iter,ifs,0⟩] scope cpos) (some (.Name x pos')) pos.line X.env=pure true:=by rfl)
 (hf:X.fn x=true\/X.env.scope.names.lookup x=some .local:=by first | exact .inl rfl | exact .inr rfl | assumption) :
 PS X (.Assign [.Name x pos'] (.ListComp elt [⟨target,iter,ifs,0⟩] scope cpos) pos) (tAsg (zHt own.length ci wi g ti te) (zIs i)):=by
 intro pins s σ H D I h
 rw[exec_Assign_Name_used _ _ _ _ hsw]
 refine zA (zBq (zA ?_))
 show wpAny _ X.A (do let _ <-comprehension (.ListComp elt [⟨target,iter,ifs,0⟩] scope cpos) scope X.env _ (newList []) false (eval iter X.env) (some (assign (.Name x pos') X.env))) _ _ s
 refine zA (zAJ (zHe (use:=some (assign (.Name x pos') X.env)) (Q0:=fun _ s'=>SP X pins D .next s') hcalm S hc hl hi hg ht he hs I h (fun D' C H5 s6 m6 I7 hn fr nL ge nC nP q=>?_)) (fun _ s' hq=>zG (zG hq)) fun _ _ e=>e)
 obtain⟨oC,es,ep,hoC,hd,r1⟩:=hn
 have nf:C∉X.fs:=fun hb=>by
  obtain⟨_,o,ho,_⟩:=I7.ok.funs.mem hb
  exact absurd (zl (zV ho) ge) (zBV _)
 have I7':Inv X (pins++[(C,oC)]) σ H5 s6:=I7.pins_of fun p hp=>by
  rcases zAC.mp hp with z | z
  . exact I7.pin p (zg _ z)
  . rw[zk.mp z]
    exact⟨hoC,fr,nL,nf,fun v e=>by rw[hd] at e;cases e⟩
 show wpAny _ X.A (assign (.Name x pos') X.env (.ref D')) _ _ s6
 refine wpAny_assign_Name (zCy I7' hN hix hx (show zBT (.ref D') (.ref D') from rfl) (fun s' I'=>?_) hf)
 have hC':=(I'.pin (C,oC) (zg _ (zg _ (zk.mpr rfl)))).1
 refine⟨m6,⟨oC,es,ep,hC',hd,r1⟩,fun h' hs'=>⟨_,H5,?_,q⟩⟩
 have I2:Inv X pins (σ.set i (some (.ref D'))) H5 s':=I'.pins_of fun p hp=>I'.pin p (zg _ (zA6 _ hp))
 exact I2.turned (t':=s'.toks) (it:=C) (fun b o hb e=>hs'.extBut b o hb e) fr nL (.inr ge) nC nP
end
noncomputable def cscOk1 (outer inner:Scope)(yc:Str):Bool:=inner.names.all fun y=>(y.2 != .cell || y.1==yc) && (y.2 != .local || inner.names.lookup y.1==some .local) && (y.2 != .free || outer.names.lookup y.1==some .cell)
theorem csc1 {X:Cx}{scope:Scope}{yc:Str}(hk:scope.kind = .function)(hcf:∀n acc,cellsFrom n scope.names acc=(yc,n)::acc)(ho:scope.names.lookup yc=some .cell)(h:cscOk1 X.env.scope scope yc=true):zDL X scope yc:=by
 have a:=zBH.mp h
 refine⟨hk,hcf,ho,fun y hy e=>?_,fun y hy e=>?_,fun y hy e=>?_⟩
 . have:=a y hy
   rw[e] at this
   simpa using this
 . have:=a y hy
   rw[e] at this
   simpa using this
 . have:=a y hy
   rw[e] at this
   have h2:X.env.scope.names.lookup y.1=some .cell:=by simpa using this
   exact h2
end L2
namespace L2
open PySem PySem.Spec PyProof.Rows
noncomputable def zLJ (ta:TA):TE:=fun σ H Q=>ta σ H fun vs H1=>∃j:Int,vs=[.int j]/\0<=j/\j<=1000/\∀l,H1 l=none->Q (.ref l) (upd H1 l (.lst ((WM.lowTo j.toNat).map V.int)))
theorem zJe:∀(vs:List Value)(n:Nat),vs.length=n->(∀(j:Nat)(v:Value),vs[j]? = some v->∃t,v = .int (0+(j:Int)*1) t)->zBJ ((WM.lowTo n).map V.int) vs:=by
 have key:∀(vs:List Value)(a:Nat),(∀(j:Nat)(v:Value),vs[j]? = some v->∃t,v = .int ((a+j:Nat):Int) t)->zBJ ((List.range' a vs.length).map fun (i:Nat)=>V.int (i:Int)) vs:=by
  intro vs
  induction vs with
  | nil=>intro _ _;exact .nil
  | cons v r ih=>
   intro a h
   obtain⟨t,ht⟩:=h 0 v rfl
   rw[zt,List.range'_succ,zz]
   refine .cons ⟨t,by rw[ht];rfl⟩ (ih (a+1) fun j u hj=>?_)
   obtain⟨t',ht'⟩:=h (j+1) u hj
   exact⟨t',by rw[ht'];congr 1;omega⟩
 intro vs n e h
 subst e
 have:=key vs 0 fun j v hj=>by
  obtain⟨t,ht⟩:=h j v hj
  exact⟨t,by rw[ht];congr 1;omega⟩
 unfold WM.lowTo
 rw[zBp,List.range_eq_range']
 exact this
section
variable {X:Cx}
theorem zIM {a:Expr}{ta:TA}{p1 p2 pos1 pos2:Pos}(hc:X.calm=true)(hgL:Gl X "list") (hmL:X.mg "list" = none) (hgR:Gl X "range") (hmR:X.mg "range" = none) (ha:PA X [a] ta)(hs:starEach [a] X.env=[(false,eval a X.env)]:=by rfl)
 (he:starEach [.Call (.Name "range" p2) [a] [] pos2] X.env=[(false,eval (.Call (.Name "range" p2) [a] [] pos2) X.env)]:=by rfl):PE X (.Call (.Name "list" p1) [.Call (.Name "range" p2) [a] [] pos2] [] pos1) (zLJ ta):=by
 intro pins s σ H Q I h
 refine zA2 (zCa I hgL hmL (by decide +kernel:bootBuiltins "list" = some (.type "list")) ?_ (by decide) (by decide))
 refine PyProof.Rows.callWith_type1 ?_ he rfl
 rw[he]
 refine Calls.spliced_cons ?_
 refine Call_ (zCa I hgR hmR boot_range (PyProof.Rows.callWith_type1 (thn (ha pos2 pins s σ H _ I h) fun us s1 ⟨vs,H1,I1,r1,q1⟩=>?_) hs rfl))
 obtain⟨j,e,h0,h1,q⟩:=q1
 subst e
 cases r1 with
 | cons r rr=>
  cases rr
  obtain⟨t,rfl⟩:=r
  refine call_range_1 ?_
  refine Calls.spliced_nil ?_
  have hz:Builtin.Range.rangeSize 0 j 1=(j.toNat:Int):=by rw[rangeSize_one];split <;> omega
  refine call_list_range (I.ok.hd hc) (IsRange.new ..) (small_one (by omega) (by omega) (by omega) (by omega)) hz (by omega) fun h' tk acc c' kp hD hI=>?_
  have kp1:∀b o,s1.heap.get? b=some o->h'.get? b=some o:=fun b o e=>kp b o (zF _ e)
  have rv:zBJ ((WM.lowTo j.toNat).map V.int) acc.toList:=zJe acc.toList _ (by rw[Array.length_toList];exact hI.1) fun i v hi=>hI.2 i v (by rw[<-hi,Array.getElem?_toList])
  have hsz:s1.heap.objs.size<=(s1.heap.push { cls:=.type "range",data:=.fields #[.int 0 s1.toks,.int j t,.int 1 (s1.toks+1)] }).objs.size:=by rw[zAj];exact zA3 _
  refine⟨.ref _,_,I1.laid (t':=tk) kp1 hsz (show zBM X.prog X.w _ h' _ (.lst ((WM.lowTo j.toNat).map V.int)) from ⟨?_,acc.toList,c',rv,by rw[Array.toArray_toList];exact hD⟩),rfl,q _ (I1.hok.fresh hsz)⟩
  rw[zB,WM.lowTo,zB,zu]
  have:sizeLine=16777216:=rfl
  omega
end
section
variable {X:Cx}{pl:List (Addr×Obj)}{N':List Str}{sc:Scope}{fp:List Addr}{s3:Shared}{H3:Hp}
theorem zDA:zCo (zBl X pl N' sc fp s3 H3) (.builtin "len") (fun xs H Q=>∃p ys,xs=[.ref p]/\(SqL X.K H p ys\/SqT X.K H p ys)/\Q (.int ys.length) H):=zAX
end
section
variable {X:Cx}
end
end L2
namespace L2
open PySem PyProof.Rows
noncomputable def Kp (s0:Shared)(h:Heap):Prop:=∀b o,s0.heap.get? b=some o->h.get? b=some o
structure MinIt (prog:Program)(w:World)(A:Around)(s0:Shared)(I:Addr)(its:List Value)(itAt:Nat->Heap->Prop):Prop where
 stay:∀j h h',itAt j h->h'.get? I=h.get? I->itAt j h'
 next:∀(j:Nat)(h:Heap)(tk:Nat)(v:Value)(Q:Option Value->Shared->Prop)(E:Value->Shared->Prop),Kp s0 h->itAt j h->its[j]? = some v ->
  (∀h',itAt (j+1) h'->(∀b,b≠I->h'.get? b=h.get? b)->Q (some v) { s0 with heap:=h',toks:=tk })->wpAny (model prog w) A (pyNext (.ref I)) Q E { s0 with heap:=h,toks:=tk }
 fin:∀(j:Nat)(h:Heap)(tk:Nat)(Q:Option Value->Shared->Prop)(E:Value->Shared->Prop),Kp s0 h->itAt j h->its[j]? = none ->
  (∀h',(∀b o,b≠I->h.get? b=some o->h'.get? b=some o)->Q none { s0 with heap:=h',toks:=tk })->wpAny (model prog w) A (pyNext (.ref I)) Q E { s0 with heap:=h,toks:=tk }
section
variable {prog:Program}{w:World}{A:Around}{s0:Shared}{I S:Addr}{its:List Value}{itAt:Nat->Heap->Prop}
theorem Kp.upd {h:Heap}{f:Obj->Obj}(K:Kp s0 h)(hS:s0.heap.objs.size<=S):Kp s0 (h.update S f):=fun b o e=>by
 rw[zAo _ _ _ _ (za (zl (zV e) hS))];exact K b o e
theorem Kp.but {h h':Heap}(K:Kp s0 h)(hI:s0.heap.objs.size<=I)(k:∀b o,b≠I->h.get? b=some o->h'.get? b=some o):Kp s0 h':=fun b o e=>
 k b o (za (zl (zV e) hI)) (K b o e)
theorem zIb {R:Result->Shared->Prop}{kw:List (Str×Value)}(M:MinIt prog w A.in1 s0 I its itAt)(bt:Nat->Nat->Bool)(hS:s0.heap.objs.size<=S)(hI:s0.heap.objs.size<=I)(hSI:S≠I)
 (cmp:∀(i j:Nat)(vi vj:Value)(h:Heap)(tk:Nat)(Q E:Value->Shared->Prop),Kp s0 h->its[i]? = some vi->its[j]? = some vj->Q (.bool (bt i j)) { s0 with heap:=h,toks:=tk }->wpAny (model prog w) A.in1 (richCompare .Lt vi vj) Q E { s0 with heap:=h,toks:=tk })
 (hR:∀(v:Value)(h:Heap)(tk:Nat),its[argBest bt (its.length-1)]? = some v->Kp s0 h->R (.ok (.ret v)) { s0 with heap:=h,toks:=tk })
 : ∀(r j:Nat)(h:Heap)(tk:Nat)(vb:Value)(c:Nat),its.length-(j+1)=r->j+1<=its.length->Kp s0 h->itAt (j+1) h->its[argBest bt j]? = some vb ->
  h.get? S=some { cls:=.type "list",data:=.seq #[vb,vb] c }->codeAny (model prog w) A (.builtin "min.loop" { pos:=[.ref I,.none,.ref S],kw:=kw }) R { s0 with heap:=h,toks:=tk }:=by
 intro r
 induction r with
 | zero=>
  intro j h tk vb c hr hj K hit hv hSo
  refine codeAny_builtin PySem.F.entry_min_loop ?_
  unfold Builtin.«min.loop»
  refine zA (zBZ hSo rfl ?_)
  dsimp only
  refine zA (zBF (M.fin (j+1) h tk _ _ K hit (zAn (by omega)) fun h' k=>?_))
  have hS':=k S _ hSI hSo
  refine zA (wpAny_updateSeq hS' rfl (zA (wpAny_letGo (zG ?_))) (by show 2<=sizeLine;decide) (by show 0<=sizeLine+1;decide))
  refine hR vb _ tk ?_ ((K.but hI k).upd hS)
  rw[show its.length-1=j by omega];exact hv
 | succ r ih=>
  intro j h tk vb c hr hj K hit hv hSo
  obtain⟨x,hx⟩:∃x,its[j+1]? = some x:=⟨_,zC (by omega)⟩
  refine codeAny_builtin PySem.F.entry_min_loop ?_
  unfold Builtin.«min.loop»
  refine zA (zBZ hSo rfl ?_)
  dsimp only
  refine zA (zBF (M.next (j+1) h tk x _ _ K hit hx fun h' hit' k=>?_))
  have K':Kp s0 h':=K.but hI fun b o hb e=>by rw[k b hb];exact e
  have hS':h'.get? S=some { cls:=.type "list",data:=.seq #[vb,vb] c }:=by rw[k S hSI];exact hSo
  refine zA (zG ?_)
  refine zA (zBF (zAR (zA (cmp (j+1) (argBest bt j) x vb h' tk _ _ K' hx hv ?_))))
  refine zA (zAR (zBN (zA (wpAny_letGo (zG ?_)))))
  have eb:argBest bt (j+1)=if bt (j+1) (argBest bt j)=true then j+1 else argBest bt j:=argBest.eq_2 bt j
  cases e:bt (j+1) (argBest bt j) with
  | true=>
   rw[if_pos e] at eb
   refine zA (wpAny_updateSeq hS' rfl (zA (wpAny_letGo (zG ⟨rfl,?_⟩))) (by show 2<=sizeLine;decide) (by show 2<=sizeLine+1;decide))
   exact ih (j+1) _ tk x c (by omega) (by omega) (K'.upd hS) (M.stay _ _ _ hit' (zAo _ _ _ _ (Ne.symm hSI))) (by rw[eb];exact hx) (zAW _ hS' rfl)
  | false=>
   rw[e,if_neg (by decide)] at eb
   refine zA (wpAny_letGo (zG ⟨rfl,?_⟩))
   exact ih (j+1) h' tk vb c (by omega) (by omega) K' hit' (by rw[eb];exact hv) hS'
theorem zEN {R:Result->Shared->Prop}{d:Value}(M:MinIt prog w A.in1 s0 I its itAt)(bt:Nat->Nat->Bool)(hS:s0.heap.objs.size<=S)(hI:s0.heap.objs.size<=I)(hSI:S≠I)
 (cmp:∀(i j:Nat)(vi vj:Value)(h:Heap)(tk:Nat)(Q E:Value->Shared->Prop),Kp s0 h->its[i]? = some vi->its[j]? = some vj->Q (.bool (bt i j)) { s0 with heap:=h,toks:=tk }->wpAny (model prog w) A.in1 (richCompare .Lt vi vj) Q E { s0 with heap:=h,toks:=tk })
 (hR:∀(v:Value)(h:Heap)(tk:Nat),its[argBest bt (its.length-1)]? = some v->Kp s0 h->R (.ok (.ret v)) { s0 with heap:=h,toks:=tk })
 (h0:its=[]->∀(h:Heap)(tk:Nat),Kp s0 h->R (.ok (.ret d)) { s0 with heap:=h,toks:=tk })
 (h:Heap)(tk:Nat)(c:Nat)(K:Kp s0 h)(hit:itAt 0 h)(hSo:h.get? S=some { cls:=.type "list",data:=.seq #[] c }) :
 codeAny (model prog w) A (.builtin "min.loop" { pos:=[.ref I,.none,.ref S],kw:=[(Str.ofString "default",d)] }) R { s0 with heap:=h,toks:=tk }:=by
 refine codeAny_builtin PySem.F.entry_min_loop ?_
 unfold Builtin.«min.loop»
 refine zA (zBZ hSo rfl ?_)
 dsimp only
 cases e:its with
 | nil=>
  subst e
  refine zA (zBF (M.fin 0 h tk _ _ K hit rfl fun h' k=>?_))
  exact zA (wpAny_rule (zG (h0 rfl h' tk (K.but hI k))))
 | cons x xs=>
  have hx:its[0]? = some x:=by rw[e];rfl
  refine zA (zBF (M.next 0 h tk x _ _ K hit hx fun h' hit' k=>?_))
  have K':Kp s0 h':=K.but hI fun b o hb e=>by rw[k b hb];exact e
  have hS':h'.get? S=some { cls:=.type "list",data:=.seq #[] c }:=by rw[k S hSI];exact hSo
  refine zA (zG ?_)
  refine zA (wpAny_updateSeq hS' rfl (zG ⟨rfl,?_⟩) (by show 0<=sizeLine;decide) (by show 2<=sizeLine+1;decide))
  refine zIb M bt hS hI hSI cmp hR (its.length-1) 0 _ tk x (c+1) rfl (by rw[e];simp) (K'.upd hS) (M.stay _ _ _ hit' (zAo _ _ _ _ (Ne.symm hSI))) hx (zAW _ hS' rfl)
end
end L2
namespace L2
open PySem PyProof.Rows
theorem wpAny_of_eq {α:Type}{M:Model}{A:Around}{E:Value->Shared->Prop}{s:Shared}{m m':Sem α}{Q:α->Shared->Prop}(e:m=m')(h:wpAny M A m' Q E s):wpAny M A m Q E s:=by subst e;exact h
theorem zDx {O:KeyOrd}(ky:Nat->O.α):∀k,argBest (fun i j=>O.blt (ky i) (ky j)) k<=k/\∀j,j<=k->O.blt (ky j) (ky (argBest (fun i j=>O.blt (ky i) (ky j)) k))=false
 | 0=>⟨zI _,fun j hj=>by obtain rfl:j=0:=(by omega);exact O.irrefl _⟩
 | k+1=>by
  obtain⟨h1,h2⟩:=zDx ky k
  rw[argBest.eq_2]
  cases e:O.blt (ky (k+1)) (ky (argBest (fun i j=>O.blt (ky i) (ky j)) k)) with
  | true=>
   rw[if_pos rfl]
   refine⟨zI _,fun j hj=>?_⟩
   by_cases c:j=k+1
   . subst c;exact O.irrefl _
   . cases e2:O.blt (ky j) (ky (k+1)) with
     | false=>rfl
     | true=>rw[<-h2 j (by omega)];exact (O.trans _ _ _ e2 e).symm
  | false=>
   rw[if_neg (by decide)]
   refine⟨by omega,fun j hj=>?_⟩
   by_cases c:j=k+1
   . subst c;exact e
   . exact h2 j (by omega)
theorem zFj {prog:Program}{w:World}{A:Around}{s:Shared}{p:Addr}{its:List Value}{d:Value}{Q E:Value->Shared->Prop}(hA:A.handled=none)(bt:Nat->Nat->Bool)(hp:s.heap.IsList p its.toArray\/s.heap.IsTuple p its.toArray)
 (cmp:∀(i j:Nat)(vi vj:Value)(h:Heap)(tk:Nat)(Q E:Value->Shared->Prop),Kp s h->its[i]? = some vi->its[j]? = some vj->Q (.bool (bt i j)) { s with heap:=h,toks:=tk }->wpAny (model prog w) A.in1 (richCompare .Lt vi vj) Q E { s with heap:=h,toks:=tk })
 (hR:∀(v:Value)(h:Heap)(tk:Nat),its[argBest bt (its.length-1)]? = some v->Kp s h->Q v { s with heap:=h,toks:=tk })
 (h0:its=[]->∀(h:Heap)(tk:Nat),Kp s h->Q d { s with heap:=h,toks:=tk }) :
 wpAny (model prog w) A (call (.builtin "min") [.ref p] [(Str.ofString "default",d)]) Q E s:=by
 refine zBg (codeAny_call_builtin PySem.F.plain_min PySem.F.entry_min (wpAny_of_eq (show checkBuiltinCall "min" { pos:=[.ref p],kw:=[(Str.ofString "default",d)] }=pure () from rfl) (zG ?_)))
 unfold Builtin.min
 refine zA (wpAny_of_eq (show Builtin.Builtins.bindParams "min" ["key", "default"] 0 { kw:=[(Str.ofString "default",d)] }=pure [none,some d] from rfl) (zG ?_))
 dsimp only
 refine zA (zG ?_)
 have kp0:∀(o1 o2:Obj),Kp s ((s.heap.push o1).push o2):=fun o1 o2 b o e=>zF _ (zF _ e)
 rcases hp with hp | hp
 . refine zA (wpAny_pyIter_list hp (zA (wpAny_newList (zG ⟨rfl,?_⟩) (by show 0<=sizeLine;decide))))
   have hSe:(s.heap.push { cls:=.type "list_iterator",data:=.fields #[.ref p,.int 0 0] }).objs.size=s.heap.objs.size+1:=zAj ..
   rw[hSe]
   refine zEN (s0:=s) (I:=s.heap.objs.size) (S:=s.heap.objs.size+1) (itAt:=fun j h=>h.IsListIter s.heap.objs.size p j) ⟨fun j h h' a e=>?_,fun j h tk v Q E K hit hv q=>?_,fun j h tk Q E K hit hv q=>?_⟩ bt (zA3 _) (zI _) (Nat.succ_ne_self _) cmp hR h0 _ s.toks 0 (kp0 _ _) ?_ ?_
   . obtain⟨o,ho,hc⟩:=a
     exact⟨o,by rw[e];exact ho,hc⟩
   . obtain⟨o,ho,hc⟩:=hp
     exact wpAny_pyNext_list_item hit ⟨o,K _ _ ho,hc⟩ (by rw[zAe];exact hv) fun h' a b=>q h' a fun c hc=>b.2 c hc
   . obtain⟨o,ho,hc⟩:=hp
     exact wpAny_pyNext_list_end hA hit ⟨o,K _ _ ho,hc⟩ (by rw[zAe];exact hv) fun h' b=>q h' b
   . exact⟨_,zF _ (zQ _ rfl),rfl,rfl⟩
   . rw[<-hSe];exact zQ _ rfl
 . refine zA (wpAny_pyIter_tuple hp (zA (wpAny_newList (zG ⟨rfl,?_⟩) (by show 0<=sizeLine;decide))))
   have hSe:(s.heap.push { cls:=.type "tuple_iterator",data:=.fields #[.ref p,.int 0 0] }).objs.size=s.heap.objs.size+1:=zAj ..
   rw[hSe]
   refine zEN (s0:=s) (I:=s.heap.objs.size) (S:=s.heap.objs.size+1) (itAt:=fun j h=>h.IsTupleIter s.heap.objs.size p j) ⟨fun j h h' a e=>?_,fun j h tk v Q E K hit hv q=>?_,fun j h tk Q E K hit hv q=>?_⟩ bt (zA3 _) (zI _) (Nat.succ_ne_self _) cmp hR h0 _ s.toks 0 (kp0 _ _) ?_ ?_
   . obtain⟨o,ho,hc⟩:=a
     exact⟨o,by rw[e];exact ho,hc⟩
   . obtain⟨o,ho,hc⟩:=hp
     exact wpAny_pyNext_tuple_item hit ⟨o,K _ _ ho,hc⟩ (by rw[zAe];exact hv) fun h' a b=>q h' a fun c hc=>b.2 c hc
   . obtain⟨o,ho,hc⟩:=hp
     exact wpAny_pyNext_tuple_end hA hit ⟨o,K _ _ ho,hc⟩ (by rw[zAe];exact hv) fun h' b=>q h' b
   . exact⟨_,zF _ (zQ _ rfl),rfl,rfl⟩
   . rw[<-hSe];exact zQ _ rfl
section
variable {X:Cx}
noncomputable def rMinD (K:PySem.W.Frag)(x dv:V)(H:Hp)(Q:VK):Prop:=∃(p:Addr)(ys:List V),x = .ref p/\(SqL K H p ys\/SqT K H p ys)/\(ys=[]->Q dv H) /\
 ((∃ks,zAk H ys ks/\∀(i:Nat)(y:V)(k:List Int),ys[i]? = some y->ks[i]? = some k->(∀k'∈ks,HT.lexLt k' k=false)->Q y H)\/(∃ns:List Int,ys=ns.map V.int/\∀n∈ns,(∀m∈ns,n<=m)->Q (.int n) H))
noncomputable def tMinD (K:PySem.W.Frag)(t:TA)(td:TE):TE:=fun σ H Q=>t σ H fun vs H1=>∃x,vs=[x]/\td σ H1 fun dv H2=>rMinD K x dv H2 Q
theorem zIL {e de:Expr}{t:TA}{td:TE}{pos np kpos:Pos}(hc:X.calm=true)(hu:X.A.units+1<cLine)(hg:Gl X "min") (hm:X.mg "min" = none) (he:PA X [e] t)(hd:PE X de td)
 (hs1:backTo pos (starEach [e] X.env)=(false,eval e X.env)::backTo pos (starEach [] X.env):=by rfl)(hs2:(backTo pos (starEach [e] X.env)).any (·.1)=false:=by rfl) :
 PE X (.Call (.Name "min" np) [e] [⟨some "default",de,kpos⟩] pos) (tMinD X.K t td):=by
 intro pins s σ H Q I h
 refine zA2 (zCa I hg hm (by decide +kernel:bootBuiltins "min" = some (.builtin "min")) ?_)
 refine PyProof.Rows.callWith_kw (thn (he pos pins s σ H _ I h) fun us s1 ⟨vs,H1,I1,r,q1⟩=>?_) hs1 hs2
 obtain⟨x,rfl,q1⟩:=q1
 obtain⟨u,rfl,rx⟩:=zCn r
 show wpAny _ _ (evalAll ((do let v <-eval de X.env;standAt pos;pure v)::[])) _ _ s1
 refine wpAny_evalAll_cons (zA (thn (hd pins s1 σ H1 _ I1 q1) fun ud s2 ⟨dv,H2,I2,rd,q2⟩=>zA (zBq (zG (wpAny_evalAll_nil ?_)))))
 show wpAny _ _ (call (.builtin "min") [u] [(Str.ofString "default",ud)]) _ _ s2
 obtain⟨p,ys,rfl,hp,q0,hk⟩:=q2
 cases rx
 obtain⟨its,rv,hpp⟩:∃its:List Value,zBJ ys its/\(s2.heap.IsList p its.toArray\/s2.heap.IsTuple p its.toArray):=by
  rcases hp with hp | hp
  . obtain⟨its,r',pl,_⟩:=I2.list hp
    exact⟨its,r',.inl pl.isList⟩
  . obtain⟨its,r',pl,_⟩:=I2.tuple hp
    exact⟨its,r',.inr pl⟩
 have hlen:=rv.length
 have e0:its=[]->ys=[]:=fun z=>List.length_eq_zero_iff.mp (by rw[hlen,z];rfl)
 rcases hk with ⟨ks,T,q⟩ | ⟨ns,rfl,q⟩
 . have hl:=T.length
   refine zFj (I2.ok.hd hc) (fun i j=>zKM.blt (ks.getD i []) (ks.getD j [])) hpp (fun i j vi vj h tk Q E K hi hj q=>?_) (fun v h tk hv K=>?_) (fun z h tk K=>⟨dv,H2,I2.kept K,rd,q0 (e0 z)⟩)
   . have look:∀(i:Nat)(v:Value),its[i]? = some v->∃(p:Addr)(k:List Int)(us:List Value),v = .ref p/\ks[i]? = some k/\IntsAre us k/\IsTup h p us.toArray:=fun i v hv=>by
      have hi:i<ys.length:=by have:=(zK.mp hv).1;omega
      obtain⟨p,k,e1,e2,e3,_⟩:=T.get (i:=i) (x:=ys[i]) (by simp[hi])
      obtain⟨u,hu,ru⟩:=rv.get (i:=i) (x:=ys[i]) (by simp[hi])
      rw[hv] at hu;cases hu
      rw[e1] at ru
      cases (show v=Value.ref p from ru)
      obtain⟨_,us,rv',o,ho,hc⟩:=I2.hok p _ e3
      exact⟨p,k,us,rfl,e2,zBc rv',o,K _ _ ho,hc⟩
     obtain⟨p1,k1,us1,rfl,g1,i1,t1⟩:=look i vi hi
     obtain⟨p2,k2,us2,rfl,g2,i2,t2⟩:=look j vj hj
     refine HT.lt_tupInts (ns:=k1) (ms:=k2) t1 t2 i1 i2 hu ?_
     have:zKM.blt (ks.getD i []) (ks.getD j [])=HT.lexLt k1 k2:=by rw[zD,zD,g1,g2];rfl
     rw[<-this];exact q
   . obtain⟨b1,b2⟩:=zDx (O:=zKM) (fun i=>ks.getD i []) (its.length-1)
     have hlt:=(zK.mp hv).1
     generalize eb:argBest (fun i j=>zKM.blt (ks.getD i []) (ks.getD j [])) (its.length-1)=bi at hv hlt b1 b2
     have hy:bi<ys.length:=by omega
     obtain⟨u,hu,ru⟩:=rv.get (i:=bi) (x:=ys[bi]) (by simp[hy])
     rw[hv] at hu;cases hu
     obtain⟨pa,k,e1,e2,e3,_⟩:=T.get (i:=bi) (x:=ys[bi]) (by simp[hy])
     refine⟨ys[bi],H2,I2.kept K,ru,q bi ys[bi] k (by simp[hy]) e2 fun k' hk'=>?_⟩
     obtain⟨j,hj,ej⟩:=zx hk'
     have:=b2 j (by omega)
     have g1:ks.getD j []=k':=by rw[zD,zC hj,ej];rfl
     have g2:ks.getD bi []=k:=by rw[zD,e2];rfl
     rw[g1,g2] at this
     exact this
 . have hI:IntsAre its ns:=zBc rv
   have hl:=hI.length
   have look:∀(i:Nat)(v:Value),its[i]? = some v->∃t,v = .int (ns.getD i 0) t:=fun i v hv=>by
    have hi:i<ns.length:=by have:=(zK.mp hv).1;omega
    obtain⟨u,hu,ru⟩:=rv.get (i:=i) (x:=.int ns[i]) (by simp[hi])
    rw[hv] at hu;cases hu
    obtain⟨t,rfl⟩:=(show ∃t,v=Value.int ns[i] t from ru)
    exact⟨t,by rw[zD,zC hi];rfl⟩
   refine zFj (I2.ok.hd hc) (fun i j=>decide (ns.getD i 0<ns.getD j 0)) hpp (fun i j vi vj h tk Q E K hi hj q=>?_) (fun v h tk hv K=>?_) (fun z h tk K=>⟨dv,H2,I2.kept K,rd,q0 (e0 z)⟩)
   . obtain⟨t1,rfl⟩:=look i vi hi
     obtain⟨t2,rfl⟩:=look j vj hj
     exact PyProof.Rows.lt_int q
   . obtain⟨b1,b2⟩:=argBest_lt (fun i=>ns.getD i 0) (its.length-1)
     have hlt:=(zK.mp hv).1
     generalize eb:argBest (fun i j=>decide (ns.getD i 0<ns.getD j 0)) (its.length-1)=bi at hv hlt b1 b2
     obtain⟨t,rfl⟩:=look bi v hv
     have hy:bi<ns.length:=by omega
     refine⟨.int (ns.getD bi 0),H2,I2.kept K,⟨t,rfl⟩,q _ ?_ fun m hm=>?_⟩
     . rw[zD,zC hy];exact zBA hy
     . obtain⟨j,hj,ej⟩:=zx hm
       have:=b2 j (by omega)
       have g1:ns.getD j 0=m:=by rw[zD,zC hj,ej];rfl
       rw[g1] at this
       exact this
end
end L2
namespace L2
open PySem PyProof.Rows
section
variable {prog:Program}{w:World}{A:Around}{s0:Shared}{D I l:Addr}{its:List Value}{qs:List (Key×Value)}
end
section
variable {X:Cx}
end
end L2
namespace L2
open PySem PySem.Spec PyProof.Rows
section
variable {X:Cx}
theorem zIJ {x:Str}{T:String}{pos:Pos}(hg:Gl X x)(hm:X.mg x=none)(hv:bootBuiltins x=some (.type T))(hn:x ≠ "__name__" := by decide) (hdb:(x==("__debug__" : Str))=false:=by decide):PE X (.Name x pos) (tC (.ty T)):=
 fun pins s σ H Q I h=>zCa I hg hm hv ⟨.ty T,H,I,rfl,h⟩ hn hdb
theorem zCx:zCo X (.builtin "isinstance") (fun xs H Q=>∃x T t b,xs=[x,.ty T]/\zHi X.K H x t/\PySem.W.kitOne X.K t (.type T)=some b/\Q (.bl b) H):=by
 intro pins s σ H xs us Q I r h
 obtain⟨x,T,t,b,rfl,ty,e,q⟩:=h
 obtain⟨u,w',rfl,rx,rT⟩:=vals2 r
 cases (show w'=Value.type T from rT)
 exact zIn I rx ty e fun tk=>⟨.bl b,H,I.tok tk,rfl,q⟩
theorem ps_no {st:Stmt}:PS X st (fun _ _ _=>False):=fun _ _ _ _ _ _ h=>h.elim
end
section
variable {prog:Program}{w:World}{A:Around}{s0:Shared}{I l:Addr}{bs:List Bool}
theorem zKe {R:Result->Shared->Prop}(hA:A.handled=none)(hI:s0.heap.objs.size<=I)(hl:s0.heap.IsList l (bs.map Value.bool).toArray)
 (hR:∀(h:Heap)(tk:Nat),Kp s0 h->R (.ok (.ret (.bool (bs.all id)))) { s0 with heap:=h,toks:=tk }) :
 ∀(r j:Nat)(h:Heap)(tk:Nat),bs.length-j=r->j<=bs.length->Kp s0 h->h.IsListIter I l j->(bs.take j).all id=true ->
  codeAny (model prog w) A (.builtin "all.loop" { pos:=[.ref I] }) R { s0 with heap:=h,toks:=tk }:=by
 have hl':∀h,Kp s0 h->h.IsList l (bs.map Value.bool).toArray:=fun h K=>by
  obtain⟨o,ho,hc⟩:=hl
  exact⟨o,K _ _ ho,hc⟩
 intro r
 induction r with
 | zero=>
  intro j h tk hr hj K hit ha
  refine codeAny_builtin PySem.F.entry_all_loop ?_
  unfold Builtin.«all.loop»
  refine zA (wpAny_pyNext_list_end hA hit (hl' h K) (by rw[zAe];exact zAn (by rw[zB];omega)) fun h' b=>?_)
  refine zA (wpAny_rule (zG ?_))
  rw[zY (by omega)] at ha
  have:=hR h' tk (K.but hI b)
  rw[ha] at this
  exact this
 | succ r ih=>
  intro j h tk hr hj K hit ha
  obtain⟨x,hx⟩:∃x,bs[j]? = some x:=⟨_,zC (by omega)⟩
  refine codeAny_builtin PySem.F.entry_all_loop ?_
  unfold Builtin.«all.loop»
  refine zA (wpAny_pyNext_list_item hit (hl' h K) (x:=.bool x) (by rw[zAe,zJ,hx];rfl) fun h' hit' b=>?_)
  have K':Kp s0 h':=K.but hI fun c o hc e=>by rw[b.2 c hc];exact e
  refine zA (zAR (zBN (zA (wpAny_letGo ?_))))
  cases x with
  | true=>
   refine zG ⟨rfl,?_⟩
   exact ih (j+1) h' tk (by omega) (by omega) K' hit' (by rw[zy,hx,List.all_append,ha];rfl)
  | false=>
   refine zA (wpAny_rule (zG ?_))
   have e:bs.all id=false:=by
    cases z:bs.all id with
    | false=>rfl
    | true=>have:=zBH.mp z false (zS hx);simp at this
   have:=hR h' tk K'
   rw[e] at this
   exact this
end
section
variable {X:Cx}
theorem zG1:∀{bs:List Bool}{its:List Value},zBJ (bs.map V.bl) its->its=bs.map Value.bool
 | [],[],_=>rfl
 | b::bs,u::its,h=>by
  cases h with
  | cons h1 h2=>rw[zz,<-zG1 h2,show u=Value.bool b from h1]
 | [],_::_,h=>by cases h
 | _::_,[],h=>by cases h
theorem zEx (hc:X.calm=true):zCo X (.builtin "all") (fun xs H Q=>∃(p:Addr)(bs:List Bool),xs=[.ref p]/\SqL X.K H p (bs.map V.bl)/\Q (.bl (bs.all id)) H):=by
 intro pins s σ H xs us Q I r h
 obtain⟨p,bs,rfl,hq,q⟩:=h
 obtain⟨u,rfl,rx⟩:=zCn r
 cases rx
 obtain⟨its,r',pl,hz⟩:=I.list hq
 rw[zG1 r'] at pl
 refine zBg (codeAny_call_builtin PySem.F.plain_all PySem.F.entry_all (wpAny_of_eq (m':=pure ()) rfl (zG ?_)))
 unfold Builtin.all
 refine zA (wpAny_of_eq (m':=pure (Value.ref p)) rfl (zG (zA (wpAny_pyIter_list pl.isList (zG ⟨rfl,?_⟩)))))
 refine zKe (s0:=s) (l:=p) (bs:=bs) (I.ok.hd hc) (zI _) pl.isList ?_ bs.length 0 _ s.toks rfl (zh _) (fun b o e=>zF _ e) ?_ rfl
 . exact fun h tk K=>⟨.bl _,H,I.kept K,rfl,q⟩
 . exact⟨_,zQ _ rfl,rfl,rfl⟩
end
theorem zLX {prog:Program}{w:World}{h:Heap}(led:Bool):(h.push { cls:=.type "set",data:=.set #[] 0 (SetTable.fresh 0 0 led) }).SetOf (intKind prog w) h.objs.size (fun _=>false) 0:=by
 refine⟨_,#[],0,_,zQ _ rfl,⟨rfl,rfl,rfl⟩,rfl,?_,fun k=>⟨fun z=>by simp at z,fun ⟨e,he,_⟩=>by simp at he⟩,by decide,?_,rfl⟩
 . first | exact ElemsOf.nil | trivial | (intro e he;simp at he)
 . cases led <;> first | rfl | decide +kernel
end L2
namespace L2
open PySem PySem.Spec PyProof.Rows
theorem zGK {prog:Program}{w:World}{A:Around}{s:Shared}{l:Addr}{its:List Value}{ns:List Int}{Q E:Value->Shared->Prop}(hA:A.handled=none)(hl:s.heap.IsTuple l its.toArray)(hi:IntsAre its ns)(hz:its.length+1<scanBound)
 (q:∀(h:Heap)(tk:Nat),Kp s h->h.SetOf (intKind prog w) s.heap.objs.size (fun k'=>(firstMet (fun i=>ns.getD i 0) its.length).any fun x=>x==k') (firstMet (fun i=>ns.getD i 0) its.length).length->Q (.ref s.heap.objs.size) { s with heap:=h,toks:=tk }) :
 wpAny (model prog w) A (call (.type "set") [.ref l]) Q E s:=by
 refine zBg (codeAny_of_tree (zG ⟨Code.quiet_builtin _ (by decide +kernel),codeAny_builtin PySem.F.entry_type_call ?_⟩))
 unfold Builtin.«type.__call__»
 dsimp only
 rw[if_neg (by rw[PySem.F.called_set.notType];decide)]
 rw[if_neg (by rw[PySem.F.called_set.canCreate];decide)]
 obtain⟨c,tl,hm⟩:=PySem.F.called_set.mro
 refine zA (wpAny_of_eq (PySem.F.typeCall_set_1 _) (zG (zA (wpAny_of_eq hm (zG ?_)))))
 refine zA (wpAny_of_eq PySem.F.called_set.made (zG (zA (zG ?_))))
 refine zA (zAR (zBg (codeAny_mono (code_set_new_1 (E:=E) (.ref l) (Q₁:=fun obj s₁=>obj = .ref s.heap.objs.size/\∃led,s₁={ s with heap:=s.heap.push { cls:=.type "set",data:=.set #[] 0 (SetTable.fresh 0 0 led) } }) fun led=>⟨rfl,led,rfl⟩) fun r s₁ e=>?_)))
 match r,e with
 | .ok (.ret obj),e=>
  obtain⟨rfl,led,rfl⟩:=e
  have h0:Kp s (s.heap.push { cls:=.type "set",data:=.set #[] 0 (SetTable.fresh 0 0 led) }):=fun b o e=>zF _ e
  have ht:∀h,Kp s h->h.IsTuple l its.toArray:=fun h K=>by
   obtain⟨o,ho,hr⟩:=hl
   exact⟨o,K _ _ ho,hr⟩
  have hlt:l<s.heap.objs.size:=by
   obtain⟨o,ho,_⟩:=hl
   exact zV ho
  have tyS:Shared.TypeIs { s with heap:=s.heap.push { cls:=.type "set",data:=.set #[] 0 (SetTable.fresh 0 0 led) } } (.ref s.heap.objs.size) "set" := ⟨_,zQ _ rfl,rfl⟩
  show wpAny _ _ _ _ _ _
  refine zA (wpAny_isInstance tyS PySem.F.called_set.sub ?_)
  refine zA (zAR ?_)
  unfold callSpecial?
  refine zA (wpAny_specialOf tyS PySem.F.called_set.init.lookup (zAR (zA (wpAny_of_eq (PySem.F.called_set.init.bind _) (zG (zA (zBg (codeAny_call_builtin PySem.F.called_set.init.plain PySem.F.entry_set_init (check_set_init_1 tyS ?_)))))))))
  unfold Builtin.«set.__init__»
  refine zA (wpAny_of_eq (m':=pure ()) rfl (zG ?_))
  dsimp only
  refine zA (zA (zA (wpAny_typeOf tyS (wpAny_of_eq (m':=pure (Value.type "set")) rfl (zG (wpAny_of_eq (m':=pure "set") rfl (zG ?_)))))))
  refine zA (wpAny_of_eq (m':=pure ()) rfl (zG (zA (zG ?_))))
  refine zA (zA (zA (wpAny_load (zQ _ rfl) ?_)))
  refine wpAny_of_eq (m':=pure (#[],0,SetTable.fresh 0 0 led)) (by cases led <;> rfl) (zG (wpAny_of_eq (m':=pure false) (by cases led <;> rfl) (zG ?_)))
  have tyT:∀h tk,Kp s h->Shared.TypeIs { s with heap:=h,toks:=tk } (.ref l) "tuple" := fun h tk K=>by
   obtain⟨o,ho,hr⟩:=ht h K
   exact⟨o,ho,hr.1⟩
  show wpAny _ _ (Builtin.Frozenset.updateFrom "set.__init__" s.heap.objs.size (.ref l) >>= _) _ _ _
  unfold Builtin.Frozenset.updateFrom
  refine zA (zA (zA (wpAny_isInstance (tyT _ _ h0) PySem.F.sub_tuple_set (wpAny_isInstance (tyT _ _ h0) (b:=false) rfl ?_))))
  refine zA (wpAny_typeOf (tyT _ _ h0) ?_)
  refine zA (wpAny_pyIter_tuple (ht _ h0) (zA (wpAny_runValue ?_)))
  have hsz:(s.heap.push { cls:=.type "set",data:=.set #[] 0 (SetTable.fresh 0 0 led) }).objs.size=s.heap.objs.size+1:=zAj ..
  refine codeAny_set_update_loopS (Walks.toS (Walks.tuple (A:=(A.under (Code.builtin "type.__call__" { pos:=[.type "set",.ref l] })).in1.in1) hA (s.heap.push { cls:=.type "set",data:=.set #[] 0 (SetTable.fresh 0 0 led) }).objs.size l (za (by rw[hsz];exact zAh hlt)) its.toArray)) s.heap.objs.size ?_ (fun i=>ns.getD i 0) ?_ (by simpa using hz) its.toArray.size 0 _ rfl (zh _) ?_ ?_ ?_
  . rw[hsz]
    intro z
    rcases ze.mp z with z | z
    . exact absurd z (za (Nat.lt_succ_self _))
    . exact absurd (zk.mp z) (Nat.ne_of_gt hlt)
  . intro i v hv
    rw[zAe] at hv
    exact hi.int_at i v hv
  . exact⟨⟨_,zQ _ rfl,rfl,rfl⟩,ht _ fun b o e=>zF _ (h0 b o e)⟩
  . have:=zLX (prog:=prog) (w:=w) (h:=s.heap) led
    obtain⟨o,es,ep,t,ho,hr⟩:=this
    exact⟨o,es,ep,t,zF _ ho,hr⟩
  . intro s' mv so
    refine zG (zG (zG (zG ?_)))
    obtain⟨h',g',d',t',o'⟩:=s'
    obtain rfl:g'=s.gens:=mv.gens
    obtain rfl:d'=s.drawn:=mv.drawn
    obtain rfl:o'=s.os:=mv.os
    refine q h' t' (fun b o e=>mv.heap b o ?_ (zF _ (h0 b o e))) (by simpa using so)
    have hb:b<s.heap.objs.size:=zV e
    intro z
    rw[hsz] at z
    rcases ze.mp z with z | z
    . exact absurd z (za hb)
    . exact absurd (zk.mp z) (za (zAh hb))
 | .ok .next,e=>exact e.elim
 | .ok .brk,e=>exact e.elim
 | .ok .cont,e=>exact e.elim
 | .error v,e=>exact e
end L2
namespace L2
open PySem PySem.Spec PyProof.Rows
theorem zDu {ns:List Int}(h:ns.Nodup):∀k,k<=ns.length->firstMet (fun i=>ns.getD i 0) k=ns.take k
 | 0,_=>rfl
 | k+1,hk=>by
  rw[firstMet_succ,zDu h k (by omega)]
  have hx:ns[k]? = some (ns.getD k 0):=by rw[zD,zC (by omega)];rfl
  unfold step_dedup
  rw[if_neg,zy,hx]
  . rfl
  . intro z
    obtain⟨y,hy,e⟩:=List.any_eq_true.mp z
    have e':y=ns.getD k 0:=by simpa using e
    obtain⟨j,hj,ej⟩:=zx hy
    rw[zr] at hj
    rw[List.getElem_take] at ej
    obtain⟨hk',ek⟩:=zK.mp hx
    have:=(zAM.mp h)
    have:=zAi.mp this j k (by omega) (by omega) (by omega)
    exact this (by rw[ej,ek,e'])
section
variable {X:Cx}
theorem zJJ (hc:X.calm=true):zCo X (.type "set") (fun xs H Q=>∃(p:Addr)(ns:List Int),xs=[.ref p]/\SqT X.K H p (ns.map V.int)/\ns.length<=1000 /\
 ∀d S,H d=none->Q (.ref d) (upd H d (.set S (firstMet (fun i=>ns.getD i 0) ns.length).length))):=by
 intro pins s σ H xs us Q I r h
 obtain⟨p,ns,rfl,hq,hl,q⟩:=h
 obtain⟨u,rfl,rx⟩:=zCn r
 cases rx
 obtain⟨its,rv,pl,hz⟩:=I.tuple hq
 have hi:=zBc rv
 have hil:=hi.length
 refine zGK (I.ok.hd hc) pl hi (by have:scanBound=4096:=rfl;omega) fun h tk K so=>?_
 rw[hil] at so
 exact⟨.ref s.heap.objs.size,_,I.laid (a:=s.heap.objs.size) (t':=tk) K (zI _) (show zBM X.prog X.w _ _ _ (.set _ _) from so),rfl,q _ _ I.fresh⟩
theorem zJL:zCo X (.builtin "len") (fun xs H Q=>∃(a:Addr)(S:Int->Bool)(n:Nat),xs=[.ref a]/\H a=some (.set S n)/\Q (.int n) H):=by
 intro pins s σ H xs us Q I r h
 obtain⟨a,S,n,rfl,ha,q⟩:=h
 obtain⟨u,rfl,rx⟩:=zCn r
 cases rx
 obtain⟨o,es,ep,t,ho,ex,hd,_,_,hb,hf,hn⟩:=(show zBM X.prog X.w H s.heap a (.set S n) from I.hok a _ ha)
 refine call_len_set ho ex hd hf (by have:scanBound=4096:=rfl;omega) ⟨.int n,H,I.tok _,⟨_,by rw[hn]⟩,q⟩
noncomputable def tBMT (r:V->List V->Hp->VK->Prop)(to:TE)(t:TA):TE:=fun σ H Q=>to σ H fun x H1=>(∃p ys,x = .ref p/\H1 p=some (.tup ys))/\t σ H1 fun xs H2=>r x xs H2 Q
variable {o e:Expr}{es:List Expr}{to:TE}{t:TA}{name:Str}{apos cpos:Pos}{id:String}{r:V->List V->Hp->VK->Prop}
theorem pe_bmT (slot:Slot "tuple" name id) (hty:typeOf (.builtin id)=pure (.type "method_descriptor")) (hm:MtR X id r)(ho:PE X o to)(ha:PA X (e::es) t)
 (hbase:attributeBase o name X.env (eval o X.env)=eval o X.env:=by rfl)
 (hfew:((backTo cpos (starEach (e::es) X.env)).all (fun x=>!x.1) && (backToKw cpos (keywordEach [] X.env)).all (fun x=>x.1.isSome)
  && decide ((e::es).length+([]:List Keyword).length+(if ([]:List Keyword).isEmpty then 0 else 1)<30))=true:=by rfl)
 (hline:(apos.endLine==cpos.line)=true:=by rfl)(hs:starEach (e::es) X.env=(false,eval e X.env)::starEach es X.env:=by rfl)(hplain:(backTo cpos (starEach es X.env)).any (·.1)=false:=by rfl) :
 PE X (.Call (.Attribute o name apos) (e::es) [] cpos) (tBMT r to t):=by
 intro pins s σ H Q I h
 refine wpAny_Call_method_late hbase hfew hline rfl (thn (ho pins s σ H _ I h) fun v s1 ⟨x,H1,I1,r1,⟨p,ys,ex,hp⟩,q1⟩=>?_)
 subst ex
 cases (show v=Value.ref p from r1)
 obtain⟨⟨_,o2,ho2,hd2⟩,its,rv,ob,hob,hcl,_⟩:=(show zBM X.prog X.w H1 s1.heap p (.tup ys) from I1.hok p _ hp)
 refine⟨"tuple",id,PySem.F.plainAttrs_tuple,slot,hty,⟨ob,hob,hcl⟩,fun a ea=>?_,?_⟩
 . cases ea
   exact⟨o2,ho2,hd2⟩
 have hA:=ha cpos pins s1 σ H1 _ I1 q1
 rw[hs] at hA ⊢
 refine Calls.callWith_builtin (by show (false || (backTo cpos (starEach es X.env)).any (·.1))=false;rw[hplain] <;> rfl) (Calls.evalArgs_plain ?_)
 exact thn hA fun us s2 ⟨vs,H2,I2,r2,q2⟩=>hm pins s2 σ H2 (.ref p) vs (.ref p) us Q I2 rfl r2 q2
end
section
variable {prog:Program}{w:World}{A:Around}{E:Value->Shared->Prop}
theorem zIp {its:Array Value}{ns:List Int}{v:Int}{tv:Tok}{i:Nat}{R:Option PySem.Fin×Unit->Shared->Prop}(hi:IntsAre its.toList ns)(hv:ns[i]? = some v)(hno:∀j,j<i->ns[j]?≠some v)
 (f:Nat->Option PySem.Fin×Unit->Sem (ForInStep (Option PySem.Fin×Unit)))
 (hf:∀(j:Nat)(x:Option PySem.Fin×Unit),f j x=(match its[j]? with
  | some y=>do
   let b <-eqBool y (.int v tv)
   if b=true then do
    let r <-retInt j
    pure (.done (some r,()))
   else pure (.yield (none,()))
  | _=>pure (.yield (none,()))))
 (s:Shared)(hR:∀tk,R (some (.done (.ret (.int i s.toks))),()) { s with toks:=tk }) :
 ∀(r j:Nat)(b:Option PySem.Fin×Unit),i-j=r->j<=i->wpAny (model prog w) A (forIn (List.range' j (its.size-j) 1) b f) R E s:=by
 have hsz:its.size=ns.length:=by have:=hi.length;simpa using this
 have hil:i<ns.length:=(zK.mp hv).1
 have look:∀j,j<ns.length->∃t,its[j]? = some (.int (ns.getD j 0) t):=fun j hj=>by
  have hj':j<its.size:=by omega
  obtain⟨t,ht⟩:=hi.int_at j (its[j]'hj') (by rw[Array.getElem?_toList,Array.getElem?_eq_getElem hj'])
  exact⟨t,by rw[Array.getElem?_eq_getElem hj',ht]⟩
 intro r
 induction r with
 | zero=>
  intro j b hr hj
  obtain rfl:j=i:=by omega
  rw[show its.size-j=(its.size-j-1)+1 by omega,List.range'_succ,List.forIn_cons,hf]
  obtain⟨t,ht⟩:=look j hil
  rw[ht]
  refine zA (zA (wpAny_eqBool_int ?_))
  have e:ns.getD j 0=v:=by rw[zD,hv];rfl
  rw[e,show (v==v)=true by simp]
  refine zA (zA (wpAny_mkInt (zG (zG (zG ?_)))))
  exact hR _
 | succ r ih=>
  intro j b hr hj
  rw[show its.size-j=(its.size-(j+1))+1 by omega,List.range'_succ,List.forIn_cons,hf]
  obtain⟨t,ht⟩:=look j (by omega)
  rw[ht]
  refine zA (zA (wpAny_eqBool_int ?_))
  have hj':ns[j]? = some (ns.getD j 0):=by rw[zD,zC (by omega)];rfl
  have e:¬ ns.getD j 0=v:=fun z=>hno j (by omega) (by rw[hj',z])
  rw[show (ns.getD j 0==v)=false by simpa using e]
  refine zG ?_
  exact ih (j+1) _ (by omega) (by omega)
end
section
variable {X:Cx}
theorem zKK:MtR X "tuple.index" (fun x xs H Q=>∃(p:Addr)(ns:List Int)(i:Nat)(v:Int),x = .ref p/\xs=[.int v]/\SqT X.K H p (ns.map V.int)/\ns[i]? = some v/\(∀j,j<i->ns[j]?≠some v)/\Q (.int i) H):=by
 intro pins s σ H x xs v us Q I rx r h
 obtain⟨p,ns,i,k,rfl,rfl,hq,hi,hno,q⟩:=h
 cases (show v=Value.ref p from rx)
 obtain⟨u,rfl,t,rfl⟩:=zCn r
 obtain⟨its,rv,⟨ob,hob,hcl,n,hdat⟩,hz⟩:=I.tuple hq
 have hI:=zBc rv
 refine zBg (codeAny_call_builtin PySem.F.slot_tuple_index.plain PySem.F.entry_tuple_index (PySem.F.slot_tuple_index.check _ _ _ _ _ _ _ _ ⟨ob,hob,hcl⟩ (PySem.F.args_tuple_index_2 _ _) ?_))
 unfold Builtin.«tuple.index»
 refine zA (wpAny_of_eq (m':=pure (Value.ref p,[Value.int k t])) rfl (zG ?_))
 refine zA (zA (zBZ hob hdat (zG ?_)))
 refine zA (zG (zA (zG (zA ?_))))
 rw[Std.Legacy.Range.forIn_eq_forIn_range']
 have hsz:(Std.Legacy.Range.mk 0 (min its.toArray.size its.toArray.size) 1 (by decide)).size=its.toArray.size-0:=by
  show (min its.toArray.size its.toArray.size-0+1-1)/1=_
  rw[Nat.min_self];omega
 rw[hsz]
 refine zIp (its:=its.toArray) (ns:=ns) (v:=k) (tv:=t) (i:=i) hI hi hno _ (fun j x=>by rfl) s (fun tk=>?_) i 0 _ (by omega) (zh _)
 exact zG ⟨.int i,H,I.tok _,⟨_,rfl⟩,q⟩
end
section
variable {X:Cx}{pl:List (Addr×Obj)}{N':List Str}{sc:Scope}{fp:List Addr}{s3:Shared}{H3:Hp}
theorem zIX:MtR (zBl X pl N' sc fp s3 H3) "tuple.index" (fun x xs H Q=>∃(p:Addr)(ns:List Int)(i:Nat)(v:Int),x = .ref p/\xs=[.int v]/\SqT X.K H p (ns.map V.int)/\ns[i]? = some v/\(∀j,j<i->ns[j]?≠some v)/\Q (.int i) H):=zKK
end
end L2
namespace L2
open PySem PySem.Spec PyProof.Rows
section
variable {X:Cx}
end
end L2
namespace L2
open PySem PySem.Spec PyProof.Rows
section
variable {prog:Program}{w:World}{A:Around}{s:Shared}{l:Addr}{its:List Value}{ns:List Int}{v:Int}{tv:Tok}
end
section
variable {X:Cx}
end
end L2
namespace WM
open L2
structure En where
 h:Int
 l:Int
 u:Option Int
 d:Option Int
noncomputable def Hub (es:List En):Prop:=es.Pairwise fun a b=>a.h<b.h
end WM
namespace L2
open PySem PyProof.Rows
end L2
namespace WM
end WM
namespace L2
open PySem PySem.Spec PyProof.Rows
section
variable {X:Cx}
end
end L2
namespace WM
theorem zGQ:∀(i x j:Nat),x.testBit i=false->(2 ^ i+x).testBit j=(decide (j=i) || x.testBit j)
 | 0,x,0,h=>by
  have hx:x%2=0:=by
   rw[Nat.testBit_zero] at h
   have:=of_decide_eq_false h
   omega
  rw[Nat.testBit_zero]
  have:(2 ^ 0+x)%2=1:=by rw[Nat.pow_zero];omega
  rw[this];rfl
 | 0,x,j+1,h=>by
  have hx:x%2=0:=by
   rw[Nat.testBit_zero] at h
   have:=of_decide_eq_false h
   omega
  rw[Nat.testBit_succ,Nat.testBit_succ]
  have:(2 ^ 0+x)/2=x/2:=by rw[Nat.pow_zero];omega
  rw[this,zZ (by omega),Bool.false_or]
 | i+1,x,0,h=>by
  rw[Nat.testBit_zero,Nat.testBit_zero]
  have:(2 ^ (i+1)+x)%2=x%2:=by rw[Nat.pow_succ];omega
  rw[this,zZ (p:=0=i+1) (by omega),Bool.false_or]
 | i+1,x,j+1,h=>by
  rw[Nat.testBit_succ,Nat.testBit_succ]
  rw[Nat.testBit_succ] at h
  have:(2 ^ (i+1)+x)/2=2 ^ i+x/2:=by rw[Nat.pow_succ];omega
  rw[this,zGQ i (x/2) j h]
  congr 1
  exact decide_eq_decide.mpr (by omega)
noncomputable def snN (l:List Nat):Nat:=(l.map (2 ^ ·)).sum
theorem zCd:∀{l:List Nat},l.Nodup->∀j,(snN l).testBit j=decide (j∈l)
 | [],_,j=>by simp[snN]
 | a::l,h,j=>by
  obtain⟨h1,h2⟩:=zAN.mp h
  have ih:=zCd h2
  have e:snN (a::l)=2 ^ a+snN l:=by simp[snN]
  rw[e,zGQ a (snN l) j (by rw[ih a];exact zZ h1),ih j]
  by_cases c:j=a
  . subst c;simp
  . simp[c]
theorem zJs {l:List Nat}:snN l=0↔l=[]:=by
 cases l with
 | nil=>simp[snN]
 | cons a l=>
  have:0<2 ^ a:=Nat.pow_pos (by decide)
  have e:snN (a::l)=2 ^ a+snN l:=by simp[snN]
  rw[e]
  simp
theorem zLS {l k:List Nat}(h1:l.Nodup)(h2:k.Nodup):snN l &&& snN k=0↔∀x∈l,x∉k:=by
 constructor
 . intro e x hx hk
   have:=congrArg (Nat.testBit · x) e
   simp only[Nat.testBit_and,zCd h1,zCd h2,Nat.zero_testBit,zU hx,zU hk] at this
   cases this
 . intro h
   apply Nat.eq_of_testBit_eq
   intro j
   rw[Nat.testBit_and,zCd h1,zCd h2,Nat.zero_testBit]
   by_cases c:j∈l
   . rw[zZ (h j c),Bool.and_false]
   . rw[zZ c,Bool.false_and]
noncomputable def sn (ps:List Int):Int:=(ps.map fun p=>(1:Int)*2 ^ p.toNat).sum
theorem zEE:∀(ps:List Int),sn ps=((snN (ps.map Int.toNat):Nat):Int)
 | []=>rfl
 | p::ps=>by
  have ih:=zEE ps
  have e1:sn (p::ps)=1*2 ^ p.toNat+sn ps:=by simp[sn]
  have e2:snN ((p::ps).map Int.toNat)=2 ^ p.toNat+snN (ps.map Int.toNat):=by simp[snN]
  rw[e1,e2,ih,Int.one_mul,Int.natCast_add]
  congr 1
theorem zEc:∀{ps:List Int},ps.Nodup->(∀p∈ps,0<=p)->(ps.map Int.toNat).Nodup
 | [],_,_=>List.nodup_nil
 | p::ps,h,h0=>by
  obtain⟨h1,h2⟩:=zAN.mp h
  rw[zz,zAN]
  refine⟨fun z=>?_,zEc h2 fun q hq=>h0 q (zb _ hq)⟩
  obtain⟨q,hq,e⟩:=zp.mp z
  have:=h0 p zd
  have:=h0 q (zb _ hq)
  have:q=p:=by omega
  exact h1 (this ▸ hq)
theorem zLR {ps:List Int}:sn ps=0↔ps=[]:=by
 rw[zEE]
 constructor
 . intro h
   have:snN (ps.map Int.toNat)=0:=by omega
   simpa using zJs.mp this
 . rintro rfl;rfl
theorem sn_and {ps qs:List Int}(h1:ps.Nodup)(h2:qs.Nodup)(p0:∀p∈ps,0<=p)(q0:∀q∈qs,0<=q):((snN (ps.map Int.toNat) &&& snN (qs.map Int.toNat):Nat):Int)=0↔∀p∈ps,p∉qs:=by
 have key:=zLS (zEc h1 p0) (zEc h2 q0)
 constructor
 . intro h p hp hq
   exact key.mp (by omega) p.toNat (zp.mpr ⟨p,hp,rfl⟩) (zp.mpr ⟨p,hq,rfl⟩)
 . intro h
   have:snN (ps.map Int.toNat) &&& snN (qs.map Int.toNat)=0:=key.mpr fun x hx hy=>by
    obtain⟨p,hp,rfl⟩:=zp.mp hx
    obtain⟨q,hq,e⟩:=zp.mp hy
    have:=p0 p hp
    have:=q0 q hq
    have:q=p:=by omega
    exact h p hp (this ▸ hq)
   rw[this];rfl
theorem zI0 {α:Type}(f:α->Bool):∀l:List α,(l.filter f).length=(l.map fun a=>if f a=true then 1 else 0).sum
 | []=>rfl
 | a::l=>by
  rw[zBB,zz,zBr,<-zI0 f l]
  by_cases h:f a=true
  . rw[if_pos h,if_pos h,zt];omega
  . rw[if_neg h,if_neg h];omega
theorem zHu {α:Type}(f g:α->Nat):∀l:List α,(l.map fun a=>f a+g a).sum=(l.map f).sum+(l.map g).sum
 | []=>rfl
 | a::l=>by simp only[zz,zBr,zHu f g l];omega
theorem zGS {α:Type}:∀l:List α,(l.map fun _=>0).sum=0
 | []=>rfl
 | a::l=>by rw[zz,zBr,zGS l]
theorem dbl {α β:Type}(f:α->β->Bool)(k:List β):∀l:List α,(l.map fun a=>(k.filter (f a)).length).sum=(k.map fun b=>(l.filter fun a=>f a b).length).sum
 | []=>by simp[zGS]
 | a::l=>by
  rw[zz,zBr,dbl f k l,zI0,<-zHu]
  congr 1
  apply zBS
  intro b _
  rw[zBB]
  by_cases h:f a b=true
  . rw[if_pos h,if_pos h,zt];omega
  . rw[if_neg h,if_neg h];omega
end WM
namespace SortT
open PySem PySem.W PySem.Calls PyProof.Rows
section
variable {prog:Program}{w:World}{A:Around}{E:Value->Shared->Prop}{s:Shared}
end
end SortT
namespace L2
open PySem PySem.Spec PyProof.Rows
section
variable {X:Cx}
end
section
variable {X:Cx}{pl:List (Addr×Obj)}{N':List Str}{sc:Scope}{fp:List Addr}{s3:Shared}{H3:Hp}
end
end L2
namespace L2
open PySem PySem.Spec PyProof.Rows
section
variable {X:Cx}
noncomputable def rCatA (K:PySem.W.Frag):R2:=fun x y H Q=>∃a b xs ys,x = .ref a/\y = .ref b/\SqT K H a xs/\SqT K H b ys/\xs.length+ys.length<=sizeLine /\
 (xs=[]->Q (.ref b) H)/\(xs≠[]->ys=[]->Q (.ref a) H)/\(xs≠[]->ys≠[]->∀p,H p=none->Q (.ref p) (upd H p (.tup (xs++ys))))
theorem zMY {prog:Program}{w:World}{A:Around}{E:Value->Shared->Prop}{s:Shared}{t b:Addr}{ws:List Value}{Q:Value->Shared->Prop}(ht:IsTup s.heap t #[])(hb:IsTup s.heap b ws.toArray)
 (h:Q (.ref b) s):wpAny (model prog w) A (binaryOp .Add (.ref t) (.ref b)) Q E s:=by
 obtain⟨⟨cls,dd,data,sl⟩,ho,hc,n,hd⟩:=id ht
 obtain⟨⟨cls2,dd2,data2,sl2⟩,ho2,hc2,n2,hd2⟩:=id hb
 simp only at hc hd hc2 hd2
 subst hc hd hc2 hd2
 exact concat_meets ⟨_,ho,rfl⟩ ⟨_,ho2,rfl⟩ noFill_tuple_add seq_tuple_add PySem.F.slot_tuple_add PySem.F.entry_tuple_add (PySem.F.args_tuple_add_2 _ _)
  (tuple_addW0 t b #[] ws.toArray n n2 dd dd2 sl sl2 rfl) ⟨ho,ho2,h⟩
theorem zLt:OpR X (binaryOp .Add) (rCatA X.K):=by
 intro pins s σ H x y v u Q I rx ry h
 obtain⟨a,b,xs,ys,rfl,rfl,ha,hb,hz,q0,q1,q2⟩:=h
 by_cases hx:xs=[]
 . subst hx
   cases rx
   cases ry
   obtain⟨its,r1,p1,_⟩:=I.tuple ha
   obtain⟨its2,r2,p2,_⟩:=I.tuple hb
   cases r1
   exact zMY p1 p2 ⟨.ref b,H,I,rfl,q0 rfl⟩
 . exact zLs pins s σ H _ _ v u Q I rx ry ⟨a,b,xs,ys,rfl,rfl,ha,hb,hx,hz,q1 hx,q2 hx⟩
end
end L2
namespace L2
open PySem PySem.Spec PyProof.Rows
section
variable {X:Cx}
end
end L2
namespace HT
open PySem PySem.Spec PyProof.Rows
section
open PySem.SeqAt
open PySem.AutoSeq1 (wpAny_loadPart')
open PySem.MeetsSeq PySem.MeetsSeq2 PySem.MeetsSeq3
end
end HT
namespace L2
open PySem PySem.Spec PyProof.Rows
section
variable {X:Cx}
end
end L2
namespace HT
open PySem PySem.Spec PyProof.Rows
section
variable {prog:Program}{w:World}{A:Around}{E:Value->Shared->Prop}{s:Shared}
theorem getItem_tuple_all {t sl:Addr}{items:Array Value}{vl vu:Value}{lo hi:Option Int}{Q:Value->Shared->Prop}(ht:IsTup s.heap t items)(hs:s.heap.IsSliceOf sl vl vu .none)(pl:IsPart vl lo)(pu:IsPart vu hi)
 (hw:sIx items.size 0 lo=0/\sIx items.size items.size hi=items.size)(h:Q (.ref t) s):wpAny (model prog w) A (getItem (.ref t) (.ref sl)) Q E s:=by
 obtain⟨os,hos,hcs,hds⟩:=id hs
 have hTs:s.TypeIs (.ref sl) "slice" := ⟨os,hos,hcs⟩
 unfold getItem
 try with_reducible refine zAR ?_
 first | refine zA (zG ?_) | skip
 refine zA (wpAny_sequenceKey ht.typeIs (by decide) ?_)
 refine zA (zA1 (name:=Str.ofString "__getitem__") ht.typeIs PyProof.Rows.slot_tuple_getitem
  (zA7 PyProof.Rows.slot_tuple_getitem ht.typeIs entry_tuple_getitem ?_ (args_tuple_getitem _ _)))
 show wpAny _ _ (Builtin.Tuple.tupleItemsOf (.ref t) >>= _) _ _ s
 refine zA (tupleItemsOf_ ht ?_)
 refine zA (wpAny_typeOf hTs ?_)
 rw[if_pos (by decide)]
 refine zA (zCZ hs pl pu ?_)
 have hyes:(((sIx items.size 0 lo:Nat):Int)==0 && (1:Int)==1 && (sIx items.size items.size hi-sIx items.size 0 lo)==items.size)=true:=by
  rw[hw.1,hw.2];simp
 show wpAny _ _ (if (((sIx items.size 0 lo:Nat):Int)==0 && (1:Int)==1 && (sIx items.size items.size hi-sIx items.size 0 lo)==items.size)=true then _ else _) _ _ s
 rw[if_pos hyes]
 unfold Builtin.Tuple.tupleIsExact
 refine zA (zA (wpAny_typeOf ht.typeIs (zG ?_)))
 rw[if_pos (by decide)]
 first
  | exact zA (wpAny_rule (zG ⟨_,rfl,zG h⟩))
  | exact zA (wpAny_rule (zG (zG ⟨_,rfl,zG h⟩)))
  | exact zA (wpAny_rule (zA (zG (zG ⟨_,rfl,zG h⟩))))
  | exact wpAny_rule (zG ⟨_,rfl,zG h⟩)
end
end HT
namespace L2
open PySem PySem.Spec PyProof.Rows
section
variable {X:Cx}{e:Expr}{te:TE}{pos p2 p3 p4:Pos}
noncomputable def rSlA (K:PySem.W.Frag):V->Option Int->Option Int->Hp->VK->Prop:=fun x lo hi H Q=>∃a xs,x = .ref a/\SqT K H a xs /\
 ((HT.sIx xs.length 0 lo=0/\HT.sIx xs.length xs.length hi=xs.length)->Q (.ref a) H)/\(¬ (HT.sIx xs.length 0 lo=0/\HT.sIx xs.length xs.length hi=xs.length)->∀p,H p=none->Q (.ref p) (upd H p (.tup (zFv xs lo hi))))
theorem zLU:SlR X (rSlA X.K):=by
 intro pins s σ H x v vl vu lo hi sl Q I rx hs pl pu h
 obtain⟨a,xs,rfl,hx,q1,q2⟩:=h
 by_cases c:HT.sIx xs.length 0 lo=0/\HT.sIx xs.length xs.length hi=xs.length
 . cases rx
   obtain⟨its,r,ht,hz⟩:=I.tuple hx
   have hlen:its.toArray.size=xs.length:=by rw[zc];exact r.length.symm
   refine⟨"tuple",_,PyProof.Rows.slot_tuple_getitem.lookup,ht.typeIs,?_⟩
   exact HT.getItem_tuple_all ht hs pl pu (by rw[hlen];exact c) ⟨.ref a,H,I,rfl,q1 c⟩
 . exact sl_tup pins s σ H _ v vl vu lo hi sl Q I rx hs pl pu ⟨a,xs,rfl,hx,c,q2 c⟩
end
end L2
namespace L2
open PySem PySem.Spec PyProof.Rows
section
variable {X:Cx}{pins:List (Addr×Obj)}{σ:St}{H:Hp}{s:Shared}{h':Heap}
theorem Inv.turnedLaid {t':Nat}{fp:List Addr}{a:Addr}{o:HO}(I:Inv X pins σ H s)(hf:∀b∈fp,zDE X pins H b)(k:∀b u,b∉fp->s.heap.get? b=some u->h'.get? b=some u)(hp:s.heap.objs.size<=a)
 (new:zBM X.prog X.w (upd H a o) h' a o):Inv X pins σ (upd H a o) { s with heap:=h',toks:=t' }:=by
 have fr:H a=none:=I.hok.fresh hp
 have nfp:∀b u,H b=some u->b∉fp:=fun b u e z=>by rw[(hf b z).1] at e;cases e
 have na:∀b u,H b=some u->b≠a:=fun b u e z=>by rw[z,fr] at e;cases e
 refine I.step (g':=s.gens) (d':=s.drawn) (ch:=fp) (fun b hb=>?_) (fun b u _ _ hc e _=>k b u hc e) (fun b u _ _ hc e _=>⟨u.slots,k b u hc e⟩) (fun b u hc e n=>?_) (fun b u hc e=>⟨u,k b u hc e⟩)
  (fun b xs e=>by rw[zX (na b _ e)];exact e) (fun b u w e=>by rw[zX (na b _ e)];exact e) (fun b ps e=>⟨#[],by rw[zX (na b _ e),e];simp⟩) (fun m hm=>?_) (fun b u e=>?_) I.bare
 . obtain⟨f0,f1,f2,f3,f4,f5⟩:=hf b hb
   exact⟨f3,f1,f4,f5⟩
 . rw[zX (za (zl (zV e) hp))]
   exact n
 . obtain⟨u,es,ep,ho,r⟩:=hm
   exact⟨u,es,ep,k _ u (fun z=>(hf _ z).2.1 rfl) ho,r⟩
 . by_cases z:b=a
   . subst z
     rw[zH] at e
     cases e
     exact new
   . rw[zX z] at e
     refine (I.hok b u e).stay (fun c v hc q=>k c v ?_ q) (fun c q=>by rw[zX (na c _ q)];exact q) fun c xs q=>by rw[zX (na c _ q)];exact q
     rcases hc with z | z
     . rw[z];exact nfp b u e
     . exact nfp c _ z
end
section
variable {X:Cx}
end
end L2
namespace L2
open PySem PySem.Spec PyProof.Rows
open PySem.AutoSeq1 (wpAny_loadPart')
section
variable {prog:Program}{w:World}{A:Around}{E:Value->Shared->Prop}{s:Shared}
theorem zHQ {it t:Addr}{i:Nat}{items:Array Value}{x:Value}{Q:Value->Shared->Prop}(hi:s.heap.IsTupleIter it t i)(ht:s.heap.IsTuple t items)(hx:items[i]? = some x)
 (hQ:∀h',h'.IsTupleIter it t (i+1)->Heap.SameBut it s.heap h'->Q x { s with heap:=h' }):wpAny (model prog w) A (Builtin.SmallTypes.nextOf (.ref it)) Q E s:=by
 obtain⟨oi,hoi,ci,di⟩:=id hi
 obtain⟨ot,hot,_,nt,dt⟩:=ht
 unfold Builtin.SmallTypes.nextOf
 refine zA (zA1 (name:=Str.ofString "__next__") hi.typeIs PySem.F.slot_tuple_iterator_next (zA7 PySem.F.slot_tuple_iterator_next hi.typeIs PySem.F.entry_tuple_iterator_next ?_ (PySem.F.args_tuple_iterator_next_1 _)))
 show wpAny (model prog w) _ (field (.ref it) 0 >>= _) _ _ s;refine zA (wpAny_field hoi di (x:=.ref t) rfl ?_)
 show wpAny (model prog w) _ (if (Value.ref t==Value.none)=true then _ else _) _ _ s;rw[if_neg (show ¬ ((Value.ref t==Value.none)=true) from zm)]
 show wpAny (model prog w) _ (field (.ref it) 1 >>= _) _ _ s;refine zA (wpAny_field hoi di (x:=.int i 0) rfl ?_)
 show wpAny (model prog w) _ (seqItems? (.ref t) >>= _) _ _ s;refine zA (zBZ hot dt ?_)
 simp only[hx,zAF]
 refine zA (wpAny_setField hoi di (by simp) (zG ⟨x,rfl,zG (hQ _ ?_ (Heap.SameBut.update ..))⟩))
 refine⟨_,zAW _ hoi (Obj.isFreed_of_fields (Obj.data_mapFields di _)),(Obj.cls_mapFields ..).trans ci,?_⟩
 rw[Obj.data_mapFields di];simp[rawInt]
theorem zFa {it t:Addr}{i:Nat}{items:Array Value}{Q:Value->Shared->Prop}(hA:A.handled=none)(hi:s.heap.IsTupleIter it t i)(ht:s.heap.IsTuple t items)(hx:items[i]? = none)
 (hE:∀h' e,Heap.ExtBut it s.heap h'->(∃o,h'.get? e=some o/\o.cls = .type "StopIteration")->E (.ref e) { s with heap:=h' }):wpAny (model prog w) A (Builtin.SmallTypes.nextOf (.ref it)) Q E s:=by
 obtain⟨oi,hoi,ci,di⟩:=id hi
 obtain⟨ot,hot,_,nt,dt⟩:=ht
 unfold Builtin.SmallTypes.nextOf
 refine zA (zA1 (name:=Str.ofString "__next__") hi.typeIs PySem.F.slot_tuple_iterator_next (zA7 PySem.F.slot_tuple_iterator_next hi.typeIs PySem.F.entry_tuple_iterator_next ?_ (PySem.F.args_tuple_iterator_next_1 _)))
 show wpAny (model prog w) _ (field (.ref it) 0 >>= _) _ _ s;refine zA (wpAny_field hoi di (x:=.ref t) rfl ?_)
 show wpAny (model prog w) _ (if (Value.ref t==Value.none)=true then _ else _) _ _ s;rw[if_neg (show ¬ ((Value.ref t==Value.none)=true) from zm)]
 show wpAny (model prog w) _ (field (.ref it) 1 >>= _) _ _ s;refine zA (wpAny_field hoi di (x:=.int i 0) rfl ?_)
 show wpAny (model prog w) _ (seqItems? (.ref t) >>= _) _ _ s;refine zA (zBZ hot dt ?_)
 simp only[hx,zAF]
 refine zA (wpAny_rule (zA (wpAny_setField hoi di (by simp) ?_)))
 show wpAny (model prog w) _ (newExc (.type "StopIteration") [] >>= _) _ _ _;refine zA ?_
 simp only[newTuple,newExc]
 refine zA (zAs ?_ (by size_fits));refine zA (m:=firstArgMember _ _) (PySem.wpAny_of_eq (a:=Value.none) (by first | rfl | (simp only[firstArgMember];rfl)) ?_)
 refine zAs ?_ (by size_fits);simp only[raiseNew];refine zA (wpAny_handled ?_)
 first
  | rw[show A.in1.handled=none from hA]
  | rw[hA]
 exact zA (zG (wpAny_throw (hE _ _ (((Heap.SameBut.update ..).extBut.push _).push _) ⟨_,zQ _ rfl,rfl⟩)))
end
theorem zI4 {prog:Program}{w:World}{A:Around}(hA:A.handled=none)(it t:Addr)(hne:t≠it)(items:Array Value) :
 Draws prog w A it [it,t] items.size (fun i v=>items[i]? = some v) (fun i h=>h.IsTupleIter it t i/\h.IsTuple t items) where
 live:=fun _ _ st=>by
  obtain⟨⟨o,ho,_⟩,_⟩:=st
  exact⟨o,ho⟩
 frame:=fun _ h h' st hk=>by
  obtain⟨⟨o,ho,r⟩,o2,ho2,r2⟩:=st
  exact⟨⟨o,hk it (by simp) o ho,r⟩,o2,hk t (by simp) o2 ho2,r2⟩
 item:=fun i s Q E hi st hQ=>zHQ st.1 st.2 (x:=items[i]) (by simp[hi]) fun h' a b=>hQ _ h' s.toks (by simp[hi]) ⟨a,st.2.extBut b.extBut hne⟩ b
 done:=fun s Q E st hE=>zFa hA st.1 st.2 (by simp) hE
theorem zF9 (t:Addr)(items:Array Value)(n:Nat)(dct:Option Addr)(sl:Array (Option Value)) :
 Meets (Builtin.«enumerate.__new__» ⟨[.type "enumerate",.ref t],[]⟩) (fun _ R s=>s.heap.get? t=some { cls:=.type "tuple",dict:=dct,data:=.seq items n,slots:=sl } /\
  R (.ok (.ret (.ref (s.heap.push { cls:=.type "tuple_iterator",data:=.fields #[.ref t,.int 0 0] }).objs.size))) { s with heap:=(s.heap.push { cls:=.type "tuple_iterator",data:=.fields #[.ref t,.int 0 0] }).push { cls:=.type "enumerate",data:=.fields #[.none,.bool false,.ref s.heap.objs.size,rawInt 0,.none,.none] } }):=by
 refine .of_wp fun prog w A R s hs=>?_
 obtain⟨hp,g,d,tk,os⟩:=s
 obtain⟨ho,hR⟩:=hs
 have su:=sub_enumerate
 have tT:Heap.IsTuple (Shared.heap ⟨hp,g,d,tk,os⟩) t items:=⟨_,ho,rfl,n,rfl⟩
 wp_walk using wpAny_loadPart' ho
 refine wpAny_stack_any fun stk=>zG ?_
 split
 . rename_i c _ _ _ _ _
   cases (c==Value.type "enumerate") <;> (wp_walk using wpAny_loadPart' ho,wpAny_pyIter_tuple tT;exact⟨_,rfl,hR⟩)
 . wp_walk using wpAny_loadPart' ho,wpAny_pyIter_tuple tT
   exact⟨_,rfl,hR⟩
theorem zHf {prog:Program}{w:World}{A:Around}{E:Value->Shared->Prop}{s:Shared}{t:Addr}{items:Array Value}{Q:Value->Shared->Prop}(hT:s.heap.IsTuple t items)
 (h:∀h',IsEnum h' (s.heap.objs.size+1) s.heap.objs.size 0 .none->h'.IsTupleIter s.heap.objs.size t 0->(∀b o,s.heap.get? b=some o->h'.get? b=some o)->Q (.ref (s.heap.objs.size+1)) { s with heap:=h' }) :
 wpAny (model prog w) A (call (.type "enumerate") [.ref t]) Q E s:=by
 obtain⟨⟨c,dct,dt,sl⟩,ho,hc,n,hd⟩:=hT
 obtain rfl:c = .type "tuple" := hc
 obtain rfl:dt = .seq items n:=hd
 refine callType_new PySem.F.called_enumerate (by decide) (PySem.F.typeCall_enumerate_1 _) (PySem.F.newCall_enumerate_1 _) (fun obj=>PySem.F.args_object_init_2 obj _) PySem.F.entry_enumerate_new (zF9 t items n dct sl) ⟨ho,?_⟩
 have hz:(s.heap.push { cls:=.type "tuple_iterator",data:=.fields #[.ref t,.int 0 0] }).objs.size=s.heap.objs.size+1:=zAj ..
 show _/\_
 rw[hz]
 have he:IsEnum ((s.heap.push { cls:=.type "tuple_iterator",data:=.fields #[.ref t,.int 0 0] }).push { cls:=.type "enumerate",data:=.fields #[.none,.bool false,.ref s.heap.objs.size,rawInt 0,.none,.none] }) (s.heap.objs.size+1) s.heap.objs.size 0 .none:=by
  have g:=zQ (s.heap.push { cls:=.type "tuple_iterator",data:=.fields #[.ref t,.int 0 0] }) (o:={ cls:=.type "enumerate",data:=.fields #[.none,.bool false,.ref s.heap.objs.size,rawInt 0,.none,.none] }) rfl
  rwa [hz] at g
 exact⟨⟨_,he,rfl⟩,h _ he ⟨_,zF _ (zQ _ rfl),rfl,rfl⟩ fun b o x=>zF _ (zF _ x)⟩
noncomputable def ItnT (K:PySem.W.Frag)(a:Addr):It:=
 ⟨fun i H=>∃xs x,SqT K H a xs/\xs[i]? = some x,fun i H x H'=>∃T v,x = .ref T/\H T=none/\H'=upd H T (.tup [.int i,v])/\∀xs,SqT K H a xs->xs[i]? = some v,fun i H=>∃xs,SqT K H a xs/\xs.length<=i⟩
theorem zHD {P:Program}{w:World}{K:PySem.W.Frag}{elts:List Expr} {x1} {tp:Pos}(a e it:Addr):Turn P w K (.Tuple elts x1 tp) (ItnT K a) [e,it] e (fun i h=>(∃old,IsEnum h e it (i:Nat) old)/\h.IsTupleIter it a i/\e≠it/\a≠it/\a≠e) where
 mem:=by simp
 obj:=fun i h st b hb=>by
  obtain⟨⟨old,he⟩,⟨o,e1,c,d⟩,_⟩:=st
  rcases ze.mp hb with rfl | hb
  . exact⟨_,he,fun v z=>by cases z⟩
  . have e2:b=it:=by simpa using hb
    subst e2
    exact⟨o,e1,fun v z=>by rw[d] at z;cases z⟩
 keep:=fun i h h' st k=>by
  obtain⟨⟨old,he⟩,⟨o,e1,r⟩,ne⟩:=st
  exact⟨⟨old,k e (by simp) _ he⟩,⟨o,k it (by simp) o e1,r⟩,ne⟩
 item:=by
  intro X hP hw hK hc i pins s σ H E I hf st hg
  subst hP hw hK
  obtain⟨⟨old,he⟩,hit,ne,nai,nae⟩:=st
  obtain⟨xs,x,hq,hx⟩:=hg
  obtain⟨its,rv,p,hz⟩:=I.tuple hq
  obtain⟨u,hu,ru⟩:=rv.get hx
  have elt:e<s.heap.objs.size:=zV he
  have ilt:it<s.heap.objs.size:=by obtain⟨_,q,_⟩:=id hit;exact zV q
  have hlt:i<its.toArray.size:=by
   have:=(zK.mp hu).1
   simpa using this
  refine wpAny_pyNext_enum_itemD (zI4 (A:=X.A.in1) (I.ok.hd hc) it a nai its.toArray) he ⟨hit,p⟩ hlt ne (by simp;exact⟨ne,fun z=>nae z.symm⟩) fun y h' tk hy heo hst' hT hsz hk=>?_
  have hyu:y=u:=by
   have h1:its[i]? = some y:=by simpa using hy
   rw[hu] at h1
   exact (zP h1).symm
  subst hyu
  refine⟨_,rfl,wpAny_letOwnedTupleGo_enum heo fun h2 he2 hs2=>?_⟩
  have hT2:h2.get? s.heap.objs.size=some { cls:=.type "tuple",data:=.seq #[.int i tk,y] }:=(hs2.2 _ (Nat.ne_of_gt elt)).trans hT
  refine⟨.ref s.heap.objs.size,upd H s.heap.objs.size (.tup [.int i,x]),I.turnedLaid (t':=tk+1) (fp:=[e,it]) hf (fun b o hb q=>?_) (zI _) ?_,rfl,⟨_,x,rfl,I.hok.fresh (zI _),rfl,fun zs hzs=>by rw[I.tuple_inj hzs hq];exact hx⟩,⟨⟨y,?_⟩,?_,ne,nai,nae⟩,fun b hb=>?_⟩
  . exact (hs2.2 b fun z=>hb (by simp[z])).trans (hk b o (fun z=>hb (by simp[z])) (fun z=>hb (by simp[z])) q)
  . exact⟨⟨by show 2<=sizeLine;decide,_,hT2,rfl⟩,[.int i tk,y],.cons ⟨_,rfl⟩ (.cons ru .nil),⟨_,hT2,rfl,_,rfl⟩⟩
  . have:=he2
    rwa [show ((i:Nat):Int)+1=((i+1:Nat):Int) by omega] at this
  . obtain⟨⟨o,ho,r⟩,_⟩:=hst'
    exact⟨o,(hs2.2 it (Ne.symm ne)).trans ho,r⟩
  . rcases ze.mp hb with rfl | hb
    . rw[zX (za elt)];exact (hf _ (by simp)).1
    . have e2:b=it:=by simpa using hb
      subst e2
      rw[zX (za ilt)];exact (hf _ (by simp)).1
 done:=by
  intro X hP hw hK hc i pins s σ H E I hf st hg
  subst hP hw hK
  obtain⟨⟨old,he⟩,hit,ne,nai,nae⟩:=st
  obtain⟨xs,hq,hx⟩:=hg
  obtain⟨its,rv,p,hz⟩:=I.tuple hq
  obtain⟨f0,f1,f2,f3,f4,f5⟩:=hf it (by simp)
  have hl:=rv.length
  unfold pyNext
  have hT:s.TypeIs (.ref e) "enumerate" := ⟨_,he,rfl⟩
  refine zA (wpAny_attempt (zA1 (name:=Str.ofString "__next__") hT PySem.F.slot_enumerate_next (zA7 PySem.F.slot_enumerate_next hT PySem.F.entry_enumerate_next ?_ (PySem.F.args_enumerate_next_1 _))))
  show wpAny (model X.prog X.w) _ (field (.ref e) 2 >>= _) _ _ s;refine zA (wpAny_field he rfl (x:=.ref it) rfl ?_)
  refine zA (zFa (A:=X.A.in1) (I.ok.hd hc) hit p (by simp;omega) fun h' z eb hz'=>?_)
  obtain⟨o,ho,hcl⟩:=hz'
  refine zA (wpAny_isInstance (T := "StopIteration") (b:=true) ⟨o,ho,hcl⟩ isSubtype_stop (zG ?_))
  exact⟨rfl,I.turned (t':=s.toks) (fun b o hb e=>eb b o hb e) f0 f1 f3 f4 f5⟩
 self:=fun _ _ _ _ _ st h=>by
  obtain⟨⟨old,he⟩,_⟩:=st
  exact wpAny_pyIter_enum he h
section
variable {X:Cx}
noncomputable def iEnumT (K:PySem.W.Frag)(ta:TA):TI:=fun σ H R=>ta σ H fun vs H1=>∃a,vs=[.ref a]/\(∃xs,SqT K H1 a xs)/\R (ItnT K a) H1
theorem zKB {elts:List Expr} {x1} {tp:Pos}{a:Expr}{ta:TA}{p pos:Pos}(hg:Gl X "enumerate") (hm:X.mg "enumerate" = none) (ha:PA X [a] ta)(hs:starEach [a] X.env=[(false,eval a X.env)]:=by rfl):PI X (.Tuple elts x1 tp) (.Call (.Name "enumerate" p) [a] [] pos) (iEnumT X.K ta):=by
 intro pins s σ H R I h
 refine Call_ (zCa I hg hm boot_enumerate (PyProof.Rows.callWith_type1 (thn (ha pos pins s σ H _ I h) fun us s1 ⟨vs,H1,I1,r1,q1⟩=>?_) hs rfl))
 obtain⟨l,e,⟨xs,hq⟩,q⟩:=q1
 subst e
 obtain⟨u,rfl,rx⟩:=zCn r1
 cases rx
 obtain⟨its,rv,pl,hz⟩:=I1.tuple hq
 have hll:l<s1.heap.objs.size:=by obtain⟨o,ho,_⟩:=id pl;exact zV ho
 refine zHf pl fun h' he hit hk=>?_
 refine wpAny_pyIter_enum he ?_
 refine⟨s1.heap.objs.size+1,[s1.heap.objs.size+1,s1.heap.objs.size],_,_,H1,rfl,I1.kept (t':=s1.toks) hk,zHD l _ _,⟨⟨_,he⟩,hit,Nat.succ_ne_self _,za hll,za (zAh hll)⟩,fun b hb=>?_,q⟩
 rcases ze.mp hb with rfl | hb
 . exact I1.fpOk (zA3 _) (I1.hok.fresh (zA3 _))
 . have e2:b=s1.heap.objs.size:=by simpa using hb
   subst e2
   exact I1.fpOk (zI _) (I1.hok.fresh (zI _))
end
end L2
namespace L2
open PySem PySem.Spec PyProof.Rows
theorem zIy {K:PySem.W.Frag}{a:Addr}{xs:List V}{g:TG}{tb:TS}{D:zHn}{σ:St}{H:Hp}(Pv:Nat->St->Hp->Prop)(h0:Pv 0 σ H)(hl:∀i σ H,i<=xs.length->Pv i σ H->SqT K H a xs)
 (hs:∀i x σ H T,xs[i]? = some x->Pv i σ H->H T=none->g (.ref T) σ (upd H T (.tup [.int i,x])) fun σ2 H2=>tb { D with nx:=Pv (i+1),ct:=Pv (i+1),bk:=D.nx } σ2 H2)(hd:∀ σ H,Pv xs.length σ H->D.nx σ H) :
 ∃W:Nat->Nat->St->Hp->Prop,(∃m,W 0 m σ H)/\∀i m σ H,W i m σ H ->
  ((ItnT K a).stop i H/\D.nx σ H)\/((ItnT K a).go i H/\∃N:St->Hp->Prop,(∀ σ' H',N σ' H'->∃m',m'<m/\W (i+1) m' σ' H')/\∀x H',(ItnT K a).yld i H x H'->g x σ H' fun σ2 H2=>tb { D with nx:=N,ct:=N,bk:=D.nx } σ2 H2):=by
 refine⟨fun i m σ H=>i<=xs.length/\m=xs.length-i/\Pv i σ H,⟨_,zh _,rfl,h0⟩,fun i m σ H h=>?_⟩
 obtain⟨hi,rfl,hp⟩:=h
 by_cases c:i<xs.length
 . refine .inr ⟨⟨xs,xs[i],hl i σ H hi hp,zC c⟩,Pv (i+1),fun σ' H' hp'=>⟨xs.length-(i+1),by omega,c,rfl,hp'⟩,fun x H' y=>?_⟩
   obtain⟨T,v,rfl,hT,rfl,hv⟩:=y
   exact hs i v σ H T (hv xs (hl i σ H hi hp)) hp hT
 . have e:i=xs.length:=by omega
   subst e
   exact .inl ⟨⟨xs,hl _ σ H hi hp,zI _⟩,hd σ H hp⟩
end L2
namespace L2
open PySem PySem.Spec PyProof.Rows
noncomputable def SmP (P:Addr)(H H':Hp):Prop:=∀b o,H b=some o->(b=P/\∃ps,o = .tbl ps)\/H' b=some o
theorem SmP.refl {P:Addr}(H:Hp):SmP P H H:=fun _ _ e=>.inr e
theorem SmP.of {P:Addr}{H H':Hp}(h:zAy H H'):SmP P H H':=fun b o e=>.inr (h b o e)
theorem SmP.trans {P:Addr}{H H1 H2:Hp}(a:SmP P H H1)(b:SmP P H1 H2):SmP P H H2:=fun c o e=>by
 rcases a c o e with z | z
 . exact .inl z
 . exact b c o z
theorem SmP.get {P:Addr}{H H':Hp}(k:SmP P H H'){b:Addr}{o:HO}(e:H b=some o)(h:∀ps,o ≠ .tbl ps):H' b=some o:=by
 rcases k b o e with ⟨_,ps,z⟩ | z
 . exact absurd z (h ps)
 . exact z
theorem SmP.chg {P:Addr}{H H':Hp}{l:Addr}{o:HO}(k:SmP P H H')(h:H l=none):SmP P H (upd H' l o):=fun b u e=>by
 rcases k b u e with z | z
 . exact .inl z
 . exact .inr (by rw[zX (zi e h)];exact z)
theorem SmP.smT {P:Addr}{H H':Hp}(h:SmP P H H'):SmT H H':=fun b o e=>(h b o e).imp (fun z=>z.2) id
theorem SmP.tab {P P2:Addr}{H H':Hp}{pos:Pos}{q:Str}(k:SmP P H H')(n:P2≠P)(T:zB7 H P2 pos q):zB7 H' P2 pos q:=
 T.keep (fun o e=>by
  rcases k _ _ e with ⟨z,_⟩ | z
  . exact absurd z n
  . exact z) fun c φ e=>k.get e (by intro ps z;cases z)
section
variable {X:Cx}{pins:List (Addr×Obj)}{σ:St}{H:Hp}{s:Shared}
theorem zML {P c:Addr}{params:Arguments}{body:Expr}{lscope:Scope}{lpos:Pos}{Q:Value->Shared->Prop}{E:Value->Shared->Prop}(I:Inv X pins σ H s)(T:zB7 H P lpos (X.env.qual ++ "<lambda>"))
 (hcode:X.env.code = .ref c)(C:PySem.W.CodeHd X.base c P)(hbm:zG7 X.mg X.base)(hfree:∀y∈lscope.names,y.2 = .free->X.env.kindOf y.1=some .cell)(hdef:defaultsOf params X.env=([],[]))
 (h:∀(f:Addr)(pm cv ctv:Value)(s':Shared)(H':Hp),Inv X pins σ H' s'->SmP P H H'->zB7 H' P lpos (X.env.qual ++ "<lambda>")->s.heap.objs.size<=f ->
  s'.heap.get? f=some { cls:=.type "function",data:=.func (PySem.W.kla_fn "<lambda>" (X.env.qual ++ "<lambda>") params body lscope (zCQ X.env.cells lscope.names []) pm cv ctv) } ->
  s'.heap.CodeRec cv (X.env.qual ++ "<lambda>")->Q (.ref f) s') :
 wpAny (model X.prog X.w) X.A (eval (.Lambda params body lscope lpos) X.env) Q E s:=by
 obtain⟨ps,hP,ht,hcase⟩:=T
 have oP:s.heap.get? P=some (PySem.W.tabObj ps):=I.hok P _ hP
 have hg:=I.mod.glob.keeps I.bk
 have C':PySem.W.CodeHd s.heap c P:=C.keeps I.bk
 have hcl:closureFor lscope X.env=pure (zCQ X.env.cells lscope.names []):=zCC fun y hy hf=>I.ok.has y.1 (.inl (hfree y hy hf))
 have nP:∀b o,X.base.get? b=some o->b≠P:=fun b o e z=>by
  have:=(I.bs b o e).2
  rw[z,hP] at this;cases this
 have hgP:mainGlobals≠P:=by
  obtain⟨o,es,ep,e,_⟩:=I.mod.glob
  exact nP _ _ e
 have hb:s.heap.BuiltinsAt X.mg P:=by
  obtain⟨bm,ob,b1,b2,b3,b4,b5,b6⟩:=hbm
  refine⟨bm,ob,b1,b2,fun z=>?_,nP _ _ b3,I.bk _ _ b3,b4,b5,b6⟩
  obtain⟨o,es,ep,e,hd,_⟩:=I.mod.glob
  rw[z,e] at b3;cases b3;rw[hd] at b6;cases b6
 refine PySem.W.kla_eval hdef ?_
 rcases hcase with hn | ⟨c1,hc1,hH⟩
 . refine PySem.W.kla_makeFunction (mg:=X.mg) hcl I.ok.glob hg hcode C' oP ht hn hgP hb fun c' ctv h' tk hx hge hlt hrec htb=>?_
   obtain⟨c2,oc,vs,t,e2,hoc,hd,hv⟩:=id hrec
   cases e2
   have kp:∀b u,b≠P->s.heap.get? b=some u->(h'.push (PySem.W.kla_obj "<lambda>" (X.env.qual ++ "<lambda>") params body lscope (zCQ X.env.cells lscope.names []) ((X.mg "__name__").getD .none) c' ctv)).get? b=some u:=fun b u hb' e=>zF _ (hx b u hb' e)
   have hcn:H c'=none:=I.hok.fresh hge
   have nPc:P≠c':=zi hP hcn
   refine h h'.objs.size ((X.mg "__name__").getD .none) (.ref c') ctv _ _ (I.growL (c':=c') (o:=.ext (zE0 c' (X.env.qual ++ "<lambda>"))) (t':=tk) hP hge kp (zF _ htb) ⟨⟨oc,vs,t,zF _ hoc,hd,hv⟩,⟨oc,zF _ hoc⟩,fun h1 h2 ⟨o1,v1,t1,a1,a2,a3⟩ k12=>⟨o1,v1,t1,k12 _ a1,a2,a3⟩⟩) ?_ ?_ ?_ ?_ ?_
   . intro b o e
     by_cases hbP:b=P
     . left
       rw[hbP,hP] at e
       exact⟨hbP,ps,(zP e).symm⟩
     . right
       rw[zX (zi e hcn),zX hbP];exact e
   . refine⟨ps ++ #[rawInt lpos.line,rawInt lpos.col,.ref c'],by rw[zX nPc,zH],?_,.inr ⟨c',?_,zH⟩⟩
     . rw[Array.toList_append];exact TriplesOk_snoc _ _ _ _ ht
     . rw[Array.toList_append];exact codeAmong_snoc _ ht hn
   . have:=zBo (zAD hge hlt)
     exact this
   . exact zQ _ rfl
   . exact hrec.keeps fun b o e=>zF _ e
 . obtain⟨⟨oc,vs,t,hoc,hd,hv⟩,_⟩:=I.hok c1 _ hH
   refine PySem.W.kla_makeFunctionHit (mg:=X.mg) hcl I.ok.glob hg hcode C' oP ht hc1 hb fun ctv h' tk hk hsz=>?_
   refine h h'.objs.size ((X.mg "__name__").getD .none) (.ref c1) ctv _ _ (I.kept (t':=tk) fun b u e=>zF _ (hk b u e)) (SmP.refl _) ⟨ps,hP,ht,.inr ⟨c1,hc1,hH⟩⟩ hsz (zQ _ rfl) ⟨c1,oc,vs,t,rfl,zF _ (hk _ _ hoc),hd,hv⟩
end
section
variable {X:Cx}
noncomputable def zJj (j:Nat)(P:Addr)(lpos:Pos)(q:Str)(t:TA):TE:=fun σ H Q=>t σ H fun vs H1=>∃(l d:Addr)(ns:List Int)(kvs:List (Key×V))(val:Int->Int),vs=[.ref l]/\H1 l=some (.lst (ns.map V.int))/\ns≠[]/\σ[j]? = some (some (.ref d))/\H1 d=some (.dK kvs) /\
 (∀n∈ns,zCS kvs (Sum.inl n)=some (.int (val n)))/\zB7 H1 P lpos q/\∀(M:Int)(H2:Hp),M∈ns->(∀n∈ns,val M<=val n)->SmP P H1 H2->zB7 H2 P lpos q->Q (.int M) H2
theorem zHM {k j:Nat}{P c:Addr}{dn pn:Str}{e:Expr}{t:TA}{params:Arguments}{lscope:Scope}{lpos pos np p1 p2 p3 kpos:Pos}
 (hc:X.calm=true)(hr:zCq (k+1) X.A)(hg:Gl X "min") (hm:X.mg "min" = none) (he:PA X [e] t)(hcode:X.env.code = .ref c)(C:PySem.W.CodeHd X.base c P)(hbm:zG7 X.mg X.base)
 (hN:X.N[j]? = some dn)(hkd:X.env.kindOf dn=some .cell)(hS:lscope.kind = .function)(hco:lscope.isCoroutine=false)(hgen:lscope.isGenerator=false)(hcell:∀x∈lscope.names,x.2 ≠ .cell)
 (hfree:∀y∈lscope.names,y.2 = .free->X.env.kindOf y.1=some .cell)(hdn:lscope.names.lookup dn=some .free)(hpn:lscope.names.lookup pn=some .local)(hdef:defaultsOf params X.env=([],[]))
 (hbind:∀(q:Str)(body:Expr)(cl:List (Str×Addr))(pm cdv ct v:Value),bindArgs (PySem.W.kla_fn "<lambda>" q params body lscope cl pm cdv ct) ⟨[v],[]⟩=pure [(pn,v)])
 (hd1:(dn==("__debug__" : Str))=false:=by decide) (hd2:(dn==("__classdict__" : Str))=false:=by decide) (hd3:(pn==("__debug__" : Str))=false:=by decide)
 (hs1:backTo pos (starEach [e] X.env)=(false,eval e X.env)::backTo pos (starEach [] X.env):=by rfl)(hs2:(backTo pos (starEach [e] X.env)).any (·.1)=false:=by rfl) :
 PE X (.Call (.Name "min" np) [e] [⟨some "key",.Lambda params (.Subscript (.Name dn p1) (.Name pn p2) p3) lscope lpos,kpos⟩] pos) (zJj j P lpos (X.env.qual ++ "<lambda>") t):=by
 intro pins s σ H Q I h
 refine zA2 (zCa I hg hm (by decide +kernel:bootBuiltins "min" = some (.builtin "min")) ?_)
 refine PyProof.Rows.callWith_kw (thn (he pos pins s σ H _ I h) fun us s1 ⟨vs,H1,I1,r,q1⟩=>?_) hs1 hs2
 obtain⟨l,d,ns,kvs,val,rfl,hl,hne,hσ,hdd,hval,T,q⟩:=q1
 obtain⟨u,rfl,rx⟩:=zCn r
 cases rx
 show wpAny _ _ (evalAll ((do let v <-eval (.Lambda params (.Subscript (.Name dn p1) (.Name pn p2) p3) lscope lpos) X.env;standAt pos;pure v)::[])) _ _ s1
 refine wpAny_evalAll_cons (zA (zML I1 T hcode C hbm hfree hdef fun f pm cv ctv s2 H2 I2 sm T2 hfge hf hrec=>zA (zBq (zG (wpAny_evalAll_nil ?_)))))
 show wpAny _ _ (call (.builtin "min") [.ref l] [(Str.ofString "key",.ref f)]) _ _ s2
 have keep2:∀b o,H1 b=some o->(∀ps,o ≠ .tbl ps)->H2 b=some o:=fun b o e ho=>by
  rcases sm b o e with ⟨_,ps,z⟩ | z
  . exact absurd z (ho ps)
  . exact z
 have hl2:H2 l=some (.lst (ns.map V.int)):=keep2 _ _ hl (by intro ps z;cases z)
 have hd2':H2 d=some (.dK kvs):=keep2 _ _ hdd (by intro ps z;cases z)
 obtain⟨_,its,nn,rv,ho⟩:=I2.hok l _ hl2
 obtain⟨hz,lo,vs,rel,od,es,ep,hod,hdr⟩:=zI6 I2.hok hd2'
 have hI:IntsAre its ns:=zBc rv
 obtain⟨m,F0⟩:=I2.fr
 have notL:∀b o,H2 b=some o->b≠X.env.locals:=fun b o e z=>by rw[z,I2.free] at e;cases e
 have kp:∀(h':Heap)(own:List (Addr×Obj)),Fr X.base X.env.locals h' m->News X.base X.env.locals h' (zDz X.base s2.heap X.env.locals++own)->∀b o,b≠X.env.locals->s2.heap.get? b=some o->h'.get? b=some o:=fun h' own F' N' b o hb e'=>by
  cases qb:X.base.get? b with
  | some u=>
   have z:=I2.bk b u qb
   rw[e'] at z;cases z
   exact F'.keep b _ qb
  | none=>exact (N' (b,o) (zA6 _ (zF8 hb qb e'))).1
 obtain⟨m',hn',hloc⟩:=I2.loc
 have em:m'=m:=zK4 hn' F0.ns
 subst em
 obtain⟨ud,rd,lk⟩:=hloc j dn (.ref d) hN hσ (.inr (.inl hkd))
 cases (show ud=Value.ref d from rd)
 obtain⟨cc,hcc,oc,hoc,hdc⟩:∃cc,X.env.cells.lookup dn=some cc/\s2.heap.IsCell cc (some (.ref d)):=by
  rcases lk with ⟨z,_⟩ | ⟨_,cc,a,b⟩
  . rw[hkd] at z;cases z
  . exact⟨cc,a,b⟩
 have hcl:(zCQ X.env.cells lscope.names []).lookup dn=some cc:=by
  obtain⟨c',hc'⟩:=zCY ⟨cc,hcc⟩ lscope.names [] (PySem.mem_of_lookup hdn)
  rcases zC9 _ _ hc' with z | z
  . simp at z
  . rw[hcc] at z;cases z;exact hc'
 have hsz0:X.env.locals<s1.heap.objs.size:=I1.lt
 have hfL:f≠X.env.locals:=Nat.ne_of_gt (zl hsz0 hfge)
 refine PyProof.Rows.kmk_min_letter (h₀:=X.base) (L:=X.env.locals) (m:=m') (news:=zDz X.base s2.heap X.env.locals) (ns:=ns) val (I2.ok.hd hc) F0 zKI (fun h' F' N'=>?_) hI (List.length_pos_iff.mpr hne) (fun n tn h' tk own hn F' N'=>?_) (fun M tM h' tk F' N' hM hbest=>?_)
 . exact⟨_,kp h' [] F' (by rw[zo];exact N') l _ (notL _ _ hl2) ho,rfl,nn,rfl⟩
 . have kk:=kp h' own F' N'
   obtain⟨c1,o1,v1,t1,e1,ho1,hd1',hv1⟩:=id hrec
   subst e1
   have hc1L:c1≠X.env.locals\/True:=.inr trivial
   have rec':h'.CodeRec (.ref c1) (X.env.qual ++ "<lambda>"):=by
    refine⟨c1,o1,v1,t1,rfl,kk c1 o1 (fun z=>?_) ho1,hd1',hv1⟩
    obtain⟨oL,esL,epL,hoL,hdL,_⟩:=F0.ns
    rw[z,hoL] at ho1;cases ho1;rw[hdL] at hd1';cases hd1'
   refine zBg (PySem.W.kla_callFunE hr.in1.depth (kk f _ hfL hf) rfl hco hgen rfl rec' ?_)
   rw[hbind]
   refine zG (wpAny_newFunctionEnv hcell (fun y hy=>?_) (fun h₁ hns hsb=>?_) hS)
   . obtain rfl:y=(pn,Value.int n tn):=zk.mp hy
     exact hpn
   . have hk₁:∀b o,h'.get? b=some o->h₁.get? b=some o:=fun b o e'=>hsb.extBut b o (za (zV e')) (zF _ e')
     refine⟨I2.mod.nolimit.keeps fun b o e'=>hk₁ b o (F'.keep b o e'),?_⟩
     show codeAny _ _ (.expr (.Subscript (.Name dn p1) (.Name pn p2) p3) (PySem.W.envX (X.env.qual ++ "<lambda>") lscope h'.objs.size f (.ref c1) (zCQ X.env.cells lscope.names []))) _ _
     refine PySem.W.kla_codeExpr (zHv PySem.F.slot_dict_getitem.lookup (fun _ _=>rfl) ?_)
     refine wpAny_Name (wpAny_loadName_free hS (show (PySem.W.envX (X.env.qual ++ "<lambda>") lscope h'.objs.size f (.ref c1) (zCQ X.env.cells lscope.names [])).kindOf dn=some .free from hdn) hcl ⟨oc,hk₁ _ _ (kk cc oc (I2.cne dn cc hcc) hoc),hdc⟩ ?_ hd2) hd1
     refine wpAny_Name (wpAny_loadName_local hS (show (PySem.W.envX (X.env.qual ++ "<lambda>") lscope h'.objs.size f (.ref c1) (zCQ X.env.cells lscope.names [])).kindOf pn=some .local from hpn) hns (v:=.int n tn) (by simp) ?_) hd3
     have dd:h₁.DictOf (zA9 X.prog X.w) d vs:=⟨od,es,ep,hk₁ _ _ (kk d od (notL _ _ hd2') hod),hdr⟩
     refine⟨dd.typeIs,?_⟩
     obtain⟨w',hw,rw'⟩:=zEy.some_of (v:=.int (val n)) (o:=valueAt vs (Sum.inl n)) (by rw[<-hval n hn];exact rel.val (Sum.inl n))
     obtain⟨t',rfl⟩:=rw'
     refine wpAny_getItem_of (zGC (k:=Sum.inl n) ⟨tn,rfl⟩) dd.mapOf hw ?_
     exact⟨h₁,_,t',rfl,rfl,⟨F'.ns.keeps hk₁,fun b o e'=>hk₁ b o (F'.keep b o e'),F'.above⟩,fun p hp=>⟨hk₁ _ _ (N' p hp).1,(N' p hp).2⟩⟩
 . have kk:=kp h' [] F' (by rw[zo];exact N')
   have I3:Inv X pins σ H2 { s2 with heap:=h',toks:=tk }:=by
    refine I2.step (g':=s2.gens) (d':=s2.drawn) (ch:=[]) (fun _ z=>nomatch z) (fun b o hb _ _ e' _=>kk b o hb e') (fun b o hb _ _ e' _=>⟨o.slots,kk b o hb e'⟩) (fun _ _ _ _ n=>n) (fun b o _ e'=>?_) (fun _ _ e'=>e') (fun _ _ _ e'=>e') (fun b ps e'=>⟨#[],by rw[e'];simp⟩) (fun mm hmm=>?_) ?_ I2.bare
    . by_cases hb:b=X.env.locals
      . obtain⟨oL,esL,epL,hoL,_⟩:=F'.ns
        exact⟨oL,by rw[hb];exact hoL⟩
      . exact⟨o,kk b o hb e'⟩
    . have:=zK4 hmm F0.ns
      subst this
      exact F'.ns
    . intro b u e'
      refine (I2.hok b u e').stay (fun x v hx z=>kk x v ?_ z) (fun _ z=>z) fun _ _ z=>z
      rcases hx with z1 | z1
      . rw[z1];exact notL _ _ e'
      . exact notL _ _ z1
   exact⟨.int M,H2,I3,⟨tM,rfl⟩,q M H2 hM hbest sm T2⟩
end
end L2
namespace L2
open PySem PySem.Spec PyProof.Rows
theorem zBM.there {P:Program}{w:World}{H:Hp}{h:Heap}{a:Addr}{o:HO}(x:zBM P w H h a o):∃ob,h.get? a=some ob:=by
 cases o with
 | lst xs=>obtain⟨_,_,_,_,e⟩:=x;exact⟨_,e⟩
 | tup xs=>obtain⟨⟨_,o2,e2,_⟩,_⟩:=x;exact⟨_,e2⟩
 | dK kvs=>obtain⟨_,_,_,_,o,_,_,e,_⟩:=x;exact⟨_,e⟩
 | dT kvs=>obtain⟨_,_,_,_,o,_,_,e,_⟩:=x;exact⟨_,e⟩
 | set S n=>obtain⟨o,_,_,_,e,_⟩:=x;exact⟨_,e⟩
 | ins C dx fs=>obtain⟨_,_,_,e,_⟩:=x;exact⟨_,e⟩
 | own y=>obtain⟨_,e⟩:=x;exact⟨_,e⟩
 | xd fs=>obtain⟨_,⟨_,_,_,e,_⟩,_⟩:=x;exact⟨_,e⟩
 | rng lo hi=>obtain⟨_,_,_,e⟩:=x;exact⟨_,e⟩
 | frz ob u=>obtain⟨e,_⟩:=x;exact⟨_,e⟩
 | tbl ps=>exact⟨_,show h.get? a=some _ from x⟩
 | met f y=>exact⟨_,show h.get? a=some _ from x⟩
 | ext φ=>obtain⟨_,⟨_,e⟩,_⟩:=x;exact⟨_,e⟩
theorem HOk.stays {P:Program}{w:World}{H:Hp}{h h' B:Heap}(x:HOk P w H h)(k:B.StaysIn h)(k':B.StaysIn h')(tr:∀b u,H b=some u->∃o,B.get? b=some o):HOk P w H h':=fun a o e=>
 (x a o e).stay (fun b u hb q=>by
  have:∃v,H b=some v:=by
   rcases hb with rfl | hb
   . exact⟨_,e⟩
   . exact⟨_,hb⟩
  obtain⟨v,hv⟩:=this
  obtain⟨o',ho'⟩:=tr b v hv
  have e2:o'=u:=zP ((k b o' ho').symm.trans q)
  exact e2 ▸ k' b o' ho') (fun _ q=>q) fun _ _ q=>q
section
variable {P:Program}{w:World}{K:PySem.W.Frag}{mg:Str->Option Value}{base:Heap}{N:List Str}{qual:Str}{scope:Scope}{f:Addr}{cd:Value}{A:Around}{outer:List Env}{s0 s:Shared}{H0 H:Hp}{E:XK}{pins:List (Addr×Obj)}{σ:St}
end
noncomputable abbrev bmV:List Value:=[.type "ValueError",.type "Exception",.type "BaseException",.type "object"]
theorem zI1 {K:PySem.W.Frag}{h:Heap}{C:Addr}{bmB:List Value}{newId:String}(X:K.In h)(q:PySem.W.excIn K C bmB newId=true) :
 ∃bm N nm qn bs hdct sn sub ab col dd k0 k1 k2 k3 k5 mN,h.get? C=some (excClassObj nm qn C N bs bm hdct sn sub ab col dd k0 k1 k2 k3 k5 newId)/\h.Ns N mN/\mN "__init__" = none/\OwnTail h bmB bm:=by
 unfold PySem.W.excIn at q
 split at q
 . next dd cd sl look=>
   split at q
   . next D bm k0 k1 k2 k3 n k5 em es=>
     simp only[Bool.and_eq_true,beq_iff_eq,Bool.not_eq_true'] at q
     obtain⟨⟨⟨⟨⟨q1,q2⟩,q3⟩,q4⟩,q5⟩,q6⟩:=q
     subst q1 q2
     cases cd
     simp only at em q3 q5 q6
     subst em q3
     cases sl
     simp only at es
     subst es
     exact⟨_,_,_,_,_,_,_,_,_,_,_,_,_,_,_,_,_,X _ _ look,.of_isNs (PySem.W.isNs_of_in X q5),PySem.W.nsMap_none_of_in X q5 q6,PySem.W.tail_of_in X q4⟩
   . cases q
 . cases q
end L2
namespace L2
open PySem PySem.Spec PyProof.Rows
section
variable {X:Cx}{pins:List (Addr×Obj)}{σ:St}{H:Hp}{s:Shared}
end
theorem zHS {M:Model}{A:Around}{E:Value->Shared->Prop}{s:Shared}{nm qn nm' qn':Str}{C W Nn Nn':Addr}{bs bm bs' bm':List Value}{hdct hdct':Bool}{sn sn':List Str}{sub sub':List Value}{ab ab':Bool}{col col':Option Bool}{dd dd':Option Addr}
 {k0 k1 k2 k3 k5 k0' k1' k2' k3' k5':Option Value}{newId newId':String}{e:Addr}{oe:Obj}{Q:Bool->Shared->Prop}
 (hC:s.heap.get? C=some (excClassObj nm qn C Nn bs bm hdct sn sub ab col dd k0 k1 k2 k3 k5 newId))(hW:s.heap.get? W=some (excClassObj nm' qn' W Nn' bs' bm' hdct' sn' sub' ab' col' dd' k0' k1' k2' k3' k5' newId'))
 (he:s.heap.get? e=some oe)(hcls:oe.cls = .ref C)(hb:bm'.contains (.type "BaseException")=true) (hs:(Value.ref C::bm).contains (.ref W)=true)(hq:Q true s):wpAny M A (excMatches (.ref e) (.ref W)) Q E s:=by
 obtain⟨h,g,d,t,os⟩:=s
 have hWB:(Value.ref W::bm').contains (.type "BaseException")=true:=by rw[List.contains_cons,hb,Bool.or_true]
 have f:=tc_notTuple
 unfold excMatches
 repeat (first | (with_reducible refine zBE he ?_;rw[hcls]) | with_reducible refine zBE hW ?_ | (with_reducible refine wpAny_isSubtype_exc hW ?_;rw[hWB]) | (with_reducible refine wpAny_isSubtype_exc hC ?_;rw[hs]) | wp_step)
 exact hq
end L2
namespace L2
open PySem PySem.Spec PyProof.Rows
noncomputable def subIn (K:PySem.W.Frag)(C W:Addr):Bool:=match K.lookup C with
 | some ⟨_,_,.cls cd,_⟩=>cd.mro.contains (.ref W)
 | _=>false
theorem sub_of {K:PySem.W.Frag}{h:Heap}{C W:Addr}{nm qn:Str}{Nn:Addr}{bs bm:List Value}{hdct:Bool}{sn:List Str}{sub:List Value}{ab:Bool}{col:Option Bool}{dd:Option Addr}{k0 k1 k2 k3 k5:Option Value}{newId:String}
 (X:K.In h)(q:subIn K C W=true)(hC:h.get? C=some (excClassObj nm qn C Nn bs bm hdct sn sub ab col dd k0 k1 k2 k3 k5 newId)):(Value.ref C::bm).contains (.ref W)=true:=by
 unfold subIn at q
 split at q
 . next look=>
   have e:=(X _ _ look).symm.trans hC
   unfold excClassObj at e
   cases e
   exact q
 . cases q
noncomputable def Cx.held (X:Cx)(ea:Addr)(oe:Obj):Cx:={ X with A:=X.A.mark (some (.ref ea)),calm:=false,pn:=(ea,oe)::X.pn,xe:=fun _ _=>False }
section
variable {X:Cx}{pins:List (Addr×Obj)}{σ:St}{H:Hp}{s:Shared}{ea:Addr}{oe:Obj}
theorem Inv.hold (I:Inv X pins σ H s)(h1:s.heap.get? ea=some oe)(h2:H ea=none)(h3:ea≠X.env.locals)(h4:ea∉X.fs)(h5:∀v,oe.data ≠ .cell v):Inv (X.held ea oe) pins σ H s:=
 ⟨⟨I.ok.mod,I.ok.kind,I.ok.glob,I.ok.blt,I.ok.above,I.ok.inj,I.ok.has,I.ok.cab,(fun z=>by cases z),I.ok.frames,I.ok.stk,I.ok.exf,I.ok.bs,I.ok.bsz,I.ok.noex,I.ok.exfs,I.ok.funs,I.ok.frf⟩,I.os,I.bare,I.base,I.loc,I.cell,I.free,I.freeC,
  fun p hp=>by
   rcases ze.mp (show p∈(ea,oe)::(X.pn++pins) from hp) with rfl | hp
   . exact⟨h1,h2,h3,h4,h5⟩
   . exact I.pin p hp,I.hok,I.len⟩
theorem Inv.letgo (ok:X.Ok)(I:Inv (X.held ea oe) pins σ H s):Inv X pins σ H s:=
 ⟨ok,I.os,I.bare,I.base,I.loc,I.cell,I.free,I.freeC,fun p hp=>I.pin p (zb _ hp),I.hok,I.len⟩
end
theorem zIg {st:List Env}{H1 H':Hp}{s1 s':Shared}{ea:Addr}{C a0:Value}{B h5:Heap}(un:Un (frs st) [] H1 H' s1.heap s'.heap)(fl:Heap.FlyingW B st ea C a0 s'.heap)
 (old:∀b o,s1.heap.get? b=some o->H1 b=none->b∉frs st->B.get? b=some o)(al:∀b o,s1.heap.get? b=some o->b∉frs st->∃o',B.get? b=some o')(st5:B.StaysIn h5)(up:s'.heap.UpToSlots h5):Un (frs st) [] H1 H' s1.heap h5:=by
 refine⟨fun b o e n hb _=>st5 b o (old b o e n hb),fun b o e n hb _=>?_,un.free,fun b o e _=>?_,un.tups,un.frzs,un.tbls⟩
 . obtain⟨sl2,e2⟩:=un.slot b o e n hb (by intro z;cases z)
   obtain⟨_,o3,e3,nd⟩:=fl.2.2.1.mem hb
   obtain⟨sl4,e4⟩:=up b _ e3 nd
   have e5:=zP (e3.symm.trans e2)
   rw[e5] at e4
   exact⟨sl4,e4⟩
 . by_cases hb:b∈frs st
   . obtain⟨_,o3,e3,nd⟩:=fl.2.2.1.mem hb
     obtain⟨sl4,e4⟩:=up b _ e3 nd
     exact⟨_,e4⟩
   . obtain⟨o3,e3⟩:=al b o e hb
     exact⟨_,st5 b o3 e3⟩
end L2
namespace L2
open PySem PySem.Spec PySem.W PyProof.Rows Builtin Builtin.ObjectAttr Builtin.Getset_descriptor
section
variable {prog:Program}{w:World}{A:Around}{E:Value->Shared->Prop}{s:Shared}{K:Frag}{x C:Addr}{ox:Obj}
noncomputable def zKi (h:Heap)(x C:Addr):Prop:=∃o,h.get? x=some o/\o.cls = .ref C
theorem zKi.type {M:Model}{h:Heap}{x C:Addr}(I:zKi h x C):Looks M h (typeOf (.ref x)) (.ref C):=by
 obtain⟨o,e,c⟩:=I
 rw[<-c]
 exact (Looks.ld e).andThen .now
end
section
variable {X:Cx}
variable {k:Nat}{f:Addr}{fd:FuncData}{ps:List Str}{sp:Sp}{x:Str}{p pos epos:Pos}{e:Expr}{es:List Expr}{t:TA}
end
end L2
namespace L2
open PySem PySem.Spec PyProof.Rows
noncomputable def DK (h h':Heap):Prop:=∀b o,h.get? b=some o->∃o',h'.get? b=some o'/\o'.dict=o.dict
theorem DK.refl (h:Heap):DK h h:=fun _ o e=>⟨o,e,rfl⟩
theorem DK.trans {h1 h2 h3:Heap}(a:DK h1 h2)(b:DK h2 h3):DK h1 h3:=fun x o e=>by
 obtain⟨o1,e1,d1⟩:=a x o e
 obtain⟨o2,e2,d2⟩:=b x o1 e1
 exact⟨o2,e2,d2.trans d1⟩
noncomputable def KD {α:Type}:Sem α->Prop
 | .pure _=>True
 | .raise _=>True
 | .unsupported _=>True
 | .finish _=>True
 | .rule _ k=>KD (k ())
 | .at _ k=>KD (k ())
 | .load _ _ k=>∀o,KD (k o)
 | .update _ _ f k=>(∀o,(f o).dict=o.dict/\(o.isFreed=false->(f o).isFreed=false))/\KD (k ())
 | .alloc _ k=>∀a,KD (k a)
 | .loadIfAlive _ k=>∀o,KD (k o)
 | .point _ k=>KD (k ())
 | .fresh k=>∀t,KD (k t)
 | .ask k=>∀x,KD (k x)
 | .stack k=>∀l,KD (k l)
 | .handled _ k=>∀v,KD (k v)
 | _=>False
theorem KD.bind {α β:Type}{t:Sem α}{k:α->Sem β}(h:KD t)(hk:∀a,KD (k a)):KD (t >>= k):=by
 show KD (Sem.bind t k)
 induction t with
 | pure a=>exact hk a
 | raise e=>trivial
 | unsupported w=>trivial
 | finish e=>trivial
 | rule t f ih=>exact ih () h
 | «at» p f ih=>exact ih () h
 | load a p f ih=>exact fun o=>ih o (h o)
 | update a p f g ih=>exact⟨h.1,ih () h.2⟩
 | alloc o f ih=>exact fun a=>ih a (h a)
 | loadIfAlive a f ih=>exact fun o=>ih o (h o)
 | point l f ih=>exact ih () h
 | fresh f ih=>exact fun t=>ih t (h t)
 | ask f ih=>exact fun x=>ih x (h x)
 | stack f ih=>exact fun l=>ih l (h l)
 | handled o f ih=>exact fun v=>ih v (h v)
 | register=>exact h.elim
 | choose=>exact h.elim
 | os=>exact h.elim
 | call=>exact h.elim
 | newGen=>exact h.elim
 | genState=>exact h.elim
 | resume=>exact h.elim
 | yield=>exact h.elim
 | fork=>exact h.elim
 | thread=>exact h.elim
 | await=>exact h.elim
theorem KD.wp {α:Type}{M:Model}{Γ : PySem.Ctx}{t:Sem α}(h:KD t){h0:Heap}{Q:α->Pos->Shared->Prop}{E:Value->Pos->Shared->Prop}:∀{p:Pos}{s:Shared},DK h0 s.heap->Sem.wp M Γ t Q E p s->Sem.wp M Γ t (fun a p' s'=>Q a p' s'/\DK h0 s'.heap) E p s:=by
 induction t with
 | pure a=>exact fun d w=>⟨w,d⟩
 | raise e=>exact fun d w=>w
 | unsupported w=>exact fun d w=>w
 | finish e=>exact fun d w=>w
 | rule t f ih=>exact fun d w=>ih () h d w
 | «at» p f ih=>exact fun d w=>ih () h d w
 | load a p f ih=>
  intro p s d w
  obtain⟨o,e,w⟩:=w
  exact⟨o,e,ih o (h o) d w⟩
 | update a p f g ih=>
  intro p s d w
  obtain⟨e,w⟩:=w
  refine⟨e,ih () h.2 (d.trans fun b o q=>?_) w⟩
  by_cases c:b=a
  . subst c
    have fr:=(Heap.get?_some_iff.mp q).2
    exact⟨f o,zAW f q ((h.1 o).2 fr),(h.1 o).1⟩
  . exact⟨o,(Heap.get?_update_other _ _ (Ne.symm c)).trans q,rfl⟩
 | alloc o f ih=>
  intro p s d w
  exact ih _ (h _) (d.trans fun b o q=>⟨o,zF _ q,rfl⟩) w
 | loadIfAlive a f ih=>exact fun d w=>ih _ (h _) d w
 | point l f ih=>exact fun d w=>ih () h d w
 | fresh f ih=>exact fun d w=>ih _ (h _) d w
 | ask f ih=>exact fun d w=>ih _ (h _) d w
 | stack f ih=>exact fun d w=>ih _ (h _) d w
 | handled o f ih=>exact fun d w=>ih _ (h _) d w
 | register=>exact h.elim
 | choose=>exact h.elim
 | os=>exact h.elim
 | call=>exact h.elim
 | newGen=>exact h.elim
 | genState=>exact h.elim
 | resume=>exact h.elim
 | yield=>exact h.elim
 | fork=>exact h.elim
 | thread=>exact h.elim
 | await=>exact h.elim
theorem zDS {α:Type}{M:Model}{A:Around}{t:Sem α}{Q:α->Shared->Prop}{E:Value->Shared->Prop}{s:Shared}(k:KD t)(h:wpAny M A t Q E s):wpAny M A t (fun a s'=>Q a s'/\DK s.heap s'.heap) E s:=
 fun Γ p hΓ => k.wp (DK.refl _) (h Γ p hΓ)
theorem zC6 {α:Type}{c:Prop} [Decidable c] {a b:Sem α}(h1:KD a)(h2:KD b):KD (if c then a else b):=by split <;> assumption
theorem zGB (v:Value):KD (fieldsOf v):=by
 unfold fieldsOf
 split
 . refine KD.bind (fun o=>trivial) fun o=>?_
   split <;> trivial
 . trivial
theorem zDU (v:Value)(i:Nat):KD (field v i):=by
 unfold field
 refine KD.bind (zGB v) fun vs=>?_
 split <;> trivial
theorem zIt (g:Array Value->Array Value)(o:Obj):(Obj.mapFields g o).dict=o.dict/\(o.isFreed=false->(Obj.mapFields g o).isFreed=false):=by
 obtain⟨c,d,dt,sl⟩:=o
 cases dt <;> exact⟨rfl,fun h=>h⟩
theorem zCu (v:Value)(i:Nat)(x:Value):KD (setField v i x):=by
 unfold setField
 split
 . unfold updateField
   refine KD.bind (fun o=>trivial) fun o=>?_
   split
   . exact zC6 ⟨fun o=>zIt _ o,trivial⟩ trivial
   . trivial
 . trivial
theorem zCf (e:Value)(f:Option Addr):KD (setFlight e f):=by
 unfold setFlight
 refine KD.bind (zDU e 1) fun tb=>zC6 (zCu _ _ _) trivial
theorem zFR:KD frameEnvs:=by
 unfold frameEnvs
 exact KD.bind (fun l=>trivial) fun l=>trivial
theorem zIl (env:Env)(l:List Env):KD (behindIsImport env l):=by
 unfold behindIsImport
 exact zC6 trivial (zC6 trivial (KD.bind (zDU _ _) fun _=>trivial))
theorem zMN (env:Env)(b:Bool)(l:List Env):KD (keptBack env b l):=by
 unfold keptBack
 split
 . refine zC6 trivial ?_
   refine KD.bind ?_ fun _=>trivial
   unfold underTheClaimsCaller
   exact KD.bind (fun l=>trivial) fun l=>trivial
 . trivial
theorem zGp:∀l:List Env,KD (readyFrames l)
 | []=>trivial
 | env::outer=>by
  unfold readyFrames
  split
  . refine KD.bind (fun o=>trivial) fun o=>?_
    refine zC6 trivial ?_
    refine KD.bind (zIl _ _) fun b=>?_
    refine KD.bind (zMN _ _ _) fun b=>?_
    refine KD.bind ⟨fun o=>⟨rfl,fun h=>(by obtain⟨c,d,dt,sl⟩:=o;cases dt <;> exact h)⟩,trivial⟩ fun _=>zGp outer
  . trivial
theorem zHb (env:Env):KD (PySem.frameOf env):=by
 unfold PySem.frameOf
 refine KD.bind zFR fun l=>?_
 refine KD.bind ?_ fun r=>?_
 . unfold frameObject
   split
   . trivial
   . exact KD.bind (zGp _) fun _=>trivial
 . split <;> trivial
theorem zKO (f:Addr)(b:Bool):KD (entryPlaceOf f b):=by
 unfold entryPlaceOf
 refine KD.bind (fun l=>trivial) fun l=>?_
 split <;> trivial
theorem zKP (a b c d e:Value)(l:List Value):KD (EntryCells.newEntry a b c d e l):=by
 unfold EntryCells.newEntry newFields newObj
 have fin:∀d:Data,KD (newObjAsIs (.type "traceback") d):=fun d=>by
  unfold newObjAsIs
  exact KD.bind (fun a=>trivial) fun a=>trivial
 simp only[]
 exact zC6 (KD.bind trivial fun _=>fin _) (fin _)
theorem zIk (e:Value)(env:Env):KD (noteFrame e env):=by
 unfold noteFrame
 split
 . refine KD.bind (zDU _ _) fun hd=>?_
   have fin:∀f:Addr,KD (do setField e 1 (<-EntryCells.newEntry hd (<-PySem.frameOf env) .none (rawInt f) .none (<-entryPlaceOf f (hd != .none)))):=fun f=>
    KD.bind (zHb env) fun a=>KD.bind (zKO _ _) fun pl=>KD.bind (zKP _ _ _ _ _ _) fun b=>zCu _ _ _
   refine zC6 ?_ (fin _)
   refine KD.bind (zDU _ _) fun x=>zC6 trivial ?_
   exact KD.bind (zCu _ _ _) fun _=>fin _
 . trivial
theorem zHa (env:Env)(e:Value):KD (leaving env e):=KD.bind (zIk e env) fun _=>zCf e none
end L2
namespace L2
open PySem PySem.Spec PyProof.Rows
noncomputable def excI (K:PySem.W.Frag)(C:Addr):Bool:=match K.lookup C with
 | some ⟨.type "type",_,.cls u,z⟩=>
  match u.mro,z.toList with
  | .ref D::b,[_,_,_,_,some (.builtin m),_]=>D==C && m == "ValueError.__new__" && !u.hasDel && PySem.W.tailIn K bmV b && PySem.W.nsOkIn K u.ns && u.hasDict
  | _,_=>false
 | _=>false
theorem zCX {K:PySem.W.Frag}{h:Heap}{C:Addr}(X:K.In h)(q:excI K C=true) :
 ∃bm N nm qn bs sn sub ab col dd k0 k1 k2 k3 k5 mN,h.get? C=some (excClassObj nm qn C N bs bm true sn sub ab col dd k0 k1 k2 k3 k5 "ValueError.__new__")/\h.Ns N mN/\OwnTail h bmV bm:=by
 unfold excI at q
 split at q
 . next dd cd sl look=>
   split at q
   . next D bm k0 k1 k2 k3 n k5 em es=>
     simp only[Bool.and_eq_true,beq_iff_eq,Bool.not_eq_true'] at q
     obtain⟨⟨⟨⟨⟨q1,q2⟩,q3⟩,q4⟩,q5⟩,q6⟩:=q
     subst q1 q2
     cases cd
     simp only at em q3 q5 q6
     subst em q3 q6
     cases sl
     simp only at es
     subst es
     exact⟨_,_,_,_,_,_,_,_,_,_,_,_,_,_,_,_,X _ _ look,.of_isNs (PySem.W.isNs_of_in X q5),PySem.W.tail_of_in X q4⟩
   . cases q
 . cases q
structure zG5 (K:PySem.W.Frag)(C fI:Addr):Prop where
 cl:excI K C=true
 ini:PySem.W.findIn K (.ref C) "__init__" = some (some (.ref fI))
 fn:PySem.W.isFn K (.ref fI)=true
 sa:PySem.W.findIn K (.ref C) "__setattr__" = some (some (.builtin "object.__setattr__"))
 kp:PySem.W.keepIn K (.ref C)=true
noncomputable def zEY (C t:Addr)(od:Option Addr):Obj:={ cls:=.ref C,dict:=od,data:=.fields #[.ref t,.none,.none,.none,.bool false,.none] }
noncomputable def xTup (us:List Value):Obj:={ cls:=.type "tuple",data:=.seq us.toArray }
section
variable {prog:Program}{w:World}{A:Around}{E:Value->Shared->Prop}{h:Heap}{g:Array GenState}{d:Drawn}{t:Nat}{os:OsState}{K:PySem.W.Frag}{C fI:Addr}{us:List Value}
noncomputable def zKR (h:Heap)(C:Addr)(us:List Value):Heap:=(h.push (xTup us)).push (zEY C h.objs.size none)
theorem zFV (h:Heap)(C:Addr)(us:List Value):∀b o,h.get? b=some o->(zKR h C us).get? b=some o:=fun _ _ e=>zF _ (zF _ e)
theorem zK8 (h:Heap)(C:Addr)(us:List Value):(zKR h C us).get? (h.objs.size+1)=some (zEY C h.objs.size none):=Heap.get?_push_at (by rw[zAj]) rfl
theorem zId {Q:PySem.Fin->Shared->Prop}(X:K.In h)(I:zG5 K C fI)(hz:us.length<=sizeLine)
 (hq:wpAny (model prog w) A (call (.ref fI) (.ref (h.objs.size+1)::us)) (fun r s'=>r = .none/\Q (.done (.ret (.ref (h.objs.size+1)))) s') E ⟨zKR h C us,g,d,t,os⟩) :
 wpAny (model prog w) A (Builtin.«type.__call__» ⟨.ref C::us,[]⟩) Q E ⟨h,g,d,t,os⟩:=by
 obtain⟨bm,N,nm,qn,bs,sn,sub,ab,col,dd,k0,k1,k2,k3,k5,mN,hC,hN,T⟩:=zCX X I.cl
 have F:=PySem.F.excBase_ValueError
 repeat (first | with_reducible refine zBE hC ?_ | with_reducible refine wpAny_madeBy_exc hC ?_ | wp_step)
 refine codeAny_call_builtin_code (Code.quiet_builtin _ F.quiet) (wpAny_check_new_subT F T hC (codeAny_exc_new_subT F T hC ?_ hz))
 show wpAny _ _ _ _ _ ⟨zKR h C us,g,d,t,os⟩
 have hC1:=zFV h C us _ _ hC
 have he1:(zKR h C us).get? (h.objs.size+1)=some { cls:=.ref C,data:=.fields #[.ref h.objs.size,.none,.none,.none,.bool false,.none] }:=zK8 h C us
 have X1:K.In (zKR h C us):=X.keeps (zFV h C us)
 have own:(Value.ref C::bm).contains (.ref C)=true:=by simp
 unfold isInstance
 repeat (first | with_reducible refine zBE he1 ?_ | (with_reducible refine wpAny_isSubtype_exc hC1 ?_;rw[own]) | wp_step)
 have L:=PySem.W.looks_findIn (M:=model prog w) X1 I.ini
 refine L.at ?_
 refine zAR (zA ?_)
 refine (PySem.W.bind_fn (M:=model prog w) X1 (.ref (h.objs.size+1)) (beq_iff_eq.mp I.fn)).at ?_
 refine zA (zAJ hq (fun r s' hr=>?_) fun _ _ z=>z)
 obtain⟨rfl,hQ⟩:=hr
 wp_walk
 exact hQ
theorem zJM {Q:Value->Shared->Prop}(X:K.In h)(I:zG5 K C fI)(hz:us.length<=sizeLine)
 (hq:wpAny (model prog w) (A.under (.builtin "type.__call__" ⟨.ref C::us,[]⟩)) (call (.ref fI) (.ref (h.objs.size+1)::us)) (fun r s'=>r = .none/\Q (.ref (h.objs.size+1)) s') E ⟨zKR h C us,g,d,t,os⟩) :
 wpAny (model prog w) A (call (.ref C) us) Q E ⟨h,g,d,t,os⟩:=by
 obtain⟨bm,N,nm,qn,bs,sn,sub,ab,col,dd,k0,k1,k2,k3,k5,mN,hC,hN,T⟩:=zCX X I.cl
 have f1:=tc_lookup
 have f2:=tc_bind (.ref C)
 have hT:(⟨h,g,d,t,os⟩:Shared).TypeIs (.ref C) "type" := ⟨_,hC,rfl⟩
 refine zBg (codeAny_of_tree ?_)
 show wpAny _ _ (callAny (.ref C) _) _ _ _
 repeat (any_goals (first | assumption | with_reducible refine zBE hC ?_ | wp_step))
 refine⟨rfl,?_⟩
 exact codeAny_call_builtin_at (Code.quiet_builtin _ (by decide +kernel)) entry_typeCall (wpAny_check_type_call_sub hC (zId X I hz hq))
end
end L2
namespace L2
open PySem PySem.Spec PyProof.Rows
theorem zDd {h:Heap}{bm:List Value}(T:OwnTail h bmV bm)(self:Value):refuseLoop self "__setattr__" bm=pure ():=by
 induction T with
 | base=>exact PySem.F.store_ValueError.passes self
 | own _ _ _ _ ih=>rw[refuseLoop_ref];exact ih
section
variable {prog:Program}{w:World}{A:Around}{E:Value->Shared->Prop}{h:Heap}{g:Array GenState}{d:Drawn}{t:Nat}{os:OsState}{K:PySem.W.Frag}{C fI x tt:Addr}{name:Str}{v:Value}
theorem zH7 {M:Model}{od:Option Addr}{nameV:Value}{Q:Unit->Shared->Prop}(X:K.In h)(mo:PySem.W.mroIn K C (.type "object")=some true) (hx:h.get? x=some (zEY C tt od))(hq:Q () ⟨h,g,d,t,os⟩) :
 wpAny M A (checkBuiltinCall "object.__setattr__" ⟨[.ref x,nameV,v],[]⟩) Q E ⟨h,g,d,t,os⟩:=by
 have L0:=(show zKi h x C from ⟨_,hx,rfl⟩).type (M:=M)
 have L1:=PySem.W.looks_mroIn (M:=M) X mo
 have ha:=PySem.F.store_ValueError.args (.ref x) nameV v
 have e1:=PySem.F.store_ValueError.kind
 have e2:=PySem.F.store_ValueError.split
 simp only[checkBuiltinCall,e1,e2]
 refine zA ?_
 unfold isInstance
 repeat (any_goals (first | assumption | with_reducible refine L0.at ?_ | with_reducible refine L1.at ?_ | wp_step))
theorem zKy {M:Model}{tk:Tok}{dx:Addr}{mA:Str->Option Value}{ns:List Str}{Q:PySem.Fin->Shared->Prop}(hns:h.Ns1 dx mA)(hw:PySem.Within mA ns)(hz:ns.length<1000)
 (hq:∀h' tk',h'.Ns1 dx (fun y=>if y=name then some v else mA y)->(∀b,b≠dx->h'.get? b=h.get? b)->Q (.done (.ret .none)) ⟨h',g,d,tk',os⟩) :
 wpAny M A (Builtin.ObjectAttr.storeInDict dx (.str name tk) name v) Q E ⟨h,g,d,t,os⟩:=by
 unfold Builtin.ObjectAttr.storeInDict Builtin.ObjectAttr.newKeyGuard
 refine zA (zG (zA (wpAny_nsSet1 hns fun h' hn' hs=>?_)))
 obtain⟨oD,esD,epD,hoD,hdD,hcD⟩:=hn'.count (Within.cons name v hw)
 refine zA (wpAny_lookBehind hoD (by rw[hdD];exact pastItsLine_dict (zAE hcD (by rw[zt,sizeLine_eq];omega))) ?_)
 wp_walk
 exact hq h' _ hn' fun b hb=>hs.2 b hb
theorem zHF {tk:Tok}{Q:PySem.Fin->Shared->Prop}(X:K.In h)(I:zG5 K C fI)(nm:PySem.W.findIn K (.ref C) name=some none)(hx:h.get? x=some (zEY C tt none))
 (hq:∀h' tk',h'.get? x=some (zEY C tt (some h.objs.size))->h'.Ns1 h.objs.size (fun y=>if y=name then some v else none)->(∀b o,b≠x->h.get? b=some o->h'.get? b=some o)->Q (.done (.ret .none)) ⟨h',g,d,tk',os⟩) :
 wpAny (model prog w) A (Builtin.«object.__setattr__» ⟨[.ref x,.str name tk,v],[]⟩) Q E ⟨h,g,d,t,os⟩:=by
 obtain⟨bm,N,nmm,qn,bs,sn,sub,ab,col,dd,k0,k1,k2,k3,k5,mN,hC,hN,T⟩:=zCX X I.cl
 have pass:=zDd T (.ref x)
 obtain⟨o,ho⟩:∃o,o=zEY C tt none:=⟨_,rfl⟩
 rw[<-ho] at hx
 have hc:o.cls = .ref C:=by rw[ho];rfl
 have hdn:o.dict=none:=by rw[ho];rfl
 have L:=PySem.W.looks_findIn (M:=model prog w) X nm
 unfold Builtin.«object.__setattr__»
 repeat (first | rw[refuse_eq] | (rw[refuseLoop_ref,pass]) | (with_reducible refine zBE hx ?_;rw[hc]) | with_reducible refine wpAny_mroOf_exc hC ?_ | with_reducible refine L.at ?_ | wp_step)
 have hdt:o.data = .fields #[.ref tt,.none,.none,.none,.bool false,.none]:=by rw[ho];rfl
 have hx1:=zF { cls:=.type "dict",data:=.dict #[] } hx
 have xs:x≠h.objs.size:=za (zV hx)
 rw[hdn,hdt]
 refine zA (wpAny_alloc' (zA (wpAny_update' hx1 (zG ?_))))
 have fr:(zEY C tt (some h.objs.size)).isFreed=false:=rfl
 have up:((h.push { cls:=.type "dict",data:=.dict #[] }).update x fun o=>{ cls:=o.cls,dict:=some h.objs.size,data:=o.data,slots:=o.slots }).get? x=some (zEY C tt (some h.objs.size)):=by
  have:=zAW (fun o:Obj=>{ cls:=o.cls,dict:=some h.objs.size,data:=o.data,slots:=o.slots }) hx1 (by rw[ho];rfl)
  rw[this,ho];rfl
 have nd:((h.push { cls:=.type "dict",data:=.dict #[] }).update x fun o=>{ cls:=o.cls,dict:=some h.objs.size,data:=o.data,slots:=o.slots }).get? h.objs.size=some { cls:=.type "dict",data:=.dict #[] }:=
  (Heap.get?_update_other _ _ xs).trans (Heap.get?_push_at rfl rfl)
 refine zKy (Heap.Ns1.of_empty ⟨_,#[],_,nd,rfl,fun e he=>absurd he (by simp),fun _=>rfl⟩) Within.nil (by decide) fun h' tk' n' same=>?_
 refine hq h' tk' ((same x xs).trans up) n' fun b ob hb e=>?_
 rw[same b (za (zV e)),Heap.get?_update_other _ _ (Ne.symm hb)]
 exact zF _ e
theorem zHE {tk:Tok}{dx:Addr}{mA:Str->Option Value}{ns:List Str}{Q:PySem.Fin->Shared->Prop}(X:K.In h)(I:zG5 K C fI)(nm:PySem.W.findIn K (.ref C) name=some none)(hx:h.get? x=some (zEY C tt (some dx)))
 (hns:h.Ns1 dx mA)(hw:PySem.Within mA ns)(hz:ns.length<1000)
 (hq:∀h' tk',h'.Ns1 dx (fun y=>if y=name then some v else mA y)->(∀b,b≠dx->h'.get? b=h.get? b)->Q (.done (.ret .none)) ⟨h',g,d,tk',os⟩) :
 wpAny (model prog w) A (Builtin.«object.__setattr__» ⟨[.ref x,.str name tk,v],[]⟩) Q E ⟨h,g,d,t,os⟩:=by
 obtain⟨bm,N,nmm,qn,bs,sn,sub,ab,col,dd,k0,k1,k2,k3,k5,mN,hC,hN,T⟩:=zCX X I.cl
 have pass:=zDd T (.ref x)
 obtain⟨o,ho⟩:∃o,o=zEY C tt (some dx):=⟨_,rfl⟩
 rw[<-ho] at hx
 have hc:o.cls = .ref C:=by rw[ho];rfl
 have hdn:o.dict=some dx:=by rw[ho];rfl
 have L:=PySem.W.looks_findIn (M:=model prog w) X nm
 unfold Builtin.«object.__setattr__»
 repeat (first | rw[refuse_eq] | (rw[refuseLoop_ref,pass]) | (with_reducible refine zBE hx ?_;rw[hc]) | with_reducible refine wpAny_mroOf_exc hC ?_ | with_reducible refine L.at ?_ | wp_step)
 rw[hdn]
 exact zG (zKy hns hw hz hq)
theorem zGZ {od:Option Addr}{Pr:Heap->Prop}{Q:Unit->Shared->Prop}(X:K.In h)(I:zG5 K C fI)(mo:PySem.W.mroIn K C (.type "object")=some true) (hx:h.get? x=some (zEY C tt od))
 (ent:∀(A':Around)(E':Value->Shared->Prop)(tk:Tok)(t':Nat)(Q':PySem.Fin->Shared->Prop),(∀h' tk',Pr h'->Q' (.done (.ret .none)) ⟨h',g,d,tk',os⟩)->wpAny (model prog w) A' (Builtin.«object.__setattr__» ⟨[.ref x,.str name tk,v],[]⟩) Q' E' ⟨h,g,d,t',os⟩)
 (hq:∀h' tk',Pr h'->Q () ⟨h',g,d,tk',os⟩):wpAny (model prog w) A (setAttr (.ref x) name v) Q E ⟨h,g,d,t,os⟩:=by
 have SF:=PySem.F.store_ValueError
 have f3:=SF.slot.bind (.ref x)
 have L0:=(show zKi h x C from ⟨_,hx,rfl⟩).type (M:=model prog w)
 have L1:=PySem.W.looks_findIn (M:=model prog w) X I.sa
 unfold setAttr callSpecial? specialOf
 repeat (any_goals (first | assumption | with_reducible refine L0.at ?_ | with_reducible refine L1.at ?_ | wp_step))
 refine codeAny_call_builtin SF.slot.plain SF.entry (zH7 X mo hx (ent _ _ _ _ _ fun h' tk' p=>?_))
 repeat (any_goals (first | assumption | wp_step))
 exact hq h' tk' p
end
end L2
namespace L2
open PySem PySem.Spec PyProof.Rows
noncomputable def xO (e C t:Addr)(od:Option Addr):HO:=.ext fun h=>h.get? e=some (zEY C t od)
noncomputable def dO (dx:Addr)(fs:List (Str×V)):HO:=.ext fun h=>∃mA,h.Ns1 dx mA/\(∀f,zEy (fs.lookup f) (mA f))/\PySem.Within mA (fs.map (·.1))
section
variable {P:Program}{w:World}{H:Hp}{h:Heap}{e C t dx:Addr}{od:Option Addr}{fs:List (Str×V)}
theorem xO_ok (hx:h.get? e=some (zEY C t od)):zBM P w H h e (xO e C t od):=⟨hx,⟨_,hx⟩,fun _ _ p k=>k _ p⟩
theorem dO_ok {mA:Str->Option Value}(hn:h.Ns1 dx mA)(r:∀f,zEy (fs.lookup f) (mA f))(wi:PySem.Within mA (fs.map (·.1))):zBM P w H h dx (dO dx fs):=
 ⟨⟨mA,hn,r,wi⟩,let ⟨o,_,_,q,_⟩:=hn;⟨o,q⟩,fun _ _ ⟨m,⟨o,es,ep,q,z⟩,r,wi⟩ k=>⟨m,⟨o,es,ep,k _ q,z⟩,r,wi⟩⟩
theorem HOk.add {a:Addr}{o:HO}(x:HOk P w H h)(hn:H a=none)(new:zBM P w (upd H a o) h a o):HOk P w (upd H a o) h:=fun b u e=>by
 by_cases hb:b=a
 . subst hb;rw[zH] at e;cases e;exact new
 . rw[zX hb] at e
   exact (x b u e).stay (fun c v _ q=>q) (fun c q=>by rw[zX (zi q hn)];exact q) fun c xs q=>by rw[zX (zi q hn)];exact q
theorem zJh {a b:Addr}{o u:HO}(n:a≠b):upd (upd H a o) b u=upd (upd H b u) a o:=by
 funext c
 by_cases h1:c=a
 . subst h1;rw[zH,zX n,zH]
 . by_cases h2:c=b
   . subst h2;rw[zH,zX h1,zH]
   . rw[zX h2,zX h1,zX h1,zX h2]
end
section
variable {X:Cx}{pins:List (Addr×Obj)}{σ:St}{H:Hp}{s:Shared}{A:Around}{E:Value->Shared->Prop}{e C t fI:Addr}{f:Str}{y:V}{u:Value}{Q:Unit->Shared->Prop}
theorem zJu (I:Inv X pins σ H s)(EI:zG5 X.K C fI)(mo:PySem.W.mroIn X.K C (.type "object")=some true) (nm:PySem.W.findIn X.K (.ref C) f=some none)(he:H e=some (xO e C t none))(ry:zBT y u)
 (h:∀dx s',H dx=none->Inv X pins σ (upd (upd H dx (dO dx [(f,y)])) e (xO e C t (some dx))) s'->Q () s'):wpAny (model X.prog X.w) A (setAttr (.ref e) f u) Q E s:=by
 obtain⟨hp,g,d,tk,os⟩:=s
 have hx:hp.get? e=some (zEY C t none):=(I.hok e _ he).1
 refine zGZ (Pr:=fun h'=>h'.get? e=some (zEY C t (some hp.objs.size))/\h'.Ns1 hp.objs.size (fun y=>if y=f then some u else none)/\(∀b o,b≠e->hp.get? b=some o->h'.get? b=some o)) I.kIn EI mo hx
  (fun A' E' tk' t' Q' k=>zHF I.kIn EI nm hx fun h' tk2 a b c=>k h' tk2 ⟨a,b,c⟩) fun h' tk' ⟨a,b,c⟩=>?_
 have hn:H hp.objs.size=none:=I.hok.fresh (zI _)
 have ne:e≠hp.objs.size:=za (zV hx)
 refine h hp.objs.size _ hn ?_
 have mu:Mut ((upd H hp.objs.size (dO hp.objs.size [(f,y)])) e):=by rw[zX ne,he];exact True.intro
 have mu':Mut (H e):=by rw[he];exact True.intro
 refine I.un (h':=h') (t':=tk') ((Un.laid (h':=hp) (fun _ _ q=>q) (zI _) hn).trans (Un.write mu (.inl rfl) c ⟨_,a⟩)) ?_
 rw[zJh (Ne.symm ne)]
 refine HOk.add (I.hok.write mu' (.inl rfl) c ⟨_,a⟩ (xO_ok a)) (by rw[zX (Ne.symm ne)];exact hn) (dO_ok b (fun g=>?_) (fun g hg=>?_))
 . show zEy (List.lookup g [(f,y)]) (if g=f then some u else none)
   by_cases q:g=f
   . subst q;rw[if_pos rfl,List.lookup_cons_self];exact ry
   . rw[if_neg q,zAq,show (g==f)=false from by simpa using q];trivial
 . by_cases q:g=f
   . subst q;exact zd
   . exact absurd (by show (if g=f then some u else none)=none;rw[if_neg q]) hg
theorem zJt {dx:Addr}{fs:List (Str×V)}(I:Inv X pins σ H s)(EI:zG5 X.K C fI)(mo:PySem.W.mroIn X.K C (.type "object")=some true) (nm:PySem.W.findIn X.K (.ref C) f=some none)(he:H e=some (xO e C t (some dx)))(hd:H dx=some (dO dx fs))(hl:fs.length<900)(ry:zBT y u)
 (h:∀s',Inv X pins σ (upd H dx (dO dx (zHl f y fs))) s'->Q () s'):wpAny (model X.prog X.w) A (setAttr (.ref e) f u) Q E s:=by
 obtain⟨hp,g,d,tk,os⟩:=s
 have hx:hp.get? e=some (zEY C t (some dx)):=(I.hok e _ he).1
 obtain⟨mA,hns,r,wi⟩:=(I.hok dx _ hd).1
 refine zGZ (Pr:=fun h'=>h'.Ns1 dx (fun y=>if y=f then some u else mA y)/\(∀b,b≠dx->h'.get? b=hp.get? b)) I.kIn EI mo hx
  (fun A' E' tk' t' Q' k=>zHE I.kIn EI nm hx hns wi (by rw[zB];omega) fun h' tk2 a b=>k h' tk2 ⟨a,b⟩) fun h' tk' ⟨a,b⟩=>?_
 refine h _ ?_
 have mu:Mut (H dx):=by rw[hd];exact True.intro
 refine I.write (x:=dx) (e:=dx) (t':=tk') mu (.inl rfl) (fun b_ u' hb q=>(b b_ hb).trans q) (let ⟨o,_,_,q,_⟩:=a;⟨o,q⟩) (dO_ok a (fun g=>?_) (fun g hg=>?_))
 . show zEy ((zHl f y fs).lookup g) (if g=f then some u else mA g)
   rw[zDk]
   by_cases q:g=f
   . rw[if_pos q,if_pos q];exact ry
   . rw[if_neg q,if_neg q];exact r g
 . by_cases q:g=f
   . rw[q];exact (zDp f y fs).1
   . refine (zDp f y fs).2 g (wi g fun z=>hg ?_)
     show (if g=f then some u else mA g)=none
     rw[if_neg q];exact z
end
end L2
namespace L2
open PySem PySem.Spec PyProof.Rows
noncomputable def sFldX (C:Addr)(f:Str)(ta tv:TE):TS:=fun D σ H=>tv σ H fun y H1=>ta σ H1 fun x H2=>∃e t,x = .ref e /\
 ((H2 e=some (xO e C t none)/\∀dx,H2 dx=none->D.nx σ (upd (upd H2 dx (dO dx [(f,y)])) e (xO e C t (some dx)))) \/
  ∃dx fs,H2 e=some (xO e C t (some dx))/\H2 dx=some (dO dx fs)/\fs.length<900/\D.nx σ (upd H2 dx (dO dx (zHl f y fs))))
section
variable {X:Cx}{o value:Expr}{ta tv:TE}{f:Str}{C fI:Addr}{pos pos':Pos}
theorem zIH (EI:zG5 X.K C fI)(mo:PySem.W.mroIn X.K C (.type "object")=some true) (nm:PySem.W.findIn X.K (.ref C) f=some none)(ha:PE X o ta)(hv:PE X value tv)(hs:swapsWith value (some (.Attribute o f pos')) pos.line X.env=pure false:=by rfl) :
 PS X (.Assign [.Attribute o f pos'] value pos) (sFldX C f ta tv):=by
 intro pins s σ H D I h
 refine plainObj_wpAny_Assign_Attribute (thn (hv pins s σ H _ I h) fun u s1 ⟨y,H1,I1,ry,q⟩=>thn (ha pins s1 σ H1 _ I1 q) fun ov s2 ⟨x,H2,I2,rx,e,t,ex,q2⟩=>?_) hs
 subst ex
 obtain rfl:ov=Value.ref e:=rx
 rcases q2 with ⟨he,q⟩ | ⟨dx,fs,he,hd,hl,q⟩
 . exact zJu I2 EI mo nm he ry fun dx s3 n I3=>⟨σ,_,I3,q dx n⟩
 . exact zJt I2 EI mo nm he hd hl ry fun s3 I3=>⟨σ,_,I3,q⟩
end
noncomputable def spXI (C:Addr)(f1 f2:Str):Sp:=fun vs H Q _=>∃(e t:Addr)(v1 v2:V),vs=[.ref e,v1,v2]/\H e=some (xO e C t none)/\∀dx,H dx=none->dx≠e->Q .non (upd (upd H dx (dO dx [(f1,v1),(f2,v2)])) e (xO e C t (some dx)))
noncomputable def FlyD (B:Heap)(l:List Env)(e:Addr)(C a0:Value)(od:Option Addr)(h:Heap):Prop:=Heap.FlyingW B l e C a0 h/\∃o,h.get? e=some o/\o.dict=od
noncomputable def CXI (P:Program)(w:World):CXT:=fun outer H s E e s'=>
 ∃(ea t:Addr)(C:Value)(od:Option Addr)(H':Hp)(B:Heap),e = .ref ea/\s'.os=s.os/\AllBare s'.gens/\Un (frs outer) [] H H' s.heap s'.heap/\HOk P w H' s'.heap /\
  FlyD B outer ea C (.ref t) od s'.heap/\(∀b u,H' b=some u->∃o,B.get? b=some o)/\(∀b o,s.heap.get? b=some o->H b=none->b∉frs outer->B.get? b=some o)/\(∀b o,s.heap.get? b=some o->b∉frs outer->∃o',B.get? b=some o')/\E C od H'
section
variable {P:Program}{w:World}{K:PySem.W.Frag}{mg:Str->Option Value}{base:Heap}{N:List Str}{qual:Str}{scope:Scope}{f:Addr}{cd:Value}{A:Around}{outer:List Env}{s0 s:Shared}{H0 H:Hp}{E:XK}{pins:List (Addr×Obj)}{σ:St}
theorem zLe {ea t:Addr}{oe:Obj}{C:Value}{vs:Array Value}(I:Inv (zJb (CXI P w) P w K mg base N qual scope f cd A outer s0 H0 E) pins σ H s)(he:s.heap.get? ea=some oe)(hc:oe.cls=C)(hd:oe.data = .fields vs)(h1:vs[1]? = some .none)(h0:vs[0]? = some (.ref t))(hn:H ea=none)(h00:s0.heap.get? ea=none)(hE:E C oe.dict H) :
 (zJb (CXI P w) P w K mg base N qual scope f cd A outer s0 H0 E).xe (.ref ea) s:=by
 subst hc
 let fr:List Addr:=(envOfC qual scope s0.heap.objs.size f cd::outer).filterMap (·.frame)
 have hin:∀env∈(envOfC qual scope s0.heap.objs.size f cd::outer),∀a,env.frame=some a->a∈ea::fr:=fun env he b hb=>zb _ (zA4.mpr ⟨env,he,hb⟩)
 have ff:=PySem.W.funFrames_hide I.stack hin
 have off:ea∉fr:=fun z=>by
  obtain⟨_,o,ho,nd⟩:=I.stack.mem z
  rw[he] at ho
  cases ho
  exact nd vs hd
 refine zAJ (zDS (zHa _ _) (wpAny_leaving_firstW (Q:=fun _ s'=>∃h',s'={ s with heap:=h' }/\Heap.LeftW (PySem.W.hideAll s.heap (ea::fr)) (envOfC qual scope s0.heap.objs.size f cd::outer) ea oe.cls (.ref t) s.heap h') (base:=PySem.W.hideAll s.heap (ea::fr)) I.ok.frames ff rfl he (fun b o q=>PySem.W.of_hideAll _ q) (PySem.W.hideAll_none _ zd) hd h1 h0 fun h' L=>⟨h',rfl,L⟩)) (fun _ s' hq=>?_) fun _ _ z=>z
 obtain⟨⟨h'',rfl,L1,⟨_,_,L2'⟩,L3,up⟩,dk⟩:=hq
 have st:(PySem.W.hideAll s.heap (ea::fr)).StaysIn h'':=L1
 have stk:∀b,b∈fr->b=s0.heap.objs.size\/b∈frs outer:=fun b z=>ze.mp (I.stkSub b z)
 have hid:∀b o,s.heap.get? b=some o->b≠ea->b∉fr->(PySem.W.hideAll s.heap (ea::fr)).get? b=some o:=fun b o q n z=>PySem.W.hideAll_get _ q fun y=>by
  rcases ze.mp y with y | y
  . exact n y
  . exact z y
 have nea:∀b o,s0.heap.get? b=some o->b≠ea:=fun b o q z=>by rw[z,h00] at q;cases q
 have nfr:∀b o,s0.heap.get? b=some o->b∉frs outer->b∉fr:=fun b o q hb z=>by
  rcases stk b z with y | y
  . exact absurd (zV q) (by rw[y];exact Nat.not_lt_of_le (zI _))
  . exact hb y
 have old:∀b o,s0.heap.get? b=some o->H0 b=none->b∉frs outer->(PySem.W.hideAll s.heap (ea::fr)).get? b=some o:=fun b o e n hb=>
  hid b o (I.base.keep b o e n hb (by intro z;cases z)) (nea b o e) (nfr b o e hb)
 have al:∀b o,s0.heap.get? b=some o->b∉frs outer->∃o',(PySem.W.hideAll s.heap (ea::fr)).get? b=some o':=fun b o e hb=>by
  obtain⟨o1,e1⟩:=I.base.there b o e (by intro z;cases z)
  exact⟨o1,hid b o1 e1 (nea b o e) (nfr b o e hb)⟩
 have tr:∀b u,H b=some u->∃o,(PySem.W.hideAll s.heap (ea::fr)).get? b=some o:=fun b u e=>by
  obtain⟨o,ho⟩:=(I.hok b u e).there
  refine⟨o,hid b o ho (fun z=>by rw[z,hn] at e;cases e) fun z=>?_⟩
  have:=I.stkFree b z
  rw[e] at this
  cases this
 obtain⟨o',q',r'⟩:=dk ea oe he
 refine⟨ea,t,oe.cls,oe.dict,H,_,rfl,I.os,I.bare,⟨fun b o e n hb hx'=>st b o (old b o e n hb),fun b o e n hb hx'=>?_,I.base.free,fun b o e hx'=>?_,I.base.tups,I.base.frzs,I.base.tbls⟩,I.hok.stays (fun b o q=>PySem.W.of_hideAll _ q) st tr,⟨⟨L1,PySem.W.hideAll_none _ zd,L2',L3⟩,o',q',r'⟩,tr,old,al,hE⟩
 . obtain⟨sl,e1⟩:=I.base.slot b o e n hb (by intro z;cases z)
   obtain⟨_,o2,e2,nd⟩:=I.stack.mem (show b∈fr from zb _ hb)
   have e3:o2={ o with slots:=sl }:=zP (e2.symm.trans e1)
   obtain⟨sl2,e4⟩:=up b _ e1 (fun vs=>by rw[<-e3];exact nd vs)
   exact⟨sl2,e4⟩
 . obtain⟨o1,e1⟩:=I.base.there b o e (by intro z;cases z)
   by_cases hb:b∈fr
   . obtain⟨_,o2,e2,nd⟩:=I.stack.mem hb
     obtain⟨sl2,e4⟩:=up b _ e2 nd
     exact⟨_,e4⟩
   . exact⟨_,st b _ (hid b o1 e1 (nea b o e) hb)⟩
end
end L2
namespace L2
open PySem PySem.Spec PyProof.Rows
section
variable {P:Program}{w:World}{K:PySem.W.Frag}{mg:Str->Option Value}{base:Heap}{N:List Str}{qual:Str}{scope:Scope}{f:Addr}{cd:Value}{A:Around}{outer:List Env}{s0 s:Shared}{H0 H:Hp}{E:XK}{pins:List (Addr×Obj)}{σ:St}
end
theorem Fun.okI {P:Program}{w:World}{K:PySem.W.Frag}{mg:Str->Option Value}{base:Heap}{x qual:Str}{st:Stmt}{f:Addr}{fd:FuncData}{N ps:List Str}{k:Nat}{sp:Sp}(F:Fun K x qual st f fd)(S:zAB N ps (defScope st))(len:∀vs H Q E,sp vs H Q E->vs.length=ps.length)
 (hbody:∀(cdv:Value)(A:Around)(outer:List Env)(s:Shared)(H:Hp)(vs:List V)(Q:VK)(E:XK),zCq k (A.deeper (envOfC qual (defScope st) s.heap.objs.size f cdv))->sp vs H Q E ->
  ∃t,PSs (zJb (CXI P w) P w K mg base N qual (defScope st) f cdv A outer s H E) (defBody st) t/\t { nx:=fun _ H'=>Q .non H',rt:=Q } (start N vs) H):zAb P w K mg base (CXI P w) (k+1) f fd ps sp:=by
 obtain⟨oc,od,kV,doc,pm,an,cdv,ct,osl,rfl,lk,hcd⟩:=F.ex
 exact zMU lk hcd S len fun A outer s H vs Q E hr hsp=>hbody cdv A outer s H vs Q E hr hsp
noncomputable def zMR (e:Addr)(H:Hp):Hp:=fun b=>if b=e then none else H b
theorem zCJ {e b:Addr}{H:Hp}(n:b≠e):zMR e H b=H b:=by unfold zMR;rw[if_neg n]
theorem zCv {e:Addr}{H:Hp}:zMR e H e=none:=by unfold zMR;rw[if_pos rfl]
section
variable {X:Cx}{pins:List (Addr×Obj)}{σ:St}{H:Hp}{s:Shared}{e:Addr}{φ:Heap->Prop}
theorem Inv.drop (I:Inv X pins σ H s)(he:H e=some (.ext φ)):Inv X pins σ (zMR e H) s:=by
 have nt:∀b xs,H b=some (.tup xs)->b≠e:=fun b xs q z=>by rw[z,he] at q;cases q
 have no:∀b y,H b=some (.own y)->b≠e:=fun b y q z=>by rw[z,he] at q;cases q
 refine⟨I.ok,I.os,I.bare,⟨I.base.keep,I.base.slot,fun b o q n hx=>?_,I.base.there,fun b xs q=>by rw[zCJ (nt b xs (I.base.tups b xs q))];exact I.base.tups b xs q,fun b o u q=>?_,fun b ps q=>?_⟩,I.loc,I.cell,?_,fun x c q=>?_,fun p hp=>?_,fun b o q=>?_,I.len⟩
 . by_cases z:b=e
   . subst z;exact zCv
   . rw[zCJ z];exact I.base.free b o q n hx
 . have r:=I.base.frzs b o u q
   rw[zCJ (fun z=>by rw[z,he] at r;cases r)];exact r
 . obtain⟨m,r⟩:=I.base.tbls b ps q
   exact⟨m,by rw[zCJ (fun z=>by rw[z,he] at r;cases r)];exact r⟩
 . by_cases z:X.env.locals=e
   . rw[z];exact zCv
   . rw[zCJ z];exact I.free
 . by_cases z:c=e
   . subst z;exact zCv
   . rw[zCJ z];exact I.freeC x c q
 . obtain⟨a,b,r⟩:=I.pin p hp
   refine⟨a,?_,r⟩
   by_cases z:p.1=e
   . rw[z];exact zCv
   . rw[zCJ z];exact b
 . have z:b≠e:=fun z=>by rw[z,zCv] at q;cases q
   rw[zCJ z] at q
   exact (I.hok b o q).stay (fun _ _ _ r=>r) (fun c r=>by rw[zCJ (no c _ r)];exact r) fun c xs r=>by rw[zCJ (nt c xs r)];exact r
theorem zLf {M:Model}{A:Around}{E:Value->Shared->Prop}{env:Env}{K:PySem.W.Frag}{C tt:Addr}{od:Option Addr}{y:Sem Value}{Q:Flow->Shared->Prop}(q:excI K C=true)(hh:A.handled=none)
 (h:wpAny M A y (fun v s1=>∃e,v = .ref e/\K.In s1.heap/\(∃tt od,s1.heap.get? e=some (zEY C tt od))/\E (.ref e) s1) E s):wpAny M A (raiseStmt env (some y) none) Q E s:=by
 unfold raiseStmt
 refine zA (zAJ h (fun v s1 hv=>?_) fun _ _ z=>z)
 obtain⟨e,rfl,X1,⟨tt,od,he⟩,hE⟩:=hv
 obtain⟨bm,N,nm,qn,bs,sn,sub,ab,col,dd,k0,k1,k2,k3,k5,mN,hC,hN,T⟩:=zCX X1 q
 have hcB:(Value.ref C::bm).contains (.type "BaseException")=true:=by rw[List.contains_cons,T.hasType (X := "BaseException") (b:=true) (by rfl),Bool.or_true]
 obtain⟨hp,g,d,tk,os⟩:=s1
 have he':hp.get? e=some { cls:=.ref C,dict:=od,data:=.fields #[.ref tt,.none,.none,.none,.bool false,.none] }:=he
 repeat (first | with_reducible refine zBE he' ?_ | with_reducible refine zBE hC ?_ | (with_reducible refine wpAny_isSubtype_exc hC ?_;rw[hcB]) | wp_step)
 exact wpAny_raiseNew_none hh hE
theorem Inv.madeX {C:Addr}{us:List Value}{vs:List V}(I:Inv X pins σ H s)(r:zBJ vs us)(hz:vs.length<=sizeLine) :
 Inv X pins σ (upd (upd H s.heap.objs.size (.tup vs)) (s.heap.objs.size+1) (xO (s.heap.objs.size+1) C s.heap.objs.size none)) { s with heap:=zKR s.heap C us }:=by
 have e1:(s.heap.push (xTup us)).get? s.heap.objs.size=some (xTup us):=Heap.get?_push_at rfl rfl
 have I1:=I.laid (a:=s.heap.objs.size) (o:=.tup vs) (h':=s.heap.push (xTup us)) (t':=s.toks) (fun b u q=>zF _ q) (zI _) ⟨⟨hz,_,e1,rfl⟩,us,r,⟨_,e1,rfl,_,rfl⟩⟩
 exact I1.laid (a:=s.heap.objs.size+1) (t':=s.toks) (h':=zKR s.heap C us) (fun b u q=>zF _ q) (Nat.le_of_eq (zAj _ _)) (xO_ok (zK8 s.heap C us))
noncomputable def zLG (C:Addr)(f1 f2:Str)(t:TA)(E:XK):TS:=fun _ σ H=>t σ H fun vs H1=>∃v1 v2,vs=[v1,v2]/\∀tt dx,H1 tt=none->H1 dx=none->tt≠dx->E (.ref C) (some dx) (upd (upd H1 tt (.tup [v1,v2])) dx (dO dx [(f1,v1),(f2,v2)]))
theorem zIG {x f1 f2:Str}{ps:List Str}{C fI:Addr}{fd:FuncData}{k:Nat}{e1 e2:Expr}{t:TA}{E:XK}{np cpos pos:Pos}(hg:Gl X x)(hm:X.mg x=some (.ref C))(EI:zG5 X.K C fI)(hc:X.calm=true)(F:zAb X.prog X.w X.K X.mg X.base CX0 k fI fd ps (spXI C f1 f2))(hr:zCq (k+1) X.A)(hb:zAA X.K fd ps [])(ha:PA X [e1,e2] t)
 (hxe:∀(pins:List (Addr×Obj))(σ:St)(H:Hp)(s:Shared)(ea tt dx:Addr),Inv X pins σ H s->s.heap.get? ea=some (zEY C tt (some dx))->H ea=none->X.s₀.heap.get? ea=none->E (.ref C) (some dx) H->X.xe (.ref ea) s)
 (hd:(x==("__debug__" : Str))=false:=by decide) (hs:starEach [e1,e2] X.env=(false,eval e1 X.env)::starEach [e2] X.env:=by rfl)(hpl:(backTo cpos (starEach [e2] X.env)).any (·.1)=false:=by rfl) :
 PS X (.Raise (some (.Call (.Name x np) [e1,e2] [] cpos)) none pos) (zLG C f1 f2 t E):=by
 intro pins s σ H D I h
 rw[arm_exec_Raise]
 refine zA (zBq ?_)
 show wpAny _ _ (raiseStmt X.env (some (do let v <-eval (.Call (.Name x np) [e1,e2] [] cpos) X.env;standAt pos;pure v)) none) _ _ _
 refine zLf (tt:=0) (od:=none) EI.cl (I.ok.hd hc) (zA (zAJ (Q:=fun v s1=>∃e,v = .ref e/\X.K.In s1.heap/\(∃tt od,s1.heap.get? e=some (zEY C tt od))/\X.xe (.ref e) s1) (E:=X.xe) ?main (fun v s3 h3=>zA (zBq (zG h3))) fun _ _ z=>z))
 case main=>
  refine zA2 (zDn I hg hm ?_ hd)
  refine PySem.W.callWith_K (h₀:=X.base) I.ok.mod.kin EI.kp (zAJ (ha cpos pins s σ H _ I h) (fun us s1 ⟨vs,H1,I1,r,q⟩=>⟨I1.kIn,?_⟩) fun _ _ z=>z) hs hpl
  obtain⟨v1,v2,rfl,q⟩:=q
  have hz:us.length<=sizeLine:=by rw[<-r.length];show 2<=sizeLine;decide
  have I2:=Inv.madeX (C:=C) I1 r (show 2<=sizeLine by decide)
  have r2:zBJ (V.ref (s1.heap.objs.size+1)::[v1,v2]) (Value.ref (s1.heap.objs.size+1)::us):=.cons rfl r
  have n1:H1 s1.heap.objs.size=none:=I1.hok.fresh (zI _)
  have n2:H1 (s1.heap.objs.size+1)=none:=I1.hok.fresh (zA3 _)
  have s00:X.s₀.heap.get? (s1.heap.objs.size+1)=none:=Heap.get?_none_of_le (zAE I1.sz (zA3 _))
  refine zJM (h:=s1.heap) I1.kIn EI hz ?_
  have ne:s1.heap.objs.size≠s1.heap.objs.size+1:=za (Nat.lt_succ_self _)
  have hsp:spXI C f1 f2 (V.ref (s1.heap.objs.size+1)::[v1,v2]) (upd (upd H1 s1.heap.objs.size (.tup [v1,v2])) (s1.heap.objs.size+1) (xO (s1.heap.objs.size+1) C s1.heap.objs.size none))
   (fun v H2=>v = .non/\∃dx,H2 (s1.heap.objs.size+1)=some (xO (s1.heap.objs.size+1) C s1.heap.objs.size (some dx))/\E (.ref C) (some dx) (zMR (s1.heap.objs.size+1) H2)) (fun _ _ _=>False):=by
   refine⟨_,_,v1,v2,rfl,zH,fun dx hdx nd=>⟨rfl,dx,zH,?_⟩⟩
   rw[zX nd] at hdx
   have nt:s1.heap.objs.size≠dx:=fun z=>by rw[<-z,zH] at hdx;cases hdx
   have hdx1:H1 dx=none:=by rw[zX (Ne.symm nt)] at hdx;exact hdx
   have eq:zMR (s1.heap.objs.size+1) (upd (upd (upd (upd H1 s1.heap.objs.size (.tup [v1,v2])) (s1.heap.objs.size+1) (xO (s1.heap.objs.size+1) C s1.heap.objs.size none)) dx (dO dx [(f1,v1),(f2,v2)])) (s1.heap.objs.size+1) (xO (s1.heap.objs.size+1) C s1.heap.objs.size (some dx)))
    = upd (upd H1 s1.heap.objs.size (.tup [v1,v2])) dx (dO dx [(f1,v1),(f2,v2)]):=by
    funext b
    by_cases hb:b=s1.heap.objs.size+1
    . subst hb
      rw[zCv,zX (Ne.symm nd),zX (Ne.symm ne)];exact n2.symm
    . rw[zCJ hb,zX hb]
      by_cases hb2:b=dx
      . subst hb2;rw[zH,zH]
      . rw[zX hb2,zX hb,zX hb2]
   rw[eq]
   exact q _ dx n1 hdx1 nt
  have hl:(Value.ref (s1.heap.objs.size+1)::us).length=ps.length:=by rw[<-r2.length];exact F.len _ _ _ _ hsp
  refine zBg (codeAny_mono (F.run _ X.stack _ _ ⟨Value.ref (s1.heap.objs.size+1)::us,[]⟩ (Value.ref (s1.heap.objs.size+1)::us) _ _ (fun _ _ _=>False) (hr.make C us []) (I2.env0.make C us [])
   (by have:=hb _ (Value.ref (s1.heap.objs.size+1)::us) I2.kIn (by rw[zo];exact hl);rw[zo] at this;exact this) r2 hsp) fun r s' hq'=>?_)
  cases r with
  | error e=>exact False.elim hq'
  | ok fl=>
   cases fl with
   | ret u=>
    obtain⟨v,H',I3,rv,ev,dx,hx,hE⟩:=I2.after hq'
    subst ev
    refine⟨rv,_,rfl,I3.kIn,⟨_,_,(I3.hok _ _ hx).1⟩,?_⟩
    exact hxe pins σ _ s' _ _ dx (I3.drop hx) (I3.hok _ _ hx).1 zCv s00 hE
   | next=>exact False.elim hq'
   | brk=>exact False.elim hq'
   | cont=>exact False.elim hq'
end
end L2
namespace L2
open PySem PySem.Spec PyProof.Rows
section
variable {prog:Program}{w:World}{A:Around}{E:Value->Shared->Prop}{h:Heap}{g:Array GenState}{d:Drawn}{t:Nat}{os:OsState}{K:PySem.W.Frag}{C x dx:Addr}{o:Obj}{name:Str}{v:Value}{mA:Str->Option Value}
end
end L2
namespace L2
open PySem PySem.Spec PyProof.Rows
noncomputable def zDC (e:Addr)(od:Option Addr)(h:Heap):Prop:=∃o,h.get? e=some o/\o.dict=od
theorem zDC.step {e:Addr}{od:Option Addr}{h h':Heap}(x:zDC e od h)(k:DK h h'):zDC e od h':=by
 obtain⟨o,q,r⟩:=x
 obtain⟨o',q',r'⟩:=k e o q
 exact⟨o',q',r'.trans r⟩
section
variable {M:Model}{A:Around}{E:Value->Shared->Prop}{s:Shared}{base:Heap}{env:Env}{outer l:List Env}{L e:Addr}{cls a0:Value}{od:Option Addr}{Q:Unit->Shared->Prop}
theorem zIe (hfr:A.frames=some (env::outer))(hf:env.frame=some L)(hfl:Heap.FlyingW base (env::outer) e cls a0 s.heap)(hd:zDC e od s.heap)
 (hQ:∀h',Heap.HeldW base (env::outer) e cls a0 L h'->s.heap.UpToSlots h'->zDC e od h'->Q () { s with heap:=h' }):wpAny M A (noteFrame (.ref e) env) Q E s:=by
 refine zAJ (zDS (zIk _ _) (wpAny_looks_onW (Q:=fun _ s2=>∃h',s2={ s with heap:=h' }/\Heap.HeldW base (env::outer) e cls a0 L h'/\s.heap.UpToSlots h') hfr hf hfl fun h' a b=>⟨h',rfl,a,b⟩)) (fun _ s2 hq=>?_) fun _ _ z=>z
 obtain⟨⟨h',rfl,a,b⟩,k⟩:=hq
 exact hQ h' a b (hd.step k)
theorem landsD (hh:Heap.HeldW base l e cls a0 L s.heap)(hd:zDC e od s.heap)
 (hQ:∀h',Heap.FlyingW base l e cls a0 h'->s.heap.UpToSlots h'->zDC e od h'->Q () { s with heap:=h' }):wpAny M A (setFlight (.ref e) none) Q E s:=by
 refine zAJ (zDS (zCf _ _) (wpAny_landsW (Q:=fun _ s2=>∃h',s2={ s with heap:=h' }/\Heap.FlyingW base l e cls a0 h'/\s.heap.UpToSlots h') hh fun h' a b=>⟨h',rfl,a,b⟩)) (fun _ s2 hq=>?_) fun _ _ z=>z
 obtain⟨⟨h',rfl,a,b⟩,k⟩:=hq
 exact hQ h' a b (hd.step k)
theorem againD (hh:Heap.FlyingW base l e cls a0 s.heap)(hd:zDC e od s.heap)
 (hQ:∀h',Heap.FlyingW base l e cls a0 h'->s.heap.UpToSlots h'->zDC e od h'->Q () { s with heap:=h' }):wpAny M A (setFlight (.ref e) none) Q E s:=by
 refine zAJ (zDS (zCf _ _) (lands_againW (Q:=fun _ s2=>∃h',s2={ s with heap:=h' }/\Heap.FlyingW base l e cls a0 h'/\s.heap.UpToSlots h') hh fun h' a b=>⟨h',rfl,a,b⟩)) (fun _ s2 hq=>?_) fun _ _ z=>z
 obtain⟨⟨h',rfl,a,b⟩,k⟩:=hq
 exact hQ h' a b (hd.step k)
end
noncomputable def zLA (K:PySem.W.Frag)(C:Addr):Bool:=excI K C || PySem.W.excIn K C bmV "ValueError.__new__"
theorem zKV {K:PySem.W.Frag}{h:Heap}{C:Addr}(X:K.In h)(q:zLA K C=true) :
 ∃bm N nm qn bs hdct sn sub ab col dd k0 k1 k2 k3 k5,h.get? C=some (excClassObj nm qn C N bs bm hdct sn sub ab col dd k0 k1 k2 k3 k5 "ValueError.__new__"):=by
 unfold zLA at q
 rcases Bool.or_eq_true _ _ ▸ q with q | q
 . obtain⟨bm,N,nm,qn,bs,sn,sub,ab,col,dd,k0,k1,k2,k3,k5,mN,hC,_⟩:=zCX X q
   exact⟨_,_,_,_,_,_,_,_,_,_,_,_,_,_,_,_,hC⟩
 . obtain⟨bm,N,nm,qn,bs,hdct,sn,sub,ab,col,dd,k0,k1,k2,k3,k5,mN,hC,_⟩:=zI1 X q
   exact⟨_,_,_,_,_,_,_,_,_,_,_,_,_,_,_,_,hC⟩
noncomputable def PXI (X:Cx)(body:List Stmt)(tb:XK->TS):Prop:=∀(pins:List (Addr×Obj))(s:Shared)(σ:St)(H:Hp)(D:zHn)(E1:XK),Inv X pins σ H s->tb E1 D σ H ->
 wpAny (model X.prog X.w) X.A (execs body X.env) (SP X pins D) (fun e s'=>∃H1 s1,Inv X pins σ H1 s1/\CXI X.prog X.w X.stack H1 s1 E1 e s') s
section
variable {X:Cx}{k:Nat}{f:Addr}{fd:FuncData}{ps:List Str}{sp:Sp}{x:Str}{p pos epos:Pos}{e:Expr}{es:List Expr}{t:TA}
theorem zMZ {pins:List (Addr×Obj)}{s:Shared}{σ:St}{H:Hp}{Q:VK}{E1:XK}(F:zAb X.prog X.w X.K X.mg X.base (CXI X.prog X.w) k f fd ps sp)(hr:zCq k X.A)(hg:Gl X x)(hm:X.mg x=some (.ref f))(hk:PySem.W.keepIn X.K (.ref f)=true)(hb:zAA X.K fd ps [])
 (ha:PA X.nox (e::es) t)(I:Inv X pins σ H s)(h:t σ H fun vs H1=>sp vs H1 Q E1)(hdb:(x==("__debug__" : Str))=false:=by decide) (he:starEach (e::es) X.env=(false,eval e X.env)::starEach es X.env:=by rfl)(hpl:(backTo pos (starEach es X.env)).any (·.1)=false:=by rfl) :
 wpAny (model X.prog X.w) X.A (eval (.Call (.Name x p) (e::es) [] pos) X.env) (EP X pins σ Q) (fun e s'=>∃H1 s1,Inv X pins σ H1 s1/\CXI X.prog X.w X.stack H1 s1 E1 e s') s:=by
 refine zA2 (zDn I hg hm ?_ hdb)
 refine PySem.W.callWith_K (h₀:=X.base) I.ok.mod.kin hk (zAJ (ha pos pins s σ H _ (I.wish _) h) (fun us s1 ⟨vs,H1,I1,r,q⟩=>⟨I1.unwish.kIn,?_⟩) fun _ _ z=>False.elim z) he hpl
 have I2:=I1.unwish
 have hl:us.length=ps.length:=by rw[<-r.length];exact F.len _ _ _ _ q
 refine zBg (codeAny_mono (F.run X.A X.stack s1 H1 ⟨us,[]⟩ us vs Q E1 hr I2.env0 (by have:=hb s1 us I2.kIn (by rw[zo];exact hl);rw[zo] at this;exact this) r q) fun r s' hq=>?_)
 cases r with
 | error e=>exact⟨H1,s1,I2,hq⟩
 | ok fl=>
  cases fl with
  | ret u=>exact I2.after hq
  | next=>exact False.elim hq
  | brk=>exact False.elim hq
  | cont=>exact False.elim hq
end
end L2
namespace L2
open PySem PySem.Spec PyProof.Rows
section
variable {X:Cx}{k:Nat}{f:Addr}{fd:FuncData}{ps:List Str}{sp:Addr->Addr->Sp}{x:Str}{p pos:Pos}{e:Expr}{es:List Expr}{t:TA}{ea:Addr}{oe:Obj}
end
end L2
namespace L2
open PySem PySem.Spec PyProof.Rows
theorem zI2 {K:PySem.W.Frag}{h:Heap}{C:Addr}(X:K.In h)(q:zLA K C=true) :
 ∃bm N nm qn bs hdct sn sub ab col dd k0 k1 k2 k3 k5,h.get? C=some (excClassObj nm qn C N bs bm hdct sn sub ab col dd k0 k1 k2 k3 k5 "ValueError.__new__")/\OwnTail h bmV bm:=by
 unfold zLA at q
 rcases Bool.or_eq_true _ _ ▸ q with q | q
 . obtain⟨bm,N,nm,qn,bs,sn,sub,ab,col,dd,k0,k1,k2,k3,k5,mN,hC,_,T⟩:=zCX X q
   exact⟨_,_,_,_,_,_,_,_,_,_,_,_,_,_,_,_,hC,T⟩
 . obtain⟨bm,N,nm,qn,bs,hdct,sn,sub,ab,col,dd,k0,k1,k2,k3,k5,mN,hC,_,_,T⟩:=zI1 X q
   exact⟨_,_,_,_,_,_,_,_,_,_,_,_,_,_,_,_,hC,T⟩
noncomputable def EHN (K:PySem.W.Frag)(W:Addr)(ts:TS)(D:zHn)(σ:St):XK:=fun C _ H'=>∃Ca,C = .ref Ca/\zLA K Ca=true/\subIn K Ca W=true/\ts D σ H'
noncomputable def tTryN (K:PySem.W.Frag)(W:Addr)(tb:XK->TS)(ts:TS):TS:=fun D σ H=>tb (EHN K W ts D σ) D σ H
theorem zLi {X:Cx}{body:List Stmt}{x:Str}{b0:Stmt}{suite:List Stmt}{pos hpos np:Pos}{W:Addr}{tb:XK->TS}{ts:TS}
 (hst:X.stack=X.env::X.outer)(hfl:X.env.frame=some X.env.locals)(hg:Gl X x)(hm:X.mg x=some (.ref W))(qW:zLA X.K W=true)
 (hb:PXI X body tb)(hs:∀(ea:Addr)(oe:Obj),PSs (X.held ea oe) (b0::suite) ts)(hd:(x==("__debug__" : Str))=false:=by decide) :
 PS X (.Try body [.ExceptHandler (some (.Name x np)) none (b0::suite) hpos] [] [] pos) (tTryN X.K W tb ts):=by
 intro pins s σ H D I h
 refine wpAny_Try_except (zAJ (hb pins s σ H D _ I h) (fun fl s' hq=>?_) fun e s' hq=>?_)
 . cases fl with
   | next=>exact wpAny_execs_nil hq
   | brk=>exact hq
   | cont=>exact hq
   | ret u=>exact hq
 . obtain⟨H1,s1,I1,ea,t,C,od,H',B,rfl,os,bare,un,hok,⟨fl,fd⟩,tr,old,al,Ca,rfl,qC,sub,hts⟩:=hq
   have hfr:X.A.frames=some (X.env::X.outer):=by rw[<-hst];exact I.ok.frames
   have fl':=fl
   rw[hst] at fl'
   have hHe:H' ea=none:=by
    cases z:H' ea with
    | none=>rfl
    | some u=>
     obtain⟨o,ho⟩:=tr ea u z
     rw[fl.2.1] at ho;cases ho
   refine zIe hfr hfl fl' fd fun h4 held up4 d4=>?_
   refine landsD held d4 fun h5 fl5 up5 d5=>?_
   have key:∀(h6:Heap),Heap.FlyingW B (X.env::X.outer) ea (.ref Ca) (.ref t) h6->s'.heap.UpToSlots h6->∃oe,h6.get? ea=some oe/\oe.cls = .ref Ca/\Inv (X.held ea oe) pins σ H' { s' with heap:=h6 }:=fun h6 fl6 up6=>by
    obtain⟨oe,ws,hoe,hc,hdt,_⟩:=fl6.first
    have un6:Un (frs X.stack) [] H1 H' s1.heap h6:=zIg un fl old al fl6.1 up6
    have I6:Inv X pins σ H' { s' with heap:=h6 }:=I1.call' (s':={ s' with heap:=h6 }) os un6 (hok.stays fl.1 fl6.1 tr) bare (fun b z=>absurd z (by simp))
    have nfr:ea∉frs X.stack:=fun z=>by
     rw[hst] at z
     obtain⟨_,o,ho,nd⟩:=fl6.2.2.1.mem z
     rw[hoe] at ho
     cases ho
     exact nd ws hdt
    have hfs:frs X.stack=X.env.locals::X.fs:=by
     rw[hst]
     unfold frs
     rw[List.filterMap_cons,hfl]
     rfl
    rw[hfs] at nfr
    exact⟨oe,hoe,hc,I6.hold hoe hHe (fun z=>nfr (z ▸ zd)) (fun z=>nfr (zb _ z)) (fun v z=>by rw[hdt] at z;cases z)⟩
   obtain⟨oe5,hoe5,hc5,I5⟩:=key h5 fl5 (up4.trans up5)
   refine wpAny_handleBy_cons (codeAny_handlers_test (zDn (X:=X.held ea oe5) I5 hg hm ?_ hd)) (by intro q;cases q)
   obtain⟨bm,Nn,nm,qn,bs,hdct,sn,sb,ab,col,dd,k0,k1,k2,k3,k5,hC⟩:=zKV I5.kIn qC
   obtain⟨bm',Nn',nm',qn',bs',hdct',sn',sb',ab',col',dd',k0',k1',k2',k3',k5',hW,TW⟩:=zI2 I5.kIn qW
   refine zHS hC hW hoe5 hc5 (TW.hasType (by rfl)) (sub_of I5.kIn sub hC) ?_
   refine codeAny_handlers_suite (againD fl5 d5 fun h6 fl6 up6 d6=>?_)
   obtain⟨oe6,hoe6,hc6,I6⟩:=key h6 fl6 ((up4.trans up5).trans up6)
   refine zAJ (hs ea oe6 pins _ _ H' D I6 hts) (fun f s8 hq=>?_) fun _ _ z=>z.elim
   cases f with
   | next=>
    obtain⟨σ',H2,J,q⟩:=hq
    exact⟨_,H2,Inv.letgo I.ok J,q⟩
   | brk=>
    obtain⟨σ',H2,J,q⟩:=hq
    exact⟨_,H2,Inv.letgo I.ok J,q⟩
   | cont=>
    obtain⟨σ',H2,J,q⟩:=hq
    exact⟨_,H2,Inv.letgo I.ok J,q⟩
   | ret u=>
    obtain⟨v,σ',H2,J,r,q⟩:=hq
    exact⟨v,_,H2,Inv.letgo I.ok J,r,q⟩
section
variable {X:Cx}
end
section
variable {X:Cx}{k:Nat}{f:Addr}{fd:FuncData}{ps:List Str}{sp:Sp}{x y:Str}{p pos epos pos' cpos:Pos}{e b:Expr}{es:List Expr}{t:TA}{i:Nat}
theorem zJ5 {tb:TE}(hN:X.N.Nodup)(hi:X.N[i]? = some y)(hx:Loc X.env.scope y)(F:zAb X.prog X.w X.K X.mg X.base (CXI X.prog X.w) k f fd ps sp)(hr:zCq k X.A)(hg:Gl X x)(hm:X.mg x=some (.ref f))(hk:PySem.W.keepIn X.K (.ref f)=true)(hb:zAA X.K fd ps [])
 (ha:PA X.nox (e::es) t)(hv:PE X.nox b tb)(hs:swapsWith (.Compare (.Call (.Name x p) (e::es) [] pos) [.Is] [b] cpos) (some (.Name y pos')) epos.line X.env=pure false:=by rfl)(hf:X.fn y=true\/X.env.scope.names.lookup y=some .local:=by first | exact .inl rfl | exact .inr rfl | assumption)(hdb:(x==("__debug__" : Str))=false:=by decide) (he:starEach (e::es) X.env=(false,eval e X.env)::starEach es X.env:=by rfl)(hpl:(backTo pos (starEach es X.env)).any (·.1)=false:=by rfl) :
 PXI X [.Assign [.Name y pos'] (.Compare (.Call (.Name x p) (e::es) [] pos) [.Is] [b] cpos) epos] (fun E1 D σ H=>t σ H fun vs H1=>sp vs H1 (fun v H2=>tb σ H2 fun u H3=>∃c d,v = .bl c/\u = .bl d/\D.nx (σ.set i (some (.bl (c==d)))) H3) E1):=by
 intro pins s σ H D E1 I h
 refine wpAny_execs_cons (wpAny_Assign_Name (wpAny_Compare1 (zAJ (zMZ F hr hg hm hk hb ha I h hdb he hpl) (fun v s1 ⟨z,H1,I1,r1,q1⟩=>?_) fun _ _ z=>z) (zAa _)) hs)
 refine zAJ (hv pins s1 σ H1 _ (I1.wish _) q1) (fun u s2 ⟨z2,H2,I2,r2,c,d,e1,e2,q2⟩=>?_) fun _ _ z=>False.elim z
 subst e1 e2
 cases r1;cases r2
 refine PyProof.Rows.is_bool ?_
 exact zCy I2.unwish hN hi hx (v:=.bl (c==d)) rfl (fun s3 I3=>wpAny_execs_nil ⟨_,H2,I3,q2⟩) hf
end
end L2
namespace L2
open PySem PySem.Spec PyProof.Rows
section
variable {X:Cx}{pins:List (Addr×Obj)}{σ:St}{H:Hp}{s:Shared}
theorem Inv.off {a:Addr}{h':Heap}{t':Nat}(I:Inv X pins σ H s)(f:zDE X pins H a)(k:∀b o,b≠a->s.heap.get? b=some o->h'.get? b=some o):Inv X pins σ H { s with heap:=h',toks:=t' }:=by
 obtain⟨f1,f2,f3,f4,f5,f6⟩:=f
 refine I.step (g':=s.gens) (d':=s.drawn) (ch:=[a]) (fun b hb=>?_) (fun b o _ _ hb e _=>k b o (fun z=>hb (by rw[z];exact zd)) e) (fun b o _ _ hb e _=>⟨o.slots,k b o (fun z=>hb (by rw[z];exact zd)) e⟩) (fun _ _ _ _ n=>n) (fun b o hb e=>⟨o,k b o (fun z=>hb (by rw[z];exact zd)) e⟩) (fun _ _ e=>e) (fun _ _ _ e=>e) (fun b ps e=>⟨#[],by rw[e];simp⟩) (fun m hm=>?_) (fun b u e=>?_) I.bare
 . obtain rfl:b=a:=zk.mp hb
   exact⟨f4,f2,f5,f6⟩
 . obtain⟨o,es,ep,e,z⟩:=hm
   exact⟨o,es,ep,k _ _ (Ne.symm f2) e,z⟩
 . have nb:∀c u,H c=some u->c≠a:=fun c u q z=>by rw[z,f1] at q;cases q
   refine (I.hok b u e).stay (fun x v hx z=>k x v ?_ z) (fun _ z=>z) fun _ _ z=>z
   rcases hx with z1 | z1
   . rw[z1];exact nb _ _ e
   . exact nb _ _ z1
noncomputable def zGG (X:Cx)(A:Around)(N':List Str)(q:Str)(scope:Scope)(f:Addr)(cd:Value)(s3:Shared)(H3:Hp):Cx where
 prog:=X.prog
 w:=X.w
 K:=X.K
 mg:=X.mg
 base:=X.base
 A:=A.deeper (PySem.W.envX q scope s3.heap.objs.size f cd (zCQ X.env.cells scope.names []))
 N:=N'
 s₀:=s3
 H₀:=H3
 env:=PySem.W.envX q scope s3.heap.objs.size f cd (zCQ X.env.cells scope.names [])
 outer:=X.stack
 stack:=PySem.W.envX q scope s3.heap.objs.size f cd (zCQ X.env.cells scope.names [])::X.stack
 ex:=[]
 fn:=fun _=>false
 calm:=true
 pn:=[]
 xe:=fun _ _=>False
variable {A:Around}{q pn:Str}{scope:Scope}{f:Addr}{cd:Value}{cn:List Str}{ci:List Nat}{cv:List V}{v:V}{u:Value}
theorem zMJ {h1:Heap}{t:Nat}(I:Inv X pins σ H s)(hh:A.handled=none)(hfr:A.frames=some X.stack)(S:zCr X scope)(hpn:scope.names.lookup pn=some .local)(hc:zDD X scope cn ci)(hv:ci.map (fun j=>σ[j]?)=cv.map fun v=>some (some v))(hl:cn.length=ci.length)
 (rv:zBT v u)(hns:h1.Ns s.heap.objs.size (fun x=>if x=pn then some u else none))(hk:∀b o,s.heap.get? b=some o->h1.get? b=some o) :
 Inv (zGG X A (pn::cn) q scope f cd s H) [] (some v::cv.map some) H { s with heap:=h1,toks:=t }:=by
 have lenv:cv.length=ci.length:=by
  have:=congrArg List.length hv
  simpa using this.symm
 have noA:∀b:Addr,b∉(zGG X A (pn::cn) q scope f cd s H).ex:=fun b z=>absurd (show b∈([]:List Addr) from z) (by simp)
 have has:∀x,scope.names.lookup x=some .free->∃c,(zCQ X.env.cells scope.names []).lookup x=some c:=fun x h=>zCY (I.ok.has x (.inl (S.free _ (PySem.mem_of_lookup h) rfl))) scope.names [] (PySem.mem_of_lookup h)
 refine⟨⟨I.ok.mod,S.kind,rfl,rfl,zI _,fun x y c h1 h2=>I.ok.inj x y c (zB0 h1) (zB0 h2),fun x h=>?_,(fun x c z=>by cases z),fun _=>hh,Around.frames_deeper hfr,.inr ⟨rfl,rfl⟩,fun b z=>absurd z (noA b),I.bs,zAE I.ok.bsz I.sz,fun b _ _=>noA b,fun b z=>absurd z (noA b),I.stack,I.stkFree⟩,
  rfl,I.bare,Un.kept hk,⟨_,hns,fun i x y e1 e2 e3=>?_⟩,fun x c e=>?_,I.hok.fresh (zI _),fun x c e=>I.freeC x c (zB0 e),fun p hp=>absurd (show p∈([]:List (Addr×Obj)) from hp) (by simp),I.hok.kept hk,?_⟩
 . rcases (show scope.names.lookup x=some .cell\/scope.names.lookup x=some .free from h) with z | z
   . exact absurd rfl (S.nocell _ (PySem.mem_of_lookup z))
   . exact has x z
 . cases i with
   | zero=>
    obtain rfl:pn=x:=by simpa [zGG] using e1
    obtain rfl:v=y:=by simpa using e2
    exact⟨u,rv,.inl ⟨hpn,by show (if pn=pn then some u else none)=some u;rw[if_pos rfl]⟩⟩
   | succ i=>
    have e1':cn[i]? = some x:=by simpa [zGG] using e1
    rw[List.getElem?_cons_succ,zJ] at e2
    obtain⟨j,hj,hNj,hkx,hfree⟩:=hc.get e1'
    have hcv:cv[i]? = some y:=by
     cases z:cv[i]? with
     | none=>rw[z] at e2;cases e2
     | some v'=>rw[z] at e2;cases e2;rfl
    have hσ:σ[j]? = some (some y):=by
     have:=congrArg (fun l:List (Option (Option V))=>l[i]?) hv
     simp only[zJ,hj,hcv,zAg,Option.some.injEq] at this
     exact this
    obtain⟨m,_,hl'⟩:=I.loc
    obtain⟨u',r,q'⟩:=hl' j x y hNj hσ (.inr (.inl hkx))
    obtain⟨c',hc'⟩:=has x hfree
    refine⟨u',r,.inr ⟨.inr hfree,c',hc',?_⟩⟩
    rcases q' with ⟨z,_⟩ | ⟨_,c,hcc,o,ho,hd⟩
    . rw[hkx] at z;cases z
    . have e:c=c':=zP (hcc.symm.trans (zB0 hc'))
      subst e
      exact⟨o,hk c o ho,hd⟩
 . obtain⟨v',o,ho,hd⟩:=I.cell x c (zB0 e)
   exact⟨v',o,hk c o ho,hd⟩
 . show (some v::cv.map some).length=(pn::cn).length
   rw[zt,zt,zB,lenv,hl]
theorem zKN {params:Arguments}{body:Expr}{te:TE}{pm cv' ctv:Value}{Q:VK}{E:Value->Shared->Prop}(I:Inv X pins σ H s)(hh:A.handled=none)(hfr:A.frames=some X.stack)(hdp:A.depth<recursionLimit)(S:zCr X scope)(hco:scope.isCoroutine=false)(hgen:scope.isGenerator=false)(hpn:scope.names.lookup pn=some .local)
 (hc:zDD X scope cn ci)(hv:ci.map (fun j=>σ[j]?)=cv.map fun v=>some (some v))(hl:cn.length=ci.length)
 (hbind:bindArgs (PySem.W.kla_fn "<lambda>" q params body scope (zCQ X.env.cells scope.names []) pm cv' ctv) ⟨[u],[]⟩=pure [(pn,u)])
 (hf:s.heap.get? f=some { cls:=.type "function",data:=.func (PySem.W.kla_fn "<lambda>" q params body scope (zCQ X.env.cells scope.names []) pm cv' ctv) }) (hrec:s.heap.CodeRec cv' q)
 (hb:∀s3 H3,PE (zGG X A (pn::cn) q scope f cv' s3 H3) body te)(rv:zBT v u)(hq:te (some v::cv.map some) H Q):wpAny (model X.prog X.w) A (call (.ref f) [u]) (fun r s'=>CE X.stack X.prog X.w H s Q r s') E s:=by
 refine zBg (PySem.W.kla_callFunE hdp hf rfl hco hgen rfl hrec ?_)
 rw[hbind]
 refine zG (wpAny_newFunctionEnv S.nocell (fun y hy=>?_) (fun h₁ hns hsb=>?_) S.kind)
 . obtain rfl:y=(pn,u):=zk.mp hy
   exact hpn
 . have hk₁:∀b o,s.heap.get? b=some o->h₁.get? b=some o:=fun b o e'=>hsb.extBut b o (za (zV e')) (zF _ e')
   refine⟨I.nolimit.keeps hk₁,?_⟩
   show codeAny _ _ (.expr body (PySem.W.envX q scope s.heap.objs.size f cv' (zCQ X.env.cells scope.names []))) _ _
   have hns':h₁.Ns s.heap.objs.size (fun x=>if x=pn then some u else none):=by
    have e:(fun x=>([(pn,u)]:List (Str×Value)).reverse.lookup x)=(fun x=>if x=pn then some u else none):=by
     funext x
     by_cases z:x=pn
     . subst z;simp
     . rw[if_neg z]
       show List.lookup x [(pn,u)]=none
       rw[zAq,show (x==pn)=false from by simpa using z];rfl
    rw[<-e];exact hns
   have J:=zMJ (q:=q) (f:=f) (cd:=cv') (t:=s.toks+[(pn,u)].length) I hh hfr S hpn hc hv hl rv hns' hk₁
   refine PySem.W.kla_codeExpr (zAJ (hb s H [] _ _ H Q J hq) (fun r s' hr=>?_) fun _ _ z=>z.elim)
   obtain⟨v',H',J',r',q'⟩:=hr
   exact⟨v',H',J'.os,J'.bare,J'.base,J'.hok,r',q'⟩
end
end L2
namespace L2
open PySem PySem.Spec PyProof.Rows
section
variable {X:Cx}{pins:List (Addr×Obj)}{σ:St}{H:Hp}{s:Shared}
theorem zMK {P c:Addr}{params:Arguments}{body:Expr}{lscope:Scope}{lpos:Pos}{Q:Value->Shared->Prop}{E:Value->Shared->Prop}(I:Inv X pins σ H s)(T:zB7 H P lpos (X.env.qual ++ "<lambda>"))
 (hcode:X.env.code = .ref c)(C:PySem.W.CodeHd X.base c P)(hbm:zG7 X.mg X.base)(hfree:∀y∈lscope.names,y.2 = .free->X.env.kindOf y.1=some .cell)(hdef:defaultsOf params X.env=([],[]))
 (h:∀(f:Addr)(pm cv ctv:Value)(s':Shared)(H':Hp),Inv X pins σ H' s'->SmP P H H'->zB7 H' P lpos (X.env.qual ++ "<lambda>")->s.heap.objs.size<=f ->
  s'.heap.get? f=some { cls:=.type "function",data:=.func (PySem.W.kla_fn "<lambda>" (X.env.qual ++ "<lambda>") params body lscope (zCQ X.env.cells lscope.names []) pm cv ctv) } ->
  (∃c1,cv = .ref c1/\H' c1=some (.ext (zE0 c1 (X.env.qual ++ "<lambda>"))))->H' f=none->Q (.ref f) s') :
 wpAny (model X.prog X.w) X.A (eval (.Lambda params body lscope lpos) X.env) Q E s:=by
 obtain⟨ps,hP,ht,hcase⟩:=T
 have oP:s.heap.get? P=some (PySem.W.tabObj ps):=I.hok P _ hP
 have hg:=I.mod.glob.keeps I.bk
 have C':PySem.W.CodeHd s.heap c P:=C.keeps I.bk
 have hcl:closureFor lscope X.env=pure (zCQ X.env.cells lscope.names []):=zCC fun y hy hf=>I.ok.has y.1 (.inl (hfree y hy hf))
 have nP:∀b o,X.base.get? b=some o->b≠P:=fun b o e z=>by
  have:=(I.bs b o e).2
  rw[z,hP] at this;cases this
 have hgP:mainGlobals≠P:=by
  obtain⟨o,es,ep,e,_⟩:=I.mod.glob
  exact nP _ _ e
 have hb:s.heap.BuiltinsAt X.mg P:=by
  obtain⟨bm,ob,b1,b2,b3,b4,b5,b6⟩:=hbm
  refine⟨bm,ob,b1,b2,fun z=>?_,nP _ _ b3,I.bk _ _ b3,b4,b5,b6⟩
  obtain⟨o,es,ep,e,hd,_⟩:=I.mod.glob
  rw[z,e] at b3;cases b3;rw[hd] at b6;cases b6
 refine PySem.W.kla_eval hdef ?_
 rcases hcase with hn | ⟨c1,hc1,hH⟩
 . refine PySem.W.kla_makeFunction (mg:=X.mg) hcl I.ok.glob hg hcode C' oP ht hn hgP hb fun c' ctv h' tk hx hge hlt hrec htb=>?_
   obtain⟨c2,oc,vs,t,e2,hoc,hd,hv⟩:=id hrec
   cases e2
   have kp:∀b u,b≠P->s.heap.get? b=some u->(h'.push (PySem.W.kla_obj "<lambda>" (X.env.qual ++ "<lambda>") params body lscope (zCQ X.env.cells lscope.names []) ((X.mg "__name__").getD .none) c' ctv)).get? b=some u:=fun b u hb' e=>zF _ (hx b u hb' e)
   have hcn:H c'=none:=I.hok.fresh hge
   have nPc:P≠c':=zi hP hcn
   refine h h'.objs.size ((X.mg "__name__").getD .none) (.ref c') ctv _ _ (I.growL (c':=c') (o:=.ext (zE0 c' (X.env.qual ++ "<lambda>"))) (t':=tk) hP hge kp (zF _ htb) ⟨⟨oc,vs,t,zF _ hoc,hd,hv⟩,⟨oc,zF _ hoc⟩,fun h1 h2 ⟨o1,v1,t1,a1,a2,a3⟩ k12=>⟨o1,v1,t1,k12 _ a1,a2,a3⟩⟩) ?_ ?_ ?_ ?_ ?_ ?_
   . intro b o e
     by_cases hbP:b=P
     . left
       rw[hbP,hP] at e
       exact⟨hbP,ps,(zP e).symm⟩
     . right
       rw[zX (zi e hcn),zX hbP];exact e
   . refine⟨ps ++ #[rawInt lpos.line,rawInt lpos.col,.ref c'],by rw[zX nPc,zH],?_,.inr ⟨c',?_,zH⟩⟩
     . rw[Array.toList_append];exact TriplesOk_snoc _ _ _ _ ht
     . rw[Array.toList_append];exact codeAmong_snoc _ ht hn
   . have:=zBo (zAD hge hlt)
     exact this
   . exact zQ _ rfl
   . exact⟨c',rfl,zH⟩
   . have hf0:H h'.objs.size=none:=I.hok.fresh (zBo (zAD hge hlt))
     have n1:h'.objs.size≠c':=Nat.ne_of_gt hlt
     have n2:h'.objs.size≠P:=fun z=>by rw[z,hP] at hf0;cases hf0
     rw[zX n1,zX n2];exact hf0
 . obtain⟨⟨oc,vs,t,hoc,hd,hv⟩,_⟩:=I.hok c1 _ hH
   refine PySem.W.kla_makeFunctionHit (mg:=X.mg) hcl I.ok.glob hg hcode C' oP ht hc1 hb fun ctv h' tk hk hsz=>?_
   refine h h'.objs.size ((X.mg "__name__").getD .none) (.ref c1) ctv _ _ (I.kept (t':=tk) fun b u e=>zF _ (hk b u e)) (SmP.refl _) ⟨ps,hP,ht,.inr ⟨c1,hc1,hH⟩⟩ hsz (zQ _ rfl) ⟨c1,rfl,hH⟩ (I.hok.fresh hsz)
structure LpI (X:Cx)(pins:List (Addr×Obj))(σ:St)(H2:Hp)(f:Addr)(of:Obj)(Ia Sa:Addr)(H:Hp)(s:Shared):Prop where
 inv:Inv X pins σ H s
 sm:zAy H2 H
 fo:s.heap.get? f=some of
 fn:zDE X pins H f
 fi:zDE X pins H Ia
 fs:zDE X pins H Sa
 d1:f≠Ia
 d2:f≠Sa
 d3:Sa≠Ia
 io:∃o,s.heap.get? Ia=some o
 so:∃o,s.heap.get? Sa=some o
theorem zDE.to {b:Addr}{H H':Hp}(f:zDE X pins H b)(h:H' b=none):zDE X pins H' b:=⟨h,f.2⟩
theorem zDE.nst {b:Addr}(I:Inv X pins σ H s)(f:zDE X pins H b):b∉frs X.stack:=fun z=>by
 rcases ze.mp (I.stkSub b z) with q | q
 . exact f.2.1 q
 . exact f.2.2.1 q
variable {H2:Hp}{f Ia Sa l:Addr}{of:Obj}
theorem LpI.offI {h':Heap}{t':Nat}(L:LpI X pins σ H2 f of Ia Sa H s)(k:∀b o,b≠Ia->s.heap.get? b=some o->h'.get? b=some o)(ho:∃o,h'.get? Ia=some o):LpI X pins σ H2 f of Ia Sa H { s with heap:=h',toks:=t' }:=
 ⟨L.inv.off L.fi k,L.sm,k _ _ L.d1 L.fo,L.fn,L.fi,L.fs,L.d1,L.d2,L.d3,ho,let ⟨o,e⟩:=L.so;⟨o,k _ _ L.d3 e⟩⟩
theorem LpI.offS {h':Heap}{t':Nat}(L:LpI X pins σ H2 f of Ia Sa H s)(k:∀b o,b≠Sa->s.heap.get? b=some o->h'.get? b=some o)(ho:∃o,h'.get? Sa=some o):LpI X pins σ H2 f of Ia Sa H { s with heap:=h',toks:=t' }:=
 ⟨L.inv.off L.fs k,L.sm,k _ _ L.d2 L.fo,L.fn,L.fi,L.fs,L.d1,L.d2,L.d3,let ⟨o,e⟩:=L.io;⟨o,k _ _ (Ne.symm L.d3) e⟩,ho⟩
theorem LpI.call {r:Value}{s':Shared}{x:V}(L:LpI X pins σ H2 f of Ia Sa H s)(h:CE X.stack X.prog X.w H s (fun v H'=>v=x/\zAy H H') r s') :
 ∃H',LpI X pins σ H2 f of Ia Sa H' s'/\zBT x r/\(∀o,s.heap.get? Ia=some o->s'.heap.get? Ia=some o)/\(∀o,s.heap.get? Sa=some o->s'.heap.get? Sa=some o):=by
 obtain⟨v,H',os,bare,un,hok,rv,rfl,sm⟩:=h
 have kp:∀b,zDE X pins H b->∀o,s.heap.get? b=some o->s'.heap.get? b=some o:=fun b fb o e=>un.keep b o e fb.1 (fb.nst L.inv) (by intro z;cases z)
 have fr:∀b,zDE X pins H b->(∃o,s.heap.get? b=some o)->zDE X pins H' b:=fun b fb ⟨o,e⟩=>fb.to (un.free b o e fb.1 (by intro z;cases z))
 refine⟨H',⟨L.inv.call' os un hok bare (fun b z=>absurd z (by simp)),L.sm.trans sm,kp f L.fn _ L.fo,fr f L.fn ⟨_,L.fo⟩,fr Ia L.fi L.io,fr Sa L.fs L.so,L.d1,L.d2,L.d3,?_,?_⟩,rv,kp Ia L.fi,kp Sa L.fs⟩
 . obtain⟨o,e⟩:=L.io;exact⟨o,kp Ia L.fi o e⟩
 . obtain⟨o,e⟩:=L.so;exact⟨o,kp Sa L.fs o e⟩
noncomputable def KeyJ (X:Cx)(pins:List (Addr×Obj))(σ:St)(H2:Hp)(f:Addr)(of:Obj)(Ia Sa:Addr)(ns:List Int)(val:Int->Int):Prop:=
 ∀(H:Hp)(s:Shared)(n:Int)(u:Value)(E:Value->Shared->Prop),LpI X pins σ H2 f of Ia Sa H s->n∈ns->zBT (.int n) u->wpAny (model X.prog X.w) X.A.in1 (call (.ref f) [u]) (fun r s'=>CE X.stack X.prog X.w H s (fun v H'=>v = .int (val n)/\zAy H H') r s') E s
variable {ns:List Int}{val:Int->Int}
theorem LpI.list (L:LpI X pins σ H2 f of Ia Sa H s)(hl:H2 l=some (.lst (ns.map V.int))):∃its,IntsAre its ns/\s.heap.IsList l its.toArray:=by
 obtain⟨_,its,nn,rv,ho⟩:=L.inv.hok l _ (L.sm _ _ hl)
 exact⟨its,zBc rv,_,ho,rfl,nn,rfl⟩
noncomputable def zG8 (ns:List Int)(val:Int->Int)(j b:Nat)(nb:Int):Prop:=ns[b]? = some nb/\b<j/\∀i n,i<j->ns[i]? = some n->val nb<=val n/\(i<b->val nb<val n)
theorem zG8.one {x:Int}(h:ns[0]? = some x):zG8 ns val 1 0 x:=⟨h,Nat.zero_lt_one,fun i n hi e=>by
 obtain rfl:i=0:=by omega
 rw[h] at e;cases e
 exact⟨zBt _,fun z=>absurd z (zBV _)⟩⟩
theorem zG8.keep {j b:Nat}{nb x:Int}(B:zG8 ns val j b nb)(h:ns[j]? = some x)(c:¬ val x<val nb):zG8 ns val (j+1) b nb:=⟨B.1,by have:=B.2.1;omega,fun i n hi e=>by
 by_cases z:i=j
 . subst z;rw[h] at e;cases e
   exact⟨by omega,fun y=>by have:=B.2.1;omega⟩
 . exact B.2.2 i n (by omega) e⟩
theorem zG8.new {j b:Nat}{nb x:Int}(B:zG8 ns val j b nb)(h:ns[j]? = some x)(c:val x<val nb):zG8 ns val (j+1) j x:=⟨h,by omega,fun i n hi e=>by
 by_cases z:i=j
 . subst z;rw[h] at e;cases e
   exact⟨zBt _,fun y=>by omega⟩
 . have:=(B.2.2 i n (by omega) e).1
   exact⟨by omega,fun _=>by omega⟩⟩
theorem zIZ {Rr:Result->Shared->Prop}(hh:X.A.handled=none)(ky:KeyJ X pins σ H2 f of Ia Sa ns val)(hl:H2 l=some (.lst (ns.map V.int)))
 (hR:∀M b H s u,zG8 ns val ns.length b M->Inv X pins σ H s->zAy H2 H->zBT (.int M) u->Rr (.ok (.ret u)) s) :
 ∀(r j:Nat)(H:Hp)(s:Shared)(b:Nat)(nb:Int)(vb:Value)(tb:Tok)(c:Nat),ns.length-j=r->1<=j->j<=ns.length->LpI X pins σ H2 f of Ia Sa H s->s.heap.IsListIter Ia l j->zG8 ns val j b nb->zBT (.int nb) vb ->
  s.heap.get? Sa=some { cls:=.type "list",data:=.seq #[vb,.int (val nb) tb] c }->codeAny (model X.prog X.w) X.A (.builtin "min.loop" { pos:=[.ref Ia,.ref f,.ref Sa],kw:=[] }) Rr s:=by
 intro r
 induction r with
 | zero=>
  intro j H s b nb vb tb c hr h1 hj L hit B rb hSo
  obtain rfl:j=ns.length:=by omega
  obtain⟨its,hI,hls⟩:=L.list hl
  refine codeAny_builtin PySem.F.entry_min_loop ?_
  unfold Builtin.«min.loop»
  refine zA (zBZ hSo rfl ?_)
  dsimp only
  refine zA (zBF (wpAny_pyNext_list_end hh hit hls (by rw[zAe];exact zAn (by rw[hI.length];exact zI _)) fun h' k=>?_))
  have hS':=k Sa _ L.d3 hSo
  refine zA (wpAny_updateSeq hS' rfl (zA (wpAny_letGo (zG ?_))) (by show 2<=sizeLine;decide) (by show 0<=sizeLine+1;decide))
  exact hR nb b H _ vb B ((L.inv.off (t':=s.toks) L.fi k).off (t':=s.toks) L.fs fun b o hb e=>(zAo _ _ _ _ hb).trans e) L.sm rb
 | succ r ih=>
  intro j H s b nb vb tb c hr h1 hj L hit B rb hSo
  obtain⟨x,hx⟩:∃x,ns[j]? = some x:=⟨_,zC (by omega)⟩
  obtain⟨its,hI,hls⟩:=L.list hl
  obtain⟨tx,hu⟩:=hI.get j x hx
  refine codeAny_builtin PySem.F.entry_min_loop ?_
  unfold Builtin.«min.loop»
  refine zA (zBZ hSo rfl ?_)
  dsimp only
  refine zA (zBF (wpAny_pyNext_list_item hit hls (by rw[zAe];exact hu) fun h' hit' k=>?_))
  have L1:=L.offI (t':=s.toks) (h':=h') (fun b o hb e=>(k.2 b hb).trans e) (let ⟨o,ho,_⟩:=hit';⟨o,ho⟩)
  have hS':h'.get? Sa=some { cls:=.type "list",data:=.seq #[vb,.int (val nb) tb] c }:=(k.2 Sa L.d3).trans hSo
  refine zA (zBF (zAR (zAJ (ky H _ x (.int x tx) _ L1 (zS hx) ⟨tx,rfl⟩) (fun rr s2 hce=>?_) fun _ _ z=>z)))
  obtain⟨H',L2,rv2,kI,kS⟩:=L1.call hce
  obtain⟨t2,rfl⟩:=rv2
  have hS2:=kS _ hS'
  have hit2:s2.heap.IsListIter Ia l (j+1):=by obtain⟨o,ho,hc⟩:=hit';exact⟨o,kI _ ho,hc⟩
  refine zA (zBF (zAR (zA (PyProof.Rows.lt_int ?_))))
  refine zA (zAR (zBN (zA (wpAny_letGo (zG ?_)))))
  cases e:decide (val x<val nb) with
  | true=>
   refine zA (wpAny_updateSeq hS2 rfl (zA (wpAny_letGo (zG ⟨rfl,?_⟩))) (by show 2<=sizeLine;decide) (by show 2<=sizeLine+1;decide))
   refine ih (j+1) H' _ j x (.int x tx) t2 c (by omega) (by omega) (by omega) (L2.offS (t':=s2.toks) (fun b o hb e=>(zAo _ _ _ _ hb).trans e) ⟨_,zAW _ hS2 rfl⟩) ?_ (B.new hx (of_decide_eq_true e)) ⟨tx,rfl⟩ (zAW _ hS2 rfl)
   obtain⟨o,ho,hc⟩:=hit2
   exact⟨o,(zAo _ _ _ _ (Ne.symm L.d3)).trans ho,hc⟩
  | false=>
   refine zA (wpAny_letGo (zG ⟨rfl,?_⟩))
   exact ih (j+1) H' s2 b nb vb tb c (by omega) (by omega) (by omega) L2 hit2 (B.keep hx (of_decide_eq_false e)) rb hS2
theorem zHR {Rr:Result->Shared->Prop}(hh:X.A.handled=none)(ky:KeyJ X pins σ H2 f of Ia Sa ns val)(hl:H2 l=some (.lst (ns.map V.int)))(hne:ns≠[])
 (hR:∀M b H s u,zG8 ns val ns.length b M->Inv X pins σ H s->zAy H2 H->zBT (.int M) u->Rr (.ok (.ret u)) s){c:Nat}(L:LpI X pins σ H2 f of Ia Sa H s)(hit:s.heap.IsListIter Ia l 0)(hSo:s.heap.get? Sa=some { cls:=.type "list",data:=.seq #[] c }) :
 codeAny (model X.prog X.w) X.A (.builtin "min.loop" { pos:=[.ref Ia,.ref f,.ref Sa],kw:=[] }) Rr s:=by
 have hlen:=List.length_pos_iff.mpr hne
 obtain⟨x,hx⟩:∃x,ns[0]? = some x:=⟨_,zC hlen⟩
 obtain⟨its,hI,hls⟩:=L.list hl
 obtain⟨tx,hu⟩:=hI.get 0 x hx
 refine codeAny_builtin PySem.F.entry_min_loop ?_
 unfold Builtin.«min.loop»
 refine zA (zBZ hSo rfl ?_)
 dsimp only
 refine zA (zBF (wpAny_pyNext_list_item hit hls (by rw[zAe];exact hu) fun h' hit' k=>?_))
 have L1:=L.offI (t':=s.toks) (h':=h') (fun b o hb e=>(k.2 b hb).trans e) (let ⟨o,ho,_⟩:=hit';⟨o,ho⟩)
 have hS':h'.get? Sa=some { cls:=.type "list",data:=.seq #[] c }:=(k.2 Sa L.d3).trans hSo
 refine zA (zBF (zAR (zAJ (ky H _ x (.int x tx) _ L1 (zS hx) ⟨tx,rfl⟩) (fun rr s2 hce=>?_) fun _ _ z=>z)))
 obtain⟨H',L2,rv2,kI,kS⟩:=L1.call hce
 obtain⟨t2,rfl⟩:=rv2
 have hS2:=kS _ hS'
 refine zA (wpAny_updateSeq hS2 rfl (zG ⟨rfl,?_⟩) (by show 0<=sizeLine;decide) (by show 2<=sizeLine+1;decide))
 refine zIZ hh ky hl hR (ns.length-1) 1 H' _ 0 x (.int x tx) t2 (c+1) rfl (zI _) hlen (L2.offS (t':=s2.toks) (fun b o hb e=>(zAo _ _ _ _ hb).trans e) ⟨_,zAW _ hS2 rfl⟩) ?_ (zG8.one hx) ⟨tx,rfl⟩ (zAW _ hS2 rfl)
 obtain⟨o,ho,hc⟩:=hit'
 exact⟨o,(zAo _ _ _ _ (Ne.symm L.d3)).trans (kI _ ho),hc⟩
theorem zJK {Q E:Value->Shared->Prop}(hh:X.A.handled=none)(I:Inv X pins σ H2 s)(hf:s.heap.get? f=some of)(hfp:zDE X pins H2 f)(ky:∀Ia Sa,KeyJ X pins σ H2 f of Ia Sa ns val)(hl:H2 l=some (.lst (ns.map V.int)))(hne:ns≠[])
 (hR:∀M b H s u,zG8 ns val ns.length b M->Inv X pins σ H s->zAy H2 H->zBT (.int M) u->Q u s) :
 wpAny (model X.prog X.w) X.A (call (.builtin "min") [.ref l] [(Str.ofString "key",.ref f)]) Q E s:=by
 obtain⟨_,its,nn,rv,ho⟩:=I.hok l _ hl
 have hp:s.heap.IsList l its.toArray:=⟨_,ho,rfl,nn,rfl⟩
 refine zBg (codeAny_call_builtin PySem.F.plain_min PySem.F.entry_min (wpAny_of_eq (show checkBuiltinCall "min" { pos:=[.ref l],kw:=[(Str.ofString "key",.ref f)] }=pure () from rfl) (zG ?_)))
 unfold Builtin.min
 refine zA (wpAny_of_eq (show Builtin.Builtins.bindParams "min" ["key", "default"] 0 { kw:=[(Str.ofString "key",.ref f)] }=pure [some (.ref f),none] from rfl) (zG ?_))
 dsimp only
 refine zA (zG ?_)
 refine zA (wpAny_pyIter_list hp (zA (wpAny_newList (zG ⟨rfl,?_⟩) (by show 0<=sizeLine;decide))))
 have hSe:(s.heap.push { cls:=.type "list_iterator",data:=.fields #[.ref l,.int 0 0] }).objs.size=s.heap.objs.size+1:=zAj ..
 rw[hSe]
 have k1:∀(o1 o2:Obj) b o,s.heap.get? b=some o->((s.heap.push o1).push o2).get? b=some o:=fun o1 o2 b o e=>zF _ (zF _ e)
 have hfl:=zV hf
 refine zHR (Ia:=s.heap.objs.size) (Sa:=s.heap.objs.size+1) (H:=H2) (c:=0) hh (ky _ _) hl hne hR ⟨I.kept (t':=s.toks) (k1 _ _),fun _ _ e=>e,k1 _ _ _ _ hf,hfp,I.fpOk (zI _) (I.hok.fresh (zI _)),I.fpOk (zA3 _) (I.hok.fresh (zA3 _)),za hfl,za (zAh hfl),Nat.succ_ne_self _,⟨_,zF _ (zQ _ rfl)⟩,⟨_,by rw[<-hSe];exact zQ _ rfl⟩⟩ ?_ ?_
 . exact⟨_,zF _ (zQ _ rfl),rfl,rfl⟩
 . rw[<-hSe];exact zQ _ rfl
end
section
variable {X:Cx}
noncomputable def zLI (P:Addr)(lpos:Pos)(q:Str)(ci:List Nat)(t:TA)(te:TE):TE:=fun σ H Q=>t σ H fun vs H1=>∃(l:Addr)(ns:List Int)(val:Int->Int)(cv:List V),vs=[.ref l]/\H1 l=some (.lst (ns.map V.int))/\ns≠[]/\ci.map (fun j=>σ[j]?)=cv.map (fun v=>some (some v))/\zB7 H1 P lpos q /\
 ∀H2,SmP P H1 H2->zB7 H2 P lpos q->(∀n∈ns,∀H3,zAy H2 H3->te (some (.int n)::cv.map some) H3 (fun v H4=>v = .int (val n)/\zAy H3 H4))/\∀(M:Int)(b:Nat)(H4:Hp),zG8 ns val ns.length b M->zAy H2 H4->Q (.int M) H4
theorem zIK {k:Nat}{P c:Addr}{pn:Str}{cn:List Str}{ci:List Nat}{e body:Expr}{t:TA}{te:TE}{params:Arguments}{lscope:Scope}{lpos pos np kpos:Pos}
 (hc:X.calm=true)(hr:zCq (k+2) X.A)(hg:Gl X "min") (hm:X.mg "min" = none) (he:PA X [e] t)(hcode:X.env.code = .ref c)(C:PySem.W.CodeHd X.base c P)(hbm:zG7 X.mg X.base)
 (S:zCr X lscope)(hco:lscope.isCoroutine=false)(hgen:lscope.isGenerator=false)(hpn:lscope.names.lookup pn=some .local)(hcap:zDD X lscope cn ci)(hlc:cn.length=ci.length)(hdef:defaultsOf params X.env=([],[]))
 (hbind:∀(q:Str)(body:Expr)(cl:List (Str×Addr))(pm cdv ct v:Value),bindArgs (PySem.W.kla_fn "<lambda>" q params body lscope cl pm cdv ct) ⟨[v],[]⟩=pure [(pn,v)])
 (hb:∀(f:Addr)(cd:Value)(s3:Shared)(H3:Hp),zCq k (zGG X X.A.in1 (pn::cn) (X.env.qual ++ "<lambda>") lscope f cd s3 H3).A->PE (zGG X X.A.in1 (pn::cn) (X.env.qual ++ "<lambda>") lscope f cd s3 H3) body te)
 (hs1:backTo pos (starEach [e] X.env)=(false,eval e X.env)::backTo pos (starEach [] X.env):=by rfl)(hs2:(backTo pos (starEach [e] X.env)).any (·.1)=false:=by rfl) :
 PE X (.Call (.Name "min" np) [e] [⟨some "key",.Lambda params body lscope lpos,kpos⟩] pos) (zLI P lpos (X.env.qual ++ "<lambda>") ci t te):=by
 intro pins s σ H Q I h
 refine zA2 (zCa I hg hm (by decide +kernel:bootBuiltins "min" = some (.builtin "min")) ?_)
 refine PyProof.Rows.callWith_kw (thn (he pos pins s σ H _ I h) fun us s1 ⟨vs,H1,I1,r,q1⟩=>?_) hs1 hs2
 obtain⟨l,ns,val,cv,rfl,hl,hne,hv,T,q⟩:=q1
 obtain⟨u,rfl,rx⟩:=zCn r
 cases rx
 show wpAny _ _ (evalAll ((do let v <-eval (.Lambda params body lscope lpos) X.env;standAt pos;pure v)::[])) _ _ s1
 refine wpAny_evalAll_cons (zA (zMK I1 T hcode C hbm S.free hdef fun f pm cv' ctv s2 H2 I2 sm T2 hfge hf hrec hfn=>zA (zBq (zG (wpAny_evalAll_nil ?_)))))
 show wpAny _ _ (call (.builtin "min") [.ref l] [(Str.ofString "key",.ref f)]) _ _ s2
 have hl2:H2 l=some (.lst (ns.map V.int)):=sm.get hl (by intro ps z;cases z)
 obtain⟨q1,q2⟩:=q H2 sm T2
 obtain⟨c1,rfl,hc1⟩:=hrec
 refine zJK (val:=val) (I2.ok.hd hc) I2 hf (I1.fpOk hfge hfn) (fun Ia Sa H3 s3 n un E' L hn ru=>?_) hl2 hne (fun M b H4 s4 um B I4 s24 ru=>⟨.int M,H4,I4,ru,q2 M b H4 B s24⟩)
 obtain⟨⟨o1,v1,t1,ho1,hd1,hv1⟩,_⟩:=L.inv.hok c1 _ (L.sm _ _ hc1)
 exact zKN (cv:=cv) L.inv (I2.ok.hd hc) L.inv.ok.frames hr.in1.depth S hco hgen hpn hcap hv hlc (hbind _ _ _ _ _ _ _) L.fo ⟨c1,o1,v1,t1,rfl,ho1,hd1,hv1⟩ (fun s5 H5=>hb f (.ref c1) s5 H5 (hr.in1.deeper _)) ru (q1 n hn H3 L.sm)
end
end L2
namespace L2
open PySem PySem.Spec PyProof.Rows
noncomputable def Itd (lo:Int)(n:Nat):It:=⟨fun i _=>i<n,fun i H x H'=>H'=H/\x = .int (lo-i),fun i _=>n<=i⟩
theorem zHq {P:Program}{w:World}{K:PySem.W.Frag}{tg:Expr}(it:Addr)(lo:Int)(n:Nat):Turn P w K tg (Itd lo n) [it] it (fun i h=>IsRangeIter h it (lo+(i:Nat)*(-1)) ((n:Int)-(i:Nat)) (-1)) where
 mem:=by simp
 obj:=fun i h st b hb=>by
  have e:b=it:=by simpa using hb
  subst e
  exact⟨_,st,fun v z=>by
   have z':Data.fields _=Data.cell v:=z
   cases z'⟩
 keep:=fun i h h' st k=>k it (by simp) _ st
 item:=by
  intro X hP hw hK hc i pins s σ H E I hf st hg
  subst hP hw hK
  obtain⟨f0,f1,f2,f3,f4,f5⟩:=hf it (by simp)
  have W:=Walks.range (prog:=X.prog) (w:=X.w) (I.ok.hd hc) it lo (-1) n
  refine W.item i s _ _ hg st fun v h' tk hv st' kk=>?_
  obtain⟨t,rfl⟩:=hv
  have I1:Inv X pins σ H { s with heap:=h',toks:=tk }:=I.turned (fun b o hb e=>kk b o (by simpa using hb) e) f0 f1 f3 f4 f5
  refine⟨_,rfl,zKS (s:={ s with heap:=h',toks:=tk }) (n := "range_iterator") st' rfl rfl (by decide) ⟨.int (lo-i),H,I1,⟨t,?_⟩,⟨rfl,rfl⟩,st',fun b hb=>(hf b hb).1⟩⟩
  rw[show lo+(i:Int)*(-1)=lo-i by omega]
 done:=by
  intro X hP hw hK hc i pins s σ H E I hf st hg
  subst hP hw hK
  obtain⟨f0,f1,f2,f3,f4,f5⟩:=hf it (by simp)
  exact wpAny_pyNext_range_end (I.ok.hd hc) st (by have:n<=i:=hg;omega) fun h' eb=>⟨rfl,I.turned (t':=s.toks) (fun b o hb e=>eb b o hb e) f0 f1 f3 f4 f5⟩
 self:=fun _ _ _ _ _ st h=>wpAny_pyIter_rangeiter st h
section
variable {X:Cx}{tg:Expr}
theorem zHJ {pins:List (Addr×Obj)}{σ:St}{H:Hp}{s:Shared}{R:It->Hp->Prop}{E:Value->Shared->Prop}{lo hi:Int}{t u v:Tok}{tk:Nat}(I:Inv X pins σ H s)(h1 : -(2 ^ 62)<=lo)(h2:lo<2 ^ 62)(h3 : -(2 ^ 62)<=hi)(h4:hi<2 ^ 62)
 (q:R (Itd lo (lo-hi).toNat) H):wpAny (model X.prog X.w) X.A (pyIter (.ref s.heap.objs.size)) (PIE X pins σ tg R) E { s with heap:=s.heap.push { cls:=.type "range",data:=.fields #[.int lo t,.int hi u,.int (-1) v] },toks:=tk }:=by
 refine wpAny_pyIter_range (IsRange.new ..) (PySem.W.small_down h1 h2 h3 h4) ?_
 have I1:Inv X pins σ H { s with heap:=s.heap.push { cls:=.type "range",data:=.fields #[.int lo t,.int hi u,.int (-1) v] },toks:=tk }:=I.kept fun b o e=>zF _ e
 refine⟨(s.heap.push { cls:=.type "range",data:=.fields #[.int lo t,.int hi u,.int (-1) v] }).objs.size,[(s.heap.push { cls:=.type "range",data:=.fields #[.int lo t,.int hi u,.int (-1) v] }).objs.size],_,_,H,rfl,
  I1.kept (t':=tk) fun b o e=>zF _ e,zHq _ lo (lo-hi).toNat,?_,fun b hb=>?_,q⟩
 . have e1:lo+((0:Nat):Int)*(-1)=lo:=by simp
   have e2:(((lo-hi).toNat:Nat):Int)-((0:Nat):Int)=Builtin.Range.rangeSize lo hi (-1):=by rw[PySem.W.rangeSize_downNat];omega
   show IsRangeIter _ _ (lo+((0:Nat):Int)*(-1)) ((((lo-hi).toNat:Nat):Int)-((0:Nat):Int)) (-1)
   rw[e1,e2]
   exact zQ _ rfl
 . have e:b=(s.heap.push { cls:=.type "range",data:=.fields #[.int lo t,.int hi u,.int (-1) v] }).objs.size:=by simpa using hb
   subst e
   exact I1.fpOk (zI _) (I1.hok.fresh (zI _))
noncomputable def iRngD (ta:TA):TI:=fun σ H R=>ta σ H fun vs H1=>∃i j:Int,vs=[.int i,.int j,.int (-1)]/\(-(2 ^ 40)<=i/\i<2 ^ 40 /\ -(2 ^ 40)<=j/\j<2 ^ 40)/\R (Itd i (i-j).toNat) H1
theorem zFF {a b c:Expr}{ta:TA}{p pos:Pos}(hg:Gl X "range") (hm:X.mg "range" = none) (ha:PA X [a,b,c] ta)(hs:starEach [a,b,c] X.env=(false,eval a X.env)::starEach [b,c] X.env:=by rfl)(hs2:(backTo pos (starEach [b,c] X.env)).any (·.1)=false:=by rfl) :
 PI X tg (.Call (.Name "range" p) [a,b,c] [] pos) (iRngD ta):=by
 intro pins s σ H R I h
 refine Call_ (zCa I hg hm boot_range (PyProof.Rows.callWith_type1 (thn (ha pos pins s σ H _ I h) fun us s1 ⟨vs,H1,I1,r1,q1⟩=>?_) hs hs2))
 obtain⟨i,j,e,⟨q1,q2,q3,q4⟩,q⟩:=q1
 subst e
 cases r1 with
 | cons r rr=>
  cases rr with
  | cons r' rr=>
   cases rr with
   | cons r'' rr=>
    cases rr
    obtain⟨t,rfl⟩:=r
    obtain⟨t',rfl⟩:=r'
    obtain⟨t'',rfl⟩:=r''
    exact call_range_3 (by decide) (zHJ I1 (by omega) (by omega) (by omega) (by omega) q) (Or.inl (PyProof.noPylong_small (by omega)))
end
theorem zGv {lo:Int}{n:Nat}{g:TG}{tb:TS}{D:zHn}{σ:St}{H:Hp}(Pv:Nat->St->Hp->Prop)(h0:Pv 0 σ H)
 (hs:∀i σ H,i<n->Pv i σ H->g (.int (lo-i)) σ H fun σ2 H2=>tb { D with nx:=Pv (i+1),ct:=Pv (i+1),bk:=D.nx } σ2 H2)(hd:∀ σ H,Pv n σ H->D.nx σ H) :
 ∃W:Nat->Nat->St->Hp->Prop,(∃m,W 0 m σ H)/\∀i m σ H,W i m σ H ->
  ((Itd lo n).stop i H/\D.nx σ H)\/((Itd lo n).go i H/\∃N:St->Hp->Prop,(∀ σ' H',N σ' H'->∃m',m'<m/\W (i+1) m' σ' H')/\∀x H',(Itd lo n).yld i H x H'->g x σ H' fun σ2 H2=>tb { D with nx:=N,ct:=N,bk:=D.nx } σ2 H2):=by
 refine⟨fun i m σ H=>m=n-i/\i<=n/\Pv i σ H,⟨n,by simp,zh _,h0⟩,?_⟩
 rintro i m σ H ⟨rfl,hi,p⟩
 by_cases hlt:i<n
 . refine .inr ⟨hlt,Pv (i+1),fun σ' H' p'=>⟨n-(i+1),by omega,rfl,hlt,p'⟩,fun x H' y=>?_⟩
   obtain⟨e,y⟩:=y
   subst e y
   exact hs i σ _ hlt p
 . have e:i=n:=by omega
   subst e
   exact .inl ⟨zI _,hd σ H p⟩
end L2
namespace L2
open PySem PyProof.Rows
section
variable {X:Cx}
theorem zFi (hc:X.calm=true):zCo X (.builtin "min") (fun xs H Q=>∃(p:Addr)(ns:List Int),xs=[.ref p]/\SqL X.K H p (ns.map V.int)/\ns≠[]/\∀M,M∈ns->(∀a∈ns,M<=a)->Q (.int M) H):=by
 intro pins s σ H xs us Q I r h
 obtain⟨p,ns,rfl,hq,hne,q⟩:=h
 obtain⟨u,rfl,rx⟩:=zCn r
 cases rx
 obtain⟨its,rv,pl,hz⟩:=I.list hq
 have hi:=zBc rv
 have hil:=hi.length
 have hlp:p<s.heap.objs.size:=by
  obtain⟨o,_,ho,_⟩:=pl
  exact zV ho
 have hpos:0<ns.length:=List.length_pos_iff.mpr hne
 refine call_min_walk (wpAny_pyIter_list pl.isList ⟨s.heap.objs.size,[s.heap.objs.size,p],[s.heap.objs.size],its.toArray.size,_,_,fun i j=>decide (ns.getD i 0<ns.getD j 0),rfl,Walks.list (A:=X.A.in1) (I.ok.hd hc) s.heap.objs.size p (za hlp) its.toArray,⟨?_,?_⟩,?_,by simpa [hil] using hpos,?_,fun v h' tk hv kp=>?_⟩)
 . exact⟨_,zQ _ rfl,rfl,rfl⟩
 . obtain⟨o,ho,hr⟩:=pl.isList
   exact⟨o,zF _ ho,hr⟩
 . intro b hb
   rw[zAj]
   rcases ze.mp hb with rfl | hb
   . exact Nat.lt_succ_self _
   . rw[zk.mp hb];exact zAh hlp
 . intro i j vi vj s' Q' E' hvi hvj q'
   have hvi':its[i]? = some vi:=by simpa using hvi
   have hvj':its[j]? = some vj:=by simpa using hvj
   obtain⟨t1,rfl⟩:=hi.int_at i vi hvi'
   obtain⟨t2,rfl⟩:=hi.int_at j vj hvj'
   exact PyProof.Rows.lt_int q'
 . obtain⟨b1,b2⟩:=argBest_lt (fun i=>ns.getD i 0) (its.toArray.size-1)
   have hv':its[argBest (fun i j=>decide (ns.getD i 0<ns.getD j 0)) (its.toArray.size-1)]? = some v:=by simpa using hv
   generalize eb:argBest (fun i j=>decide (ns.getD i 0<ns.getD j 0)) (its.toArray.size-1)=bi at hv' b1 b2
   obtain⟨t,rfl⟩:=hi.int_at bi v hv'
   have hlt:bi<ns.length:=by have:=(zK.mp hv').1;omega
   have hK:Kp s h':=fun b o e=>kp b o (fun z=>absurd (zk.mp z) (za (zV e))) (zF _ e)
   refine⟨.int (ns.getD bi 0),H,I.kept hK,⟨t,rfl⟩,q _ ?_ fun m hm=>?_⟩
   . rw[zD,zC hlt];exact zBA hlt
   . obtain⟨j,hj,ej⟩:=zx hm
     have:=b2 j (by rw[zc];omega)
     have g1:ns.getD j 0=m:=by rw[zD,zC hj,ej];rfl
     rw[g1] at this
     exact this
end
end L2
namespace L2
open PySem PySem.Spec PyProof.Rows
theorem zHY {P:Program}{w:World}{K:PySem.W.Frag}{mg mb:Str->Option Value}{CX:CXT}{k:Nat}{fa a:Addr}{Ts:List Addr}{fd:FuncData}{x:Str}{sp:Sp}{s₁:Shared}{vs:List Value}{ns:List Int}
 (KX:K.In s₁.heap)(hns:s₁.heap.Ns mainGlobals mg)(hb:s₁.heap.Ns builtinsNs mb)(hbb:∀x:Str,x ≠ "__name__" -> mb x=bootBuiltins x) (hlim:s₁.heap.NoLimit)(hg:s₁.gens = #[])
 (ha:s₁.heap.get? a=some { cls:=.type "list",data:=.seq vs.toArray }) (hi:IntsAre vs ns)(hl:ns.length<=sizeLine)(hr:zCq k callerA)
 (hT:∀b∈Ts,s₁.heap.get? b=some (PySem.W.tabObj #[]))(hC:∀b∈Ts,isCodeTable s₁.heap b)(hK:PySem.W.noTabs K=true)(hbm:zG7 mg s₁.heap)
 (F:∀base:Heap,K.In base->base.Ns mainGlobals mg->zG7 mg base->zAb P w K mg base CX k fa fd [x] sp)(hbind:∀(s:Shared)(u:Value),BindsTo s fd ⟨[u],[]⟩ [(x,u)])
 (hsp:∀H:Hp,(∀b∈Ts,H b=some (.tbl #[]))->SqL K H a (ns.map V.int)->sp [.ref a] H (fun v _=>v = .bl true) fun _ _ _=>False)
 (hCX:∀H e s',CX [] H s₁ (fun _ _ _=>False) e s'->False) :
 codeAny (model P w) callerA (.call (.ref fa) ⟨[.ref a],[]⟩) (fun r s'=>r = .ok (.ret (.bool true))/\OldK s₁.heap s'.heap/\s'.os=s₁.os/\AllBare s'.gens) s₁:=by
 have rv:=zE2 hi
 have lenV:=hi.length
 have npa:a∉Ts:=fun e=>by
  have:=hT a e
  rw[ha] at this;cases this
 have kPT:∀b∈Ts,K.lookup b=none:=fun b hb'=>by
  cases q:K.lookup b with
  | none=>rfl
  | some o=>
   have e:=KX b o q
   rw[hT b hb'] at e
   cases e
   have h2:=zBH.mp hK (b,_) (PySem.W.mem_of_lookupK q)
   exact absurd (show false=true from h2) zm
 have core:∀H:Hp,(∀b u,H b=some u->(b∈Ts/\u = .tbl #[])\/(b=a/\K.lookup a=none/\∃o xs,u = .frz o (.lst xs)))->(∀b∈Ts,H b=some (.tbl #[]))->SqL K H a (ns.map V.int)->HOk P w H s₁.heap ->
  codeAny (model P w) callerA (.call (.ref fa) ⟨[.ref a],[]⟩) (fun r s'=>r = .ok (.ret (.bool true))/\OldK s₁.heap s'.heap/\s'.os=s₁.os/\AllBare s'.gens) s₁:=by
  intro H hA hP hS hok
  have base_of:∀{b:Addr}{o:Obj},s₁.heap.get? b=some o->H b=none->(zJa s₁.heap H).get? b=some o:=fun e n=>zKQ e n
  have noA:∀{b:Addr}{o:Obj},s₁.heap.get? b=some o->(∀ps,o.data ≠ .fields ps)->(∀ps n,o.data ≠ .seq ps n)->H b=none:=fun {b o} e d1 d2=>by
   cases q:H b with
   | none=>rfl
   | some u=>
    rcases hA b u q with ⟨hm,_⟩ | ⟨rfl,_⟩
    . rw[hT b hm] at e;cases e;exact absurd rfl (d1 #[])
    . rw[ha] at e;cases e;exact absurd rfl (d2 _ _)
  have nsK:∀{b:Addr}{m:Str->Option Value},s₁.heap.Ns b m->(zJa s₁.heap H).Ns b m:=fun {b m} ⟨o,es,ep,e,d,r⟩=>⟨o,es,ep,base_of e (noA e (fun ps z=>by rw[d] at z;cases z) (fun ps n z=>by rw[d] at z;cases z)),d,r⟩
  have hKb:K.In (zJa s₁.heap H):=fun b o e=>base_of (KX b o e) (by
   cases q:H b with
   | none=>rfl
   | some u=>
    rcases hA b u q with ⟨hm,_⟩ | ⟨rfl,z,_⟩
    . rw[kPT b hm] at e;cases e
    . rw[z] at e;cases e)
  have hBm:zG7 mg (zJa s₁.heap H):=by
   obtain⟨bm,ob,b1,b2,b3,b4,b5,b6⟩:=hbm
   exact⟨bm,ob,b1,b2,base_of b3 (noA b3 (fun ps z=>by rw[b6] at z;cases z) (fun ps n z=>by rw[b6] at z;cases z)),b4,b5,b6⟩
  have hM:Mod K mg (zJa s₁.heap H):=⟨hKb,nsK hns,⟨mb,nsK hb,hbb⟩,let ⟨mc,h1,h2⟩:=hlim;⟨mc,nsK h1,h2⟩⟩
  have e0:zMe P w K mg (zJa s₁.heap H) callerA [] s₁ H:=⟨rfl,hM,fun b o e=>zMD e,Nat.le_of_eq (zIr _ _),trivial,fun b hb=>absurd (show b∈([]:List Addr) from hb) (by simp),hok,.of_eq hg⟩
  refine codeAny_mono ((F _ hKb (nsK hns) hBm).run callerA [] s₁ H ⟨[.ref a],[]⟩ [.ref a] [.ref a] _ _ hr e0 (hbind s₁ (.ref a)) (.cons rfl .nil) (hsp H hP hS)) fun r s' h=>?_
  cases r with
  | error e=>exact (hCX H e s' h).elim
  | ok fl=>
   cases fl with
   | next=>exact False.elim h
   | brk=>exact False.elim h
   | cont=>exact False.elim h
   | ret u=>
    obtain⟨v,H',os,bare,un,hok',r',q⟩:=h
    have q':v = .bl true:=q
    subst q'
    obtain rfl:u=Value.bool true:=r'
    have objP:∀b∈Ts,∃more,s'.heap.get? b=some { cls:=.none,data:=.fields (#[]++more) }:=fun b hm=>by
     obtain⟨more,hPn⟩:=un.tbls b _ (hP b hm)
     exact⟨more,hok' b _ hPn⟩
    have keep:∀b o,b∉Ts->s₁.heap.get? b=some o->s'.heap.get? b=some o:=fun b o hb e=>by
     cases q:H b with
     | none=>exact un.keep b o e q (by intro z;exact absurd (show b∈([]:List Addr) from z) (by simp)) (by simp)
     | some u=>
      rcases hA b u q with ⟨z,_⟩ | ⟨_,_,ob,xs,z⟩
      . exact absurd z hb
      . subst z
        have z2:=un.frzs b ob _ q
        obtain⟨e1,_⟩:=hok b _ q
        obtain⟨e2,_⟩:=hok' b _ z2
        rw[e] at e1;cases e1
        exact e2
    refine⟨rfl,⟨fun b o e=>?_,fun b o e=>?_⟩,os,bare⟩
    . by_cases hb:b∈Ts
      . obtain⟨more,ob⟩:=objP b hb
        rw[hT b hb] at e;cases e
        exact .inr (.inl ⟨hC b hb,rfl,#[],more,rfl,ob⟩)
      . exact .inl (keep b o hb e)
    . by_cases hb:b∈Ts
      . obtain⟨more,ob⟩:=objP b hb
        exact⟨_,ob⟩
      . exact⟨o,keep b o hb e⟩
 cases hk:K.lookup a with
 | some o=>
  have e:=KX a o hk
  rw[ha] at e
  cases e
  refine core (fun b=>if b∈Ts then some (.tbl #[]) else none) (fun b u z=>?_) (fun b hm=>if_pos hm) (.inr ⟨_,vs.toArray,_,hk,rfl,rfl,rfl,by rw[zc,lenV];exact hl,by simpa using rv⟩) (fun b u z=>?_)
  all_goals
   have z':(if b∈Ts then some (HO.tbl #[]) else none)=some u:=z
   by_cases hb:b∈Ts
   . rw[if_pos hb] at z';cases z'
     first
      | exact .inl ⟨hb,rfl⟩
      | exact hT b hb
   . rw[if_neg hb] at z';cases z'
 | none=>
  refine core (fun b=>if b∈Ts then some (.tbl #[]) else if b=a then some (.frz { cls:=.type "list",data:=.seq vs.toArray } (.lst (ns.map V.int))) else none) (fun b u z=>?_) (fun b hm=>if_pos hm)
   (.inl (.inr ⟨{ cls:=.type "list",data:=.seq vs.toArray },by show (if a∈Ts then _ else if a=a then _ else _)=_;rw[if_neg npa,if_pos rfl]⟩)) (fun b u z=>?_)
  all_goals
   have z':(if b∈Ts then some (HO.tbl #[]) else if b=a then some (.frz { cls:=.type "list",data:=.seq vs.toArray } (.lst (ns.map V.int))) else none)=some u:=z
   by_cases hb:b∈Ts
   . rw[if_pos hb] at z';cases z'
     first
      | exact .inl ⟨hb,rfl⟩
      | exact hT b hb
   . rw[if_neg hb] at z'
     by_cases hba:b=a
     . rw[if_pos hba] at z';cases z'
       first
        | exact .inr ⟨hba,hk,_,_,rfl⟩
        | (subst hba;exact⟨ha,by rw[zB];exact hl,vs,_,rv,ha⟩)
     . rw[if_neg hba] at z';cases z'
theorem walk_T2 {l:PySem.W.OpenLaw}{n k:Nat}{q:Program}{loose:List Str}{XP:(Str->Option Value)->Heap->Prop}{YP:World->Heap->Prop}{d:DefRec}{K:Params->PySem.W.Frag}{CX:CXT}{sp:PySem.W.Frag->Addr->Addr->Sp}{x tn t2:Str}
 (hn:l.most=some n)(hn2:n<=sizeLine)(hdf:d.params.defaults=[])(hr:zCq k callerA)(hrec:∃dn,(recsOf q).find? (fun e=>e.name==tn)=some dn)(hrec2:∃dn,(recsOf q).find? (fun e=>e.name==t2)=some dn)
 (hY:∀(w:World)(h:Heap),YP w h->(K w.params).In h)
 (F:∀(w:World)(mg:Str->Option Value)(fa:Addr)(h:Heap),(K w.params).In h->h.Ns mainGlobals mg->mg d.name=some (.ref fa) ->
  ∃(fd:FuncData)(c PT c2 PQ:Addr),PySem.W.tabIn (K w.params) tn=some (c,PT)/\PySem.W.tabIn (K w.params) t2=some (c2,PQ)/\PySem.W.noTabs (K w.params)=true/\(∀(s:Shared)(u:Value),BindsTo s fd ⟨[u],[]⟩ [(x,u)]) /\
   ∀base:Heap,(K w.params).In base->base.Ns mainGlobals mg->zG7 mg base->zAb l.prog w (K w.params) mg base CX k fa fd [x] (sp (K w.params) PT PQ))
 (hsp:∀(K:PySem.W.Frag)(PT PQ:Addr)(H:Hp)(a:Addr)(ns:List Int),ns.length<=n->H PT=some (.tbl #[])->H PQ=some (.tbl #[])->SqL K H a (ns.map V.int)->sp K PT PQ [.ref a] H (fun v _=>v = .bl true) fun _ _ _=>False)
 (hCX:∀(H:Hp)(s:Shared)(e:Value)(s':Shared),CX [] H s (fun _ _ _=>False) e s'->False) :
 PySem.W.WalkO q loose XP YP l.row.toRowW d [] (fun f vs=>PySem.call f vs):=by
 refine Att.attach_call hn hdf fun w s₀ s₁ mg mb fa o pm cd doc a vs ns G Y ho hd hcd hmg hobj hints hlen hg=>?_
 have KX:=hY w _ Y
 obtain⟨fd,c,PT,c2,PQ,htab,htab2,hnt,hb,hF⟩:=F w mg fa _ KX G.T.g hmg
 obtain⟨dn,hdn⟩:=hrec
 obtain⟨dn2,hdn2⟩:=hrec2
 obtain⟨C,hPT⟩:=PySem.W.tab_of G.T KX hdn htab
 obtain⟨C2,hPQ⟩:=PySem.W.tab_of G.T KX hdn2 htab2
 refine zHY (Ts:=[PT,PQ]) KX G.T.g G.T.b G.T.builtins G.T.nolimit hg hobj hints (zAE hlen hn2) hr (fun b hm=>?_) (fun b hm=>?_) hnt G.T.bmain hF hb (fun H hP hS=>hsp _ PT PQ H a ns hlen (hP PT (by simp)) (hP PQ (by simp)) hS) fun H e s'=>hCX H s₁ e s'
 . rcases ze.mp hm with rfl | hm
   . exact hPT
   . rw[zk.mp hm];exact hPQ
 . rcases ze.mp hm with rfl | hm
   . exact (C.tab hPT).isCodeTable
   . rw[zk.mp hm];exact (C2.tab hPQ).isCodeTable
end L2
namespace L2
section
open PySem PySem.W PyProof.Rows
noncomputable def zEb (p:Program)(w:World)(n₀:Nat)(ann:Option Value):Nat->SharedT->Thread->Option SharedT
 | 0,_,_=>none
 | n+1,s,t=>match through t with
  | true=>some s
  | false=>match Fast.tw6613529449190102663 n₀ ann t with
   | false=>none
   | true=>match Fast.tw10156331382660048174 (Fast.tw11892475500146522536 Fast.tw14364793385576792824) p w s t with
    | some (s',t')=>zEb p w n₀ ann n s' t'
    | none=>none
theorem zE5 {p:Program}{w:World}{n₀:Nat}{ann:Option Value}:∀{n:Nat}{s s':SharedT}{t:Thread},zEb p w n₀ ann n s t=some s'->topRun treeTable p w n₀ ann n s.abs t=some s'.abs
 | 0,_,_,_,h=>by cases h
 | n+1,s,s',t,h=>by
  unfold zEb at h
  rw[<-Fast.te6613529449190102663,<-Fast.te10156331382660048174,<-Fast.te11892475500146522536,<-Fast.te14364793385576792824] at h
  unfold topRun
  cases he:through t with
  | true=>rw[he] at h;cases h;rfl
  | false=>
   rw[he] at h
   cases hk:stepOk n₀ ann t with
   | false=>rw[hk] at h;cases h
   | true=>
    rw[hk] at h
    cases hs:stepT (denote treeTable) p w s t with
    | none=>rw[hs] at h;cases h
    | some r=>obtain⟨s₂,t₂⟩:=r;rw[hs] at h;rw[stepT_spec hs];exact zE5 h
noncomputable def bt:List Obj->Nat->BT->BT
 | [],_,t=>t
 | o::l,i,t=>bt l (i+1) (t.ins i o)
noncomputable def bT (P:Params):BT:=bt (boot_heap P).objs.toList 0 .nil
noncomputable def bS (w:World)(os:OsState):SharedT:=⟨bT w.params,(boot_heap w.params).objs.size,(boot_heap w.params).life,Array.mk [],boot_drawn,boot_toks,os⟩
theorem bA (w:World)(os:OsState):(bS w os).abs=⟨boot_heap w.params,Array.mk [],boot_drawn,boot_toks,os⟩:=by kernel_rfl
noncomputable abbrev runT (p:Program)(N:Nat)(w:World)(os:OsState):Option SharedT:=zEb p w (boot_heap w.params).objs.size ((boot_heap w.params).nsMap mainGlobals "__annotations__") N (bS w os) (topStub p)
noncomputable abbrev chkT (p:Program)(h h':Heap)(s:Shared):Bool:=staticsOk (importedModules p.main.body) h h' && namesBound p h' && gensDone s && laidKept h h'
theorem left_of {p q:Program}{loose:List Str}{Xt:Shared->Bool}{α:Type}{Yf:Shared->α}{Ya:World->α}{N:Nat}(e:opening p=plainProg p.main.scope.names)(hN:Nat.ble 600 N=true)(f:∀s,fenceModules? p s=some s)
 (h:∀(w:World)(os:OsState),(runT p N w os).map (fun s=>(chkT p (boot_heap w.params) s.abs.heap s.abs,Fast.tw4187177175401517315 q loose (importedModules p.main.body) Xt true s.abs,Yf s.abs))=some (true,openGood q loose,Ya w)):LeftO p q loose Xt Yf Ya N:=by
 intro w
 obtain⟨⟨h0,gs,d,k,os⟩,e1,e2⟩:=Option.map_eq_some_iff.mp (boot_open e hN f w)
 obtain⟨rfl,rfl,rfl,rfl⟩:h0=boot_heap w.params/\gs=Array.mk []/\d=boot_drawn/\k=boot_toks:=by simpa using e2
 obtain⟨s,r,a⟩:=Option.map_eq_some_iff.mp (h w os)
 obtain⟨b,a⟩:=Prod.mk.inj a
 rw[<-Fast.te4187177175401517315] at a
 have y:=zE5 r
 rw[bA] at y
 unfold openEnds
 rw[e1]
 show (topFrom treeTable p w N _).map _=_
 unfold topFrom
 have z:((boot_heap w.params).isNs mainGlobals && (Array.mk []:Array GenState).size==0)=true:=by kernel_rfl
 dsimp only
 rw[z]
 dsimp only
 rw[y]
 show Option.map _ (match chkT p (boot_heap w.params) s.abs.heap s.abs with | true=>some s.abs | false=>none)=_
 rw[b]
 exact congrArg some a
end
end L2
namespace K37
open PySem L2 WM
noncomputable def top (i:Nat):Stmt:=PySem.Challenge.pw_labelways_k37_whole_let_by_is_least.main.body.getD i (.Pass ⟨0,0,0,0⟩)
noncomputable def mth (k i:Nat):Stmt:=match top k with
 | .ClassDef _ _ _ body ..=>body.getD i (.Pass ⟨0,0,0,0⟩)
 | _=>.Pass ⟨0,0,0,0⟩
noncomputable abbrev zJw:Stmt:=top 41
noncomputable abbrev zEh:Stmt:=top 42
noncomputable abbrev sWeb:Stmt:=top 43
noncomputable abbrev zF0:Stmt:=top 11
noncomputable abbrev zIA:Stmt:=top 15
noncomputable abbrev zIE:Stmt:=top 14
noncomputable abbrev zHG:Stmt:=top 13
noncomputable abbrev sBwr:Stmt:=top 16
noncomputable abbrev sNbr:Stmt:=top 17
noncomputable abbrev zKw:Stmt:=top 6
noncomputable abbrev sWi:Stmt:=top 7
noncomputable abbrev sPl:Stmt:=top 9
noncomputable abbrev sTof:Stmt:=top 8
noncomputable abbrev sOrd:Stmt:=top 19
noncomputable abbrev sByo:Stmt:=top 20
noncomputable abbrev sLbr:Stmt:=top 21
noncomputable abbrev sIsh:Stmt:=top 22
noncomputable abbrev sEbr:Stmt:=top 23
noncomputable abbrev sTot:Stmt:=top 24
noncomputable abbrev sCf:Stmt:=top 27
noncomputable abbrev sSf:Stmt:=top 28
noncomputable abbrev sSn:Stmt:=top 29
noncomputable abbrev zIC:Stmt:=top 30
noncomputable abbrev sRtm:Stmt:=top 31
noncomputable abbrev zID:Stmt:=top 32
noncomputable abbrev zH9:Stmt:=top 33
noncomputable abbrev zHI:Stmt:=top 34
noncomputable abbrev sLpl:Stmt:=top 35
noncomputable abbrev zKx:Stmt:=top 36
noncomputable abbrev zJz:Stmt:=top 37
noncomputable abbrev zIB:Stmt:=top 38
noncomputable abbrev zHH:Stmt:=top 39
noncomputable abbrev sAdd:Stmt:=top 44
noncomputable abbrev sLes:Stmt:=top 45
noncomputable abbrev sFar:Stmt:=top 46
noncomputable abbrev sOn:Stmt:=top 47
noncomputable abbrev zGc:Stmt:=top 48
noncomputable abbrev zJy:Stmt:=top 49
noncomputable abbrev zLb:Stmt:=top 50
noncomputable abbrev zJ1:Stmt:=top 51
noncomputable abbrev zJ0:Stmt:=top 52
noncomputable abbrev sLeo:Stmt:=top 53
noncomputable abbrev zJ2:Stmt:=top 54
noncomputable abbrev sLet:Stmt:=top 55
noncomputable abbrev zJx:Stmt:=top 56
noncomputable abbrev sI1:Stmt:=mth 2 0
noncomputable abbrev sLaw:Stmt:=top 57
noncomputable def zD0 (H:Hp)(t p:Addr)(N:Nat):Prop:=∃(ns:List Int)(spot rest:Int),H t=some (.lst [.ref p,.int spot,.int rest])/\H p=some (.lst (ns.map V.int))/\p≠t/\0<=spot/\spot<=N/\0<=rest/\ns.length<=63
noncomputable def zAY (H:Hp)(t:Addr)(N:Nat):Prop:=∃p:Addr,zD0 H t p N
theorem zAY.mono {H:Hp}{t:Addr}{N M:Nat}(h:zAY H t N)(l:N<=M):zAY H t M:=by
 obtain⟨p,ns,spot,rest,a,b,c,d,e,f⟩:=h
 exact⟨p,ns,spot,rest,a,b,c,d,by omega,f⟩
noncomputable def Sm (t:Addr)(H H':Hp):Prop:=∀b o,b≠t->H b=some o->H' b=some o
theorem Sm.trans {t:Addr}{H H1 H2:Hp}(a:Sm t H H1)(b:Sm t H1 H2):Sm t H H2:=fun c o n e=>b c o n (a c o n e)
theorem Sm.of {t:Addr}{H H':Hp}(h:zAy H H'):Sm t H H':=fun b o _ e=>h b o e
theorem Sm.laid {t l:Addr}{H:Hp}{o:HO}(h:H l=none):Sm t H (upd H l o):=fun b u _ e=>by rw[zX (zi e h)];exact e
theorem Sm.chg {t l:Addr}{H H':Hp}{o:HO}(s:Sm t H H')(h:H l=none):Sm t H (upd H' l o):=fun b u n e=>by rw[zX (zi e h)];exact s b u n e
theorem zL {l:Addr}{H:Hp}{o:HO}(h:H l=none):zAy H (upd H l o):=fun b u e=>by rw[zX (zi e h)];exact e
theorem zAr {l:Addr}{H H':Hp}{o:HO}(s:zAy H H')(h:H l=none):zAy H (upd H' l o):=fun b u e=>by rw[zX (zi e h)];exact s b u e
theorem zAY.keep {H H':Hp}{t:Addr}{N:Nat}(h:zAY H t N)(k:zAy H H'):zAY H' t N:=by
 obtain⟨p,ns,spot,rest,a,b,c⟩:=h
 exact⟨p,ns,spot,rest,k _ _ a,k _ _ b,c⟩
theorem zAY.laid {H:Hp}{t l:Addr}{N:Nat}{o:HO}(h:zAY H t N)(hl:H l=none):zAY (upd H l o) t N:=h.keep (zL hl)
theorem zAY.ne {H:Hp}{t b:Addr}{N:Nat}(h:zAY H t N)(hb:H b=none):b≠t:=by
 obtain⟨p,ns,spot,rest,a,_⟩:=h
 exact (zi a hb).symm
theorem zAY.chg {H:Hp}{t l:Addr}{N:Nat}{o u:HO}(h:zAY H t N)(hl:H l=some u)(hu:∀xs,u ≠ .lst xs):zAY (upd H l o) t N:=by
 obtain⟨p,ns,spot,rest,a,b,c⟩:=h
 exact⟨p,ns,spot,rest,by rw[zX (zBw a hl fun z=>hu _ z.symm)];exact a,by rw[zX (zBw b hl fun z=>hu _ z.symm)];exact b,c⟩
theorem zD0.keepF {H H':Hp}{t p:Addr}{N M:Nat}(h:zD0 H t p N)(k1:∀o,H t=some o->H' t=some o)(k2:∀o,H p=some o->H' p=some o)(l:N<=M):zD0 H' t p M:=by
 obtain⟨ns,spot,rest,a,b,c,d,e,f⟩:=h
 exact⟨ns,spot,rest,k1 _ a,k2 _ b,c,d,by omega,f⟩
noncomputable def zEd:Sp:=fun vs H Q _=>∃(t p:Addr)(N:Nat)(many:Int),vs=[.ref t,.int many]/\zD0 H t p N/\N<1000000/\0<many/\many<1000000 /\
 ∀(r:Int)(H':Hp),0<=r->r<many->zD0 H' t p (N+1)->(∀b,b≠t->H' b=H b)->Q (.int r) H'
noncomputable def zH3:Sp:=fun vs H Q _=>∃(t:Addr)(N:Nat)(many:Int),vs=[.ref t,.int many]/\zAY H t N/\N<1000000/\0<many/\many<1000000 /\
 ∀(r:Int)(H':Hp),0<=r->r<many->zAY H' t (N+1)->(∀b,b≠t->H' b=H b)->Q (.int r) H'
noncomputable def zKl (K:PySem.W.Frag):Sp:=fun vs H Q _=>∃(a:Addr)(ns:List Int),vs=[.ref a]/\SqL K H a (ns.map V.int)/\ns.length<=63/\∀(t:Addr)(H':Hp),H t=none->zAY H' t 0->zAy H H'->Q (.ref t) H'
section
variable {P:Program}{w:World}{K:PySem.W.Frag}{mg:Str->Option Value}{base:Heap}
theorem scTape:zAB ["_law_script"] ["_law_script"] (defScope zJw):=⟨rfl,rfl,rfl,by decide +kernel,rfl,by decide +kernel,by decide +kernel⟩
theorem zLw {f:Addr}{fd:FuncData}(F:Fun K "_law_tape" "_law_tape" zJw f fd):zAb P w K mg base CX0 1 f fd ["_law_script"] (zKl K):=by
 refine F.ok scTape (fun vs H Q E h=>?_) (fun cdv A outer s H vs Q E hr h=>?_)
 . obtain⟨a,ns,rfl,_⟩:=h
   rfl
 . obtain⟨a,ns,rfl,hS,hl,k⟩:=h
   refine⟨_,zf (zAT (zB9 (zE (zEl zLV (pv 0) zF3 (zF2 zj)) (zB6 (zB6 zO))))),?_⟩
   refine⟨_,rfl,_,rfl,a,_,rfl,hS,fun p hp=>⟨by show 3<=sizeLine;decide,fun t ht=>?_⟩⟩
   have npt:p≠t:=fun e=>by rw[e,zH] at ht;cases ht
   have e1:zFv (ns.map V.int) none (some 63)=(ns.take 63).map V.int:=by
    unfold zFv
    rw[HT.sIx_none,List.drop_zero,Nat.sub_zero,zB,show (63:Int)=((63:Nat):Int) from rfl,HT.sIx_nat,List.map_take]
    rw[show min 63 ns.length=ns.length by omega,zY (by rw[zB];exact zI _),zY (by rw[zB];exact hl)]
   have ht0:H t=none:=by rw[zX npt.symm] at ht;exact ht
   refine k t _ ht0 ⟨p,ns.take 63,0,0,zH,?_,npt,zBt _,zBt _,zBt _,by rw[zr];omega⟩ ?_
   . rw[zX npt,zH,e1]
   . exact zAr (zL hp) ht0
theorem zFC:zAB ["_law_tape_here", "_law_many", "_law_found", "_law_spot", "_law_cell", "_law_mixed"] ["_law_tape_here", "_law_many"] (defScope zEh):=⟨rfl,rfl,rfl,by decide +kernel,rfl,by decide +kernel,by decide +kernel⟩
theorem zDi {a m:Int}(h:0<m):0<=a%m/\a%m<m:=⟨Int.emod_nonneg _ (by omega),Int.emod_lt_of_pos _ h⟩
theorem zDT {f:Addr}{fd:FuncData}(F:Fun K "_law_draw" "_law_draw" zEh f fd) (mLen:mg "len" = none):zAb P w K mg base CX0 1 f fd ["_law_tape_here", "_law_many"] zEd:=by
 refine F.ok zFC (fun vs H Q E h=>?_) (fun cdv A outer s H vs Q E hr h=>?_)
 . obtain⟨t,p,N,many,rfl,_⟩:=h
   rfl
 . obtain⟨t,p,N,many,rfl,T,hN,hm0,hm1,k⟩:=h
   obtain⟨ns,spot,rest,ht,hp,hne,hs0,hs1,hr0,hl⟩:=T
   refine⟨_,zT (zBz (zAQ zHO (zAK zAU (pv 0) zj (fun _ _=>rfl)) zj (zAa _))
    (zT (zAP (i:=2) zFC.nd rfl (Or.inl rfl) (zAc zDh (zAK zAU (pv 0) zj (fun _ _=>rfl)) (pv 1)))
    (zT (zCM (zAc zEn (zAK zAU (pv 0) zj (fun _ _=>rfl)) (pv 1)) (zCR (pv 0) zj zBb))
    (zf (zAT (pv 2))))) zAw)
    (zT (zAP (i:=3) zFC.nd rfl (Or.inl rfl) (zAK zAU (pv 0) zj (fun _ _=>rfl)))
    (zT (zCM (zAc zBe (pv 3) zj) (zCR (pv 0) zj zBb))
    (zT (zAP (i:=4) zFC.nd rfl (Or.inl rfl) (zC2 (zAQ zHO (zAL zAX (by rfl) mLen PySem.boot_len (zE (zAK zAU (pv 0) zj (fun _ _=>rfl)) zO)) zj (zAa _))
     (zAK zAU (zAK zAU (pv 0) zj (fun _ _=>rfl)) (zAc zDh (pv 3) (zAL zAX (by rfl) mLen PySem.boot_len (zE (zAK zAU (pv 0) zj (fun _ _=>rfl)) zO))) (fun _ _=>rfl)) zj))
    (zT (zBz (zGg (zAQ op_ge (pv 4) (zAc op_pow zj zj) (zAa _)) (zEj (zAQ zLq (pv 3) (zAL zAX (by rfl) mLen PySem.boot_len (zE (zAK zAU (pv 0) zj (fun _ _=>rfl)) zO)) (zAa _)))).pt
     (zT (zCM (zAc zEn (pv 4) (pv 1)) (zCR (pv 0) zj zBb)) (zf (zAT (zAc zDh (pv 4) (pv 1))))) zAw)
    (zT (zAP (i:=5) zFC.nd rfl (Or.inl rfl) (zAc zDh (zAc zFJ (zAc zBe (zAc zDh (pv 4) zj) zj) (zAc zBe zj (zAc zFJ zj (pv 3)))) zj))
    (zf (zAT (zAc zDh (zAc zEn (zAc zDh (zAc zFJ (zAc zBe (pv 5) (zAc zFJ (zAc zFJ zj (pv 3)) (pv 3))) zj) zj) zj) (pv 1))))))))),?_⟩
   have cd:CDiv 0 many:=⟨hm0,by omega⟩
   refine⟨_,rfl,t,_,_,_,rfl,rfl,SqL.of ht,rfl,_,_,rfl,rfl,_,rfl,?_⟩
   refine zFT (fun hc=>?_) (fun hc=>?_)
   . have hpos:0<rest:=of_decide_eq_true hc
     refine⟨_,rfl,t,_,_,_,rfl,rfl,SqL.of ht,rfl,_,rfl,_,_,rfl,rfl,hm0,?_⟩
     refine⟨_,rfl,t,_,_,_,rfl,rfl,SqL.of ht,rfl,_,rfl,_,_,rfl,rfl,cd,?_⟩
     refine⟨_,rfl,t,_,_,2,rfl,rfl,ht,rfl,?_⟩
     refine⟨_,rfl,?_⟩
     refine k _ _ (zDi hm0).1 (zDi hm0).2 ⟨ns,spot,rest/many,zH,by rw[zX hne];exact hp,hne,hs0,by omega,Int.ediv_nonneg hr0 (by omega),hl⟩ fun b hb=>zX hb
   . -- spot=tape[1];tape[1]=spot+1
     refine⟨_,rfl,t,_,_,_,rfl,rfl,SqL.of ht,rfl,?_⟩
     refine⟨_,rfl,_,_,rfl,rfl,_,rfl,t,_,_,1,rfl,rfl,ht,rfl,?_⟩
     have ht1:(upd H t (.lst [.ref p,.int (spot+1),.int rest])) t=some (.lst [.ref p,.int (spot+1),.int rest]):=zH
     have hp1:(upd H t (.lst [.ref p,.int (spot+1),.int rest])) p=some (.lst (ns.map V.int)):=by rw[zX hne];exact hp
     have ex:0<((ns.map V.int).length:Int)->∃c,atI (ns.map V.int) (spot%((ns.map V.int).length:Int))=some (.int c):=fun h=>by
      have hb:=zDi (a:=spot) h
      obtain⟨j,hj⟩:=Int.eq_ofNat_of_zero_le hb.1
      have hlt:j<ns.length:=by
       have h2:=hb.2
       rw[hj,zB] at h2
       omega
      refine⟨ns[j],?_⟩
      rw[hj]
      exact zBx (by simp[hlt])
     refine⟨_,rfl,t,_,_,_,rfl,rfl,SqL.of ht1,rfl,p,_,rfl,.inl (SqL.of hp1),_,_,rfl,rfl,_,rfl,?_⟩
     refine zFT (fun h2=>?a) (fun h2=>?b)
     case' a=>
      obtain⟨c,hc⟩:=ex (of_decide_eq_true h2)
      refine⟨_,rfl,t,_,_,_,rfl,rfl,SqL.of ht1,rfl,_,rfl,_,rfl,t,_,_,_,rfl,rfl,SqL.of ht1,rfl,p,_,rfl,.inl (SqL.of hp1),_,_,rfl,rfl,of_decide_eq_true h2,p,_,_,_,rfl,rfl,SqL.of hp1,hc,?_⟩
     all_goals
      refine⟨_,rfl,_,_,rfl,rfl,⟨by decide,by decide,by decide⟩,_,_,rfl,rfl,_,rfl,?_⟩
      refine zFT (fun h3=>?_) (fun h3=>?_)
     all_goals first
      | (refine⟨_,rfl,_,rfl,t,_,_,_,rfl,rfl,SqL.of ht1,rfl,p,_,rfl,.inl (SqL.of hp1),_,_,rfl,rfl,_,rfl,?_⟩;refine zFT (fun h4=>?_) (fun h4=>?_))
      | refine zD2 ?_
     all_goals first
      | (refine⟨_,rfl,_,rfl,_,_,rfl,rfl,⟨hm0,by omega⟩,_,rfl,t,_,_,2,rfl,rfl,ht1,rfl,?_⟩
         refine⟨_,rfl,_,rfl,_,_,rfl,rfl,hm0,?_⟩
         refine k _ _ (zDi hm0).1 (zDi hm0).2 ⟨ns,spot+1,_,zH,by rw[zX hne];exact hp1,hne,by omega,by omega,Int.ediv_nonneg (Int.le_trans (show (0:Int)<=10 ^ (18:Int).toNat by decide) (of_decide_eq_true h3)) (by omega),hl⟩ fun b hb=>by rw[zX hb,zX hb])
      | (refine⟨_,rfl,_,_,rfl,rfl,(by dsimp only;decide),_,_,rfl,rfl,_,rfl,_,_,rfl,rfl,.inl ⟨by decide,by decide⟩,_,_,rfl,rfl,_,_,rfl,rfl,.inl ⟨by omega,by omega⟩,_,_,rfl,rfl,(by dsimp only;decide),?_⟩
         refine⟨_,rfl,_,rfl,_,_,rfl,rfl,.inl ⟨by decide,by decide⟩,_,rfl,_,_,rfl,rfl,.inr ⟨by omega,by omega⟩,_,_,rfl,rfl,_,_,rfl,rfl,.inr ⟨by decide,by decide⟩,_,_,rfl,rfl,(by dsimp only;decide),_,_,rfl,rfl,⟨by decide,by decide⟩,_,rfl,_,_,rfl,rfl,hm0,?_⟩
         refine k _ _ (zDi hm0).1 (zDi hm0).2 ⟨ns,spot+1,rest,ht1,hp1,hne,by omega,by omega,hr0,hl⟩ fun b hb=>zX hb)
theorem zIS {f:Addr}{fd:FuncData}(F:Fun K "_law_draw" "_law_draw" zEh f fd) (mLen:mg "len" = none):zAb P w K mg base CX0 1 f fd ["_law_tape_here", "_law_many"] zH3:=
 (zDT F mLen).imp fun vs H Q E ⟨t,N,many,e,⟨p,T⟩,a,b,c,k⟩=>⟨t,p,N,many,e,T,a,b,c,fun r H' h0 h1 T' he=>k r H' h0 h1 ⟨p,T'⟩ he⟩
end
end K37
namespace K37
open PySem L2 WM
theorem zIc {L:List Int}{r:Int}(h0:0<=r)(h1:r<L.length):∃n,n∈L/\atI (L.map V.int) r=some (.int n):=by
 obtain⟨j,rfl⟩:=Int.eq_ofNat_of_zero_le h0
 have hj:j<L.length:=by omega
 exact⟨L[j],zBA hj,zBx (by simp[hj])⟩
noncomputable def zBd (H:Hp)(wa:Addr)(n:Int)(ts:List T3):Prop:=∃(ta:Addr)(tys:List V),H wa=some (.tup [.int n,.ref ta])/\H ta=some (.tup tys)/\zAk H tys (ts.map tl)/\GW n ts
theorem zBd.keepT {H H':Hp}{wa:Addr}{n:Int}{ts:List T3}(h:zBd H wa n ts)(k:∀b ys,H b=some (.tup ys)->H' b=some (.tup ys)):zBd H' wa n ts:=by
 obtain⟨ta,tys,a,b,c,d⟩:=h
 exact⟨ta,tys,k _ _ a,k _ _ b,c.keep k,d⟩
theorem zBd.keep {H H':Hp}{wa:Addr}{n:Int}{ts:List T3}(h:zBd H wa n ts)(k:zAy H H'):zBd H' wa n ts:=h.keepT fun b _ e=>k b _ e
theorem zBd.sm {H H':Hp}{wa t:Addr}{N:Nat}{n:Int}{ts:List T3}(h:zBd H wa n ts)(T:zAY H t N)(k:Sm t H H'):zBd H' wa n ts:=h.keepT fun b _ e=>by
 obtain⟨p,ns,spot,rest,a,_⟩:=T
 exact k b _ (zBw e a (by intro z;cases z)) e
noncomputable def spWeb:Sp:=fun vs H Q _=>∃(t:Addr)(N:Nat)(n:Int),vs=[.ref t,.int n]/\zAY H t N/\N<900000/\1<=n/\n<=24 /\
 ∀(wa:Addr)(ts:List T3)(H':Hp),H wa=none->zBd H' wa n ts->zAY H' t (N+200)->Sm t H H'->Q (.ref wa) H'
noncomputable def JD (n:Int)(kvs:List (List Key×V)):Prop:=(∀kv∈kvs,∃a b l:Int,kv=([Sum.inl a,Sum.inl b],V.int l)/\0<=a/\a<b/\b<n/\1<=l/\l<=99)/\(kvs.map (·.1)).Nodup
theorem JD.nil (n:Int):JD n []:=⟨fun _ h=>by simp at h,List.nodup_nil⟩
theorem JD.put {n:Int}{kvs:List (List Key×V)}(h:JD n kvs){a b l:Int}(h0:0<=a)(h1:a<b)(h2:b<n)(h3:1<=l)(h4:l<=99):JD n (zCz kvs [Sum.inl a,Sum.inl b] (.int l)):=by
 cases e:zCS kvs [Sum.inl a,Sum.inl b] with
 | none=>
  refine⟨fun kv hkv=>?_,zIW _ h.2 e⟩
  rw[zGi _ e] at hkv
  rcases zAC.mp hkv with q | q
  . exact h.1 kv q
  . rw[zk.mp q];exact⟨a,b,l,rfl,h0,h1,h2,h3,h4⟩
 | some v=>
  have ha:(kvs.any fun kv=>decide (kv.1=[Sum.inl a,Sum.inl b]))=true:=by rw[zB2,e];rfl
  unfold zCz
  rw[if_pos ha]
  refine⟨fun kv hkv=>?_,?_⟩
  . obtain⟨q,hq,e2⟩:=zp.mp hkv
    by_cases hk:q.1=[Sum.inl a,Sum.inl b]
    . rw[if_pos hk,hk] at e2;rw[<-e2];exact⟨a,b,l,rfl,h0,h1,h2,h3,h4⟩
    . rw[if_neg hk] at e2;rw[<-e2];exact h.1 q hq
  . have e3:(kvs.map fun kv=>if kv.1=[Sum.inl a,Sum.inl b] then (kv.1,V.int l) else kv).map (·.1)=kvs.map (·.1):=by
     rw[zBp]
     refine zBS fun kv _=>?_
     show (if kv.1=[Sum.inl a,Sum.inl b] then (kv.1,V.int l) else kv).1=kv.1
     split <;> rfl
    rw[e3];exact h.2
noncomputable def unk:Key->Int
 | .inl i=>i
 | .inr _=>0
noncomputable def zD9 (kvs:List (List Key×V)):List (List Int):=kvs.map fun kv=>kv.1.map unk
theorem JD.keys {n:Int}{kvs:List (List Key×V)}(h:JD n kvs):kvs.map (·.1)=(zD9 kvs).map (List.map Sum.inl):=by
 unfold zD9
 rw[zBp]
 refine zBS fun kv hkv=>?_
 obtain⟨a,b,l,e,_⟩:=h.1 kv hkv
 rw[e];rfl
theorem JD.ne {n:Int}{kvs:List (List Key×V)}(h:JD n kvs):∀k∈zD9 kvs,k≠[]:=fun k hk=>by
 obtain⟨kv,hkv,e⟩:=zp.mp hk
 obtain⟨a,b,l,e2,_⟩:=h.1 kv hkv
 rw[<-e,e2];simp[List.map]
theorem JD.nd {n:Int}{kvs:List (List Key×V)}(h:JD n kvs):(zD9 kvs).Nodup:=by
 have e:=h.2
 rw[h.keys] at e
 rw[List.Nodup,zAt] at e
 exact e.imp fun h e'=>h (by rw[e'])
theorem JD.val {n:Int}{kvs:List (List Key×V)}(h:JD n kvs){k:List Int}(hk:k∈zD9 kvs):∃a b l,k=[a,b]/\zCS kvs [Sum.inl a,Sum.inl b]=some (.int l)/\0<=a/\a<b/\b<n/\1<=l/\l<=99:=by
 obtain⟨kv,hkv,e⟩:=zp.mp hk
 obtain⟨a,b,l,e2,h0,h1,h2,h3,h4⟩:=h.1 kv hkv
 have ek:k=[a,b]:=by rw[<-e,e2];rfl
 have hm:(kvs.any fun kv=>decide (kv.1=[Sum.inl a,Sum.inl b]))=true:=List.any_eq_true.mpr ⟨kv,hkv,zU (by rw[e2])⟩
 rw[zB2] at hm
 cases hv:zCS kvs [Sum.inl a,Sum.inl b] with
 | none=>rw[hv] at hm;cases hm
 | some v=>
  have hv0:=hv
  unfold zCS at hv
  cases hf:kvs.find? fun kv=>decide (kv.1=[Sum.inl a,Sum.inl b]) with
  | none=>rw[hf] at hv;cases hv
  | some q=>
   rw[hf] at hv
   obtain⟨a',b',l',e3,_,_,_,g3,g4⟩:=h.1 q (List.mem_of_find?_eq_some hf)
   have ev:v = .int l':=by rw[e3] at hv;exact (zP hv).symm
   exact⟨a,b,l',ek,by rw[hv0,ev],h0,h1,h2,g3,g4⟩
section
variable {P:Program}{w:World}{K:PySem.W.Frag}{mg:Str->Option Value}{base:Heap}
end
section
variable {P:Program}{w:World}{K:PySem.W.Frag}{mg:Str->Option Value}{base:Heap}
structure WI (H:Hp)(t d la:Addr)(n:Int)(N m:Nat)(H2:Hp):Prop where
 sm:Sm t H H2
 tp:zAY H2 t N
 dc:∃kvs,H2 d=some (.dT kvs)/\JD n kvs/\kvs.length<=m
 lg:∃l0 l1 l2:Int,H2 la=some (.lst [.int l0,.int l1,.int l2])/\(∀l∈[l0,l1,l2],1<=l/\l<=99)
theorem WI.draw {H H2 H3:Hp}{t d la:Addr}{n:Int}{N m:Nat}(h:WI H t d la n N m H2)(hd:d≠t)(hl:la≠t)(T:zAY H3 t (N+1))(he:∀b,b≠t->H3 b=H2 b):WI H t d la n (N+1) m H3:=by
 refine⟨fun b o nb e=>by rw[he b nb];exact h.sm b o nb e,T,?_,?_⟩
 . rw[he d hd];exact h.dc
 . rw[he la hl];exact h.lg
theorem WI.laid {H H2:Hp}{t d la l:Addr}{n:Int}{N m:Nat}{o:HO}(h:WI H t d la n N m H2)(hl:H2 l=none):WI H t d la n N m (upd H2 l o):=by
 obtain⟨kvs,a,b⟩:=h.dc
 obtain⟨l0,l1,l2,c,e⟩:=h.lg
 exact⟨h.sm.trans (Sm.laid hl),h.tp.laid hl,⟨kvs,by rw[zX (zi a hl)];exact a,b⟩,⟨l0,l1,l2,by rw[zX (zi c hl)];exact c,e⟩⟩
theorem WI.put {H H2:Hp}{t d la:Addr}{n:Int}{N m:Nat}{kvs:List (List Key×V)}(h:WI H t d la n N m H2)(hd0:H d=none)(hd:H2 d=some (.dT kvs)){a b l:Int}(h0:0<=a)(h1:a<b)(h2:b<n)(h3:1<=l)(h4:l<=99) :
 WI H t d la n N (m+1) (upd H2 d (.dT (zCz kvs [Sum.inl a,Sum.inl b] (.int l)))):=by
 obtain⟨kvs',e,j,hm⟩:=h.dc
 rw[hd] at e
 cases e
 obtain⟨l0,l1,l2,c,e⟩:=h.lg
 refine⟨h.sm.chg hd0,h.tp.chg hd (by intro xs z;cases z),⟨_,zH,j.put h0 h1 h2 h3 h4,?_⟩,⟨l0,l1,l2,by rw[zX (zBw c hd (by intro z;cases z))];exact c,e⟩⟩
 have:=zCV kvs [Sum.inl a,Sum.inl b] (V.int l)
 omega
theorem WI.up {H H2:Hp}{t d la:Addr}{n:Int}{N m N' m':Nat}(h:WI H t d la n N m H2)(hN:N<=N')(hm:m<=m'):WI H t d la n N' m' H2:=by
 obtain⟨kvs,a,b,c⟩:=h.dc
 exact⟨h.sm,h.tp.mono hN,⟨kvs,a,b,by omega⟩,h.lg⟩
theorem at3 {l0 l1 l2 r:Int}(h:∀l∈[l0,l1,l2],1<=l/\l<=99)(h0:0<=r)(h1:r<3):∃l,atI [V.int l0,V.int l1,V.int l2] r=some (.int l)/\1<=l/\l<=99:=by
 obtain⟨l,hl,ha⟩:=zIc (L:=[l0,l1,l2]) h0 h1
 exact⟨l,ha,h l hl⟩
theorem zq {n:Nat}(h:n<=100000):n<sizeLine:=zAD h (by decide)
theorem zLF {n:Int}{kvs:List (List Key×V)}{ms:List (List Int)}(h:JD n kvs)(hp:ms.Perm (zD9 kvs))(hl:kvs.length<64)(hn:1<=n)(hn2:n<=24){ts:List T3}(e:ts.map (fun t=>[t.1,t.2.1])=ms)(hr:∀t∈ts,0<=t.1/\t.1<t.2.1/\t.2.1<n/\1<=t.2.2/\t.2.2<=99):GW n ts:=by
 have hlen:ts.length=kvs.length:=by
  have:=hp.length_eq
  rw[<-e] at this
  simpa [zD9] using this
 refine⟨hn,hn2,by omega,hr,?_⟩
 have nd:(ts.map fun t:T3=>[t.1,t.2.1]).Nodup:=by rw[e];exact hp.nodup_iff.mpr h.nd
 rw[List.Nodup,zAt] at nd
 exact nd.imp fun hne hc=>hne (by rw[hc.1,hc.2])
theorem zFy:zAB ["_law_tape_here", "_law_n", "_law_longs", "_law_joined", "_law_b", "_law_k", "_law_a"] ["_law_tape_here", "_law_n"] (defScope sWeb):=⟨rfl,rfl,rfl,by decide +kernel,rfl,by decide +kernel,by decide +kernel⟩
theorem ok_web {f fD:Addr}{fd fdD:FuncData}(F:Fun K "_law_web" "_law_web" sWeb f fd) (FD:Fun K "_law_draw" "_law_draw" zEh fD fdD) (bD:zAA K fdD ["_law_tape_here", "_law_many"] []) (mD:mg "_law_draw" = some (.ref fD)) (mLen:mg "len" = none)
 (mRange:mg "range" = none) (mTuple:mg "tuple" = none) (mSorted:mg "sorted" = none):zAb P w K mg base CX0 2 f fd ["_law_tape_here", "_law_n"] spWeb:=by
 have GD:zAb P w K mg base CX0 1 fD fdD ["_law_tape_here", "_law_many"] zH3:=zIS FD mLen
 refine F.ok zFy (fun vs H Q E h=>?_) (fun cdv A outer s H vs Q E hr h=>?_)
 . obtain⟨t,N,n,rfl,_⟩:=h
   rfl
 . obtain⟨t,N,n,rfl,T,hN,hn1,hn2,k⟩:=h
   have hu:=zMQ hr
   obtain⟨es,q0,q1,q2,j3,q3,q4,p1,p2,p3,hbd,hes⟩:∃es q0 q1 q2 j3 q3 q4 p1 p2 p3,defBody sWeb = .Assign [.Name "_law_longs" q0] (.Subscript (.List es p1) (.Call (.Name "_law_draw" q1) [.Name "_law_tape_here" q2,.Constant (.int 4) j3 q3] [] q4) p2) p3::(defBody sWeb).drop 1 /\
    zDB es [[1,1,1],[1,2,1],[1,2,3],[5,99,7]]:=⟨_,_,_,_,_,_,_,_,_,_,rfl,.cons (.cons (.cons (.cons .nil))) (by show 3<=sizeLine;decide) (.cons (.cons (.cons (.cons .nil))) (by show 3<=sizeLine;decide) (.cons (.cons (.cons (.cons .nil))) (by show 3<=sizeLine;decide) (.cons (.cons (.cons (.cons .nil))) (by show 3<=sizeLine;decide) (.nil))))⟩
   rw[hbd]
   refine⟨_,zT (zAP (i:=2) zFy.nd rfl (Or.inl rfl) (zAK zAU (zB9 (zKF hes))
    (zn GD hr rfl mD FD.kp bD .nil zAS (zE (pv 0) (zB6 zO))) (fun _ _=>rfl)))
    (zT (zAP (i:=3) zFy.nd rfl (Or.inr rfl) zKD)
    (zT (zBz (zAQ zHO (zn GD hr rfl mD FD.kp bD .nil zAS (zE (pv 0) (zB6 zO))) zj (zAa _))
     (zf (zBY PassesOwn.never rfl (zFG rfl mRange (zB6 (zE (pv 1) zO))) (zw (i:=4) zFy.nd rfl (Or.inl rfl))
      (zf (zF1 hu (pv 3) (zB8 (zE (zn GD hr rfl mD FD.kp bD .nil zAS (zE (pv 0) (zE (pv 4) zO))) (zE (pv 4) zO)))
       (zAK zAU (pv 2) (zn GD hr rfl mD FD.kp bD .nil zAS (zE (pv 0) (zB6 zO))) (fun _ _=>rfl)) rfl)))) zAw)
    (zT (zBY PassesOwn.never rfl (zAZ rfl mRange (zE (zn GD hr rfl mD FD.kp bD .nil zAS (zE (pv 0) (zE (zAc zBe (zAc zBe zj (pv 1)) (zAc zEn (pv 1) zj)) zO))) zO)) (zw (i:=5) zFy.nd rfl (Or.inl rfl))
     (zT (zAP (i:=6) zFy.nd rfl (Or.inl rfl) (zn GD hr rfl mD FD.kp bD .nil zAS (zE (pv 0) (zE (pv 1) zO))))
     (zT (zAP (i:=4) zFy.nd rfl (Or.inl rfl) (zn GD hr rfl mD FD.kp bD .nil zAS (zE (pv 0) (zE (pv 1) zO))))
     (zf (zBz (zAQ zLq (pv 6) (pv 4) (zAa _)) (zf (zF1 hu (pv 3) (zB8 (zE (pv 6) (zE (pv 4) zO)))
      (zAK zAU (pv 2) (zn GD hr rfl mD FD.kp bD .nil zAS (zE (pv 0) (zB6 zO))) (fun _ _=>rfl)) rfl)) zAw)))))
    (zf (zAT (zB8 (zE (pv 1) (zE (zBD zAf (by rfl) mTuple (by decide +kernel) (zE
     (zA8 (own:=["_law_pair"]) (cn:=["_law_joined"]) (ci:=[3]) rfl (csc rfl rfl) ⟨rfl,rfl,rfl,trivial⟩ rfl
      (zBv (zAL (zFh rfl) (by rfl) mSorted (by decide +kernel) (zE (pv 3) zO))) (fun _ _ _ _=>zw (i:=0) (zBn rfl) rfl (Or.inl rfl)) (fun _ _ _ _=>zBP)
      (fun _ _ _ _=>zB8 (zE (zAK zCO (pv 0) zj (fun _ _=>rfl)) (zE (zAK zCO (pv 0) zj (fun _ _=>rfl)) (zE (zLo hu (pv 1) (pv 0) (fun _ _=>rfl)) zO))))) zO)) zO)))))))),?_⟩
   intro a1 e1 a2 e2 a3 e3 a4 e4
   refine⟨by show 4<=sizeLine;decide,fun al el=>?_⟩
   have T5:=((((T.laid (o:=.lst [.int 1,.int 1,.int 1]) e1).laid (o:=.lst [.int 1,.int 2,.int 1]) e2).laid (o:=.lst [.int 1,.int 2,.int 3]) e3).laid (o:=.lst [.int 5,.int 99,.int 7]) e4).laid (o:=.lst [.ref a1,.ref a2,.ref a3,.ref a4]) el
   refine⟨_,rfl,t,N,4,rfl,T5,by omega,by decide,by decide,fun r H1 h0 h1 T1 he1=>?_⟩
   have nel:al≠t:=((((T.laid (o:=.lst [.int 1,.int 1,.int 1]) e1).laid (o:=.lst [.int 1,.int 2,.int 1]) e2).laid (o:=.lst [.int 1,.int 2,.int 3]) e3).laid (o:=.lst [.int 5,.int 99,.int 7]) e4).ne el
   obtain⟨la,l0,l1,l2,hat,hla,hb,nla⟩:∃(la:Addr)(l0 l1 l2:Int),atI [V.ref a1,V.ref a2,V.ref a3,V.ref a4] r=some (.ref la)/\H1 la=some (.lst [.int l0,.int l1,.int l2])/\(∀l∈[l0,l1,l2],1<=l/\l<=99)/\la≠t:=by
    have n1:a1≠t:=T.ne e1
    have n2:a2≠t:=(T.laid (o:=.lst [.int 1,.int 1,.int 1]) e1).ne e2
    have n3:a3≠t:=((T.laid (o:=.lst [.int 1,.int 1,.int 1]) e1).laid (o:=.lst [.int 1,.int 2,.int 1]) e2).ne e3
    have n4:a4≠t:=(((T.laid (o:=.lst [.int 1,.int 1,.int 1]) e1).laid (o:=.lst [.int 1,.int 2,.int 1]) e2).laid (o:=.lst [.int 1,.int 2,.int 3]) e3).ne e4
    have g1:H1 a1=some (.lst [.int 1,.int 1,.int 1]):=by rw[he1 a1 n1];exact zL el _ _ (zL e4 _ _ (zL e3 _ _ (zL e2 _ _ zH)))
    have g2:H1 a2=some (.lst [.int 1,.int 2,.int 1]):=by rw[he1 a2 n2];exact zL el _ _ (zL e4 _ _ (zL e3 _ _ zH))
    have g3:H1 a3=some (.lst [.int 1,.int 2,.int 3]):=by rw[he1 a3 n3];exact zL el _ _ (zL e4 _ _ zH)
    have g4:H1 a4=some (.lst [.int 5,.int 99,.int 7]):=by rw[he1 a4 n4];exact zL el _ _ zH
    have hr4:r=0\/r=1\/r=2\/r=3:=by omega
    rcases hr4 with rfl | rfl | rfl | rfl
    . exact⟨a1,1,1,1,rfl,g1,by decide,n1⟩
    . exact⟨a2,1,2,1,rfl,g2,by decide,n2⟩
    . exact⟨a3,1,2,3,rfl,g3,by decide,n3⟩
    . exact⟨a4,5,99,7,rfl,g4,by decide,n4⟩
   refine⟨al,_,_,_,rfl,rfl,SqL.of (by rw[he1 al nel];exact zH),hat,?_⟩
   have sm1:Sm t H H1:=fun b o nb e=>by
    rw[he1 b nb]
    exact zL el _ _ (zL e4 _ _ (zL e3 _ _ (zL e2 _ _ (zL e1 _ _ e))))
   intro d hd
   have nd:d≠t:=T1.ne hd
   have hd0:H d=none:=by
    cases q:H d with
    | none=>rfl
    | some o=>have:=sm1 d o nd q;rw[hd] at this;cases this
   have W0:WI H t d la n (N+1) 0 (upd H1 d (.dT [])):=⟨sm1.chg hd0,T1.laid hd,⟨[],zH,JD.nil n,zI _⟩,⟨l0,l1,l2,by rw[zX (zi hla hd)];exact hla,hb⟩⟩
   refine⟨_,rfl,t,N+1,3,rfl,W0.tp,by omega,by decide,by decide,fun r1 H2 _ _ T2 he2=>?_⟩
   have W2:=W0.draw nd nla T2 he2
   refine⟨_,_,rfl,rfl,_,rfl,?_⟩
   refine zFT (fun _=>?a) (fun _=>?b)
   case' a=>
    refine⟨_,rfl,1,n,rfl,⟨by decide,by decide,by omega,by omega⟩,zBK (lo:=1) (n:=(n-1).toNat) (fun i σ H3=>∃vb:Option V,σ=[some (.ref t),some (.int n),some (.ref la),some (.ref d),vb,none,none]/\WI H t d la n (N+2+2*i) i H3) ⟨none,rfl,W2⟩ ?turn ?after⟩
    case turn=>
     rintro i σ H3 hi ⟨vb,rfl,W⟩
     obtain⟨m0,m1,m2,hm,hmb⟩:=W.lg
     refine⟨_,rfl,_,rfl,t,N+2+2*i,3,rfl,W.tp,by omega,by decide,by decide,fun r3 H4 g0 g1 T4 he4=>?_⟩
     have W4:=W.draw nd nla T4 he4
     obtain⟨lg,hlg,hg1,hg2⟩:=at3 hmb g0 g1
     refine⟨la,_,_,_,rfl,rfl,SqL.of (by rw[he4 la nla];exact hm),hlg,?_⟩
     refine⟨_,rfl,_,rfl,_,rfl,t,N+2+2*i+1,1+i,rfl,W4.tp,by omega,by omega,by omega,fun r5 H5 q0 q1 T5 he5=>?_⟩
     have W5:=W4.draw nd nla T5 he5
     refine⟨_,rfl,by show 2<=sizeLine;decide,fun p hp=>?_⟩
     have W6:=W5.laid (o:=.tup [.int r5,.int (1+i)]) hp
     obtain⟨kvs,hk,J,hkl⟩:=W6.dc
     refine⟨d,_,rfl,zKj.t (k:=[Sum.inl r5,Sum.inl (1+(i:Int))]) hk zH (zq (by omega)),?_⟩
     exact⟨_,rfl,(W6.put hd0 hk q0 q1 (by omega) hg1 hg2).up (by omega) (by omega)⟩
    case' after=>
     rintro σ H3 ⟨vb,rfl,W⟩
     have W3:WI H t d la n (N+50) 23 H3:=W.up (by omega) (by omega)
   case' b=>
    have W3:WI H t d la n (N+50) 23 H2:=W2.up (by omega) (by omega)
   all_goals
    refine⟨_,rfl,_,rfl,_,_,rfl,rfl,_,rfl,_,_,rfl,rfl,⟨by decide,by decide⟩,_,_,rfl,rfl,t,N+50,_,rfl,W3.tp,by omega,by omega,by omega,fun r4 H4 p0 p1 T4 he4=>?_⟩
    have W4:=W3.draw nd nla T4 he4
    refine⟨r4,rfl,by omega,by omega,zBK (lo:=0) (n:=r4.toNat) (fun i σ H5=>∃vb vk va:Option V,σ=[some (.ref t),some (.int n),some (.ref la),some (.ref d),vb,vk,va]/\WI H t d la n (N+51+3*i) (23+i) H5) ⟨_,_,_,rfl,W4⟩ ?turn2 ?after2⟩
    case turn2=>
     rintro i σ H5 hi ⟨vb,vk,va,rfl,W⟩
     refine⟨_,rfl,_,rfl,t,N+51+3*i,n,rfl,W.tp,by omega,by omega,by omega,fun a H6 a0 a1 T6 he6=>?_⟩
     have W6:=W.draw nd nla T6 he6
     refine⟨_,rfl,_,rfl,t,N+51+3*i+1,n,rfl,W6.tp,by omega,by omega,by omega,fun b H7 b0 b1 T7 he7=>?_⟩
     have W7:=W6.draw nd nla T7 he7
     refine⟨_,rfl,_,rfl,_,_,rfl,rfl,_,rfl,?_⟩
     refine zFT (fun hc=>?_) (fun hc=>?_)
     . have hab:a<b:=of_decide_eq_true hc
       obtain⟨m0,m1,m2,hm,hmb⟩:=W7.lg
       refine⟨_,rfl,_,rfl,t,N+51+3*i+1+1,3,rfl,W7.tp,by omega,by decide,by decide,fun r3 H8 g0 g1 T8 he8=>?_⟩
       have W8:=W7.draw nd nla T8 he8
       obtain⟨lg,hlg,hg1,hg2⟩:=at3 hmb g0 g1
       refine⟨la,_,_,_,rfl,rfl,SqL.of (by rw[he8 la nla];exact hm),hlg,?_⟩
       refine⟨_,rfl,_,rfl,_,rfl,by show 2<=sizeLine;decide,fun p hp=>?_⟩
       have W9:=W8.laid (o:=.tup [.int a,.int b]) hp
       obtain⟨kvs,hk,J,hkl⟩:=W9.dc
       refine⟨d,_,rfl,zKj.t (k:=[Sum.inl a,Sum.inl b]) hk zH (zq (by omega)),?_⟩
       exact⟨_,_,_,rfl,(W9.put hd0 hk a0 hab b1 hg1 hg2).up (by omega) (by omega)⟩
     . exact⟨_,_,_,rfl,W7.up (by omega) (by omega)⟩
    case after2=>
     rintro σ H5 ⟨vb,vk,va,rfl,W⟩
     obtain⟨kvs,hk,J,hkl⟩:=W.dc
     have hk64:kvs.length<64:=by omega
     refine⟨_,rfl,_,rfl,d,kvs,zD9 kvs,rfl,hk,J.keys,J.ne,by rw[zD9,zB];exact hk64,fun l zs ms hl TA hp _=>?_⟩
     refine⟨l,rfl,⟨_,SqL.of zH⟩,[.ref d],rfl,fun D hD=>?_⟩
     have hlz:=TA.length
     have hlm:ms.length=kvs.length:=by rw[hp.length_eq,zD9,zB]
     have nlD:l≠D:=fun e=>by rw[<-e,zH] at hD;cases hD
     have hk1:(upd H5 l (.lst zs)) d=some (.dT kvs):=zL hl _ _ hk
     have hD5:H5 D=none:=by rw[zX nlD.symm] at hD;exact hD
     refine zBm (a:=l) (xs:=zs) (fun i ys H6=>∃ts:List T3,ts.length=i/\ts.map (fun t:T3=>[t.1,t.2.1])=ms.take i/\(∀t∈ts,0<=t.1/\t.1<t.2.1/\t.2.1<n/\1<=t.2.2/\t.2.2<=99)/\H6 D=some (.lst ys)/\zAk H6 ys (ts.map tl)/\zAy (upd H5 l (.lst zs)) H6)
      ⟨[],rfl,rfl,fun _ h=>by simp at h,zH,trivial,zL hD⟩ (fun i ys H6 h=>?_) (fun i ys H6 h=>?_) (fun i x ys H6 hx h=>?_) (fun ys H6 h=>?_)
     . obtain⟨_,_,_,_,_,_,s6⟩:=h
       exact SqL.of (s6 _ _ zH)
     . obtain⟨ts,e1,e2,_,_,T6,_⟩:=h
       have e3:=T6.length
       rw[zB] at e3
       have e4:=congrArg List.length e2
       rw[zB,zr] at e4
       exact zq (by omega)
     . obtain⟨ts,e1,e2,hts,hD6,T6,s6⟩:=h
       obtain⟨pa,kx,ex,hkx,hpa,_⟩:=TA.get hx
       subst ex
       have hpa6:H6 pa=some (.tup (kx.map V.int)):=s6 _ _ (zL hl _ _ hpa)
       obtain⟨a,b,lg,ek,hv,a0,ab,bn,lg1,lg2⟩:=J.val (hp.mem_iff.mp (zS hkx))
       subst ek
       refine⟨⟨rfl,rfl⟩,?_⟩
       refine zEZ ?_
       refine⟨_,rfl,pa,_,_,_,rfl,rfl,SqT.of hpa6,rfl,_,rfl,pa,_,_,_,rfl,rfl,SqT.of hpa6,rfl,_,rfl,_,rfl,d,_,rfl,hv ▸ zJZ.t (k:=[Sum.inl a,Sum.inl b]) (s6 _ _ hk1) hpa6,by show 3<=sizeLine;decide,fun p hp6=>?_⟩
       have nDp:D≠p:=zi hD6 hp6
       refine⟨by rw[zX nDp];exact hD6,ts++[(a,b,lg)],by rw[zM,e1];rfl,?_,?_,zH,?_,?_⟩
       . rw[zN,e2,zy,hkx];rfl
       . intro t ht
         rcases zAC.mp ht with q | q
         . exact hts t q
         . rw[zk.mp q];exact⟨a0,ab,bn,lg1,lg2⟩
       . rw[zN]
         refine (T6.keep fun c xs e=>?_).snoc ⟨p,rfl,by rw[zX nDp.symm,zH];rfl,by simp[tl]⟩
         rw[zX (zBw e hD6 (by intro z;cases z)),zX (zi e hp6)]
         exact e
       . exact zAr (s6.trans (zL hp6)) hD
     . obtain⟨ts,e1,e2,hts,hD6,T6,s6⟩:=h
       refine⟨D,ys,rfl,.inl ⟨SqL.of hD6,fun ta hta=>?_⟩⟩
       refine⟨by show 2<=sizeLine;decide,fun wa hwa=>?_⟩
       rw[hlz,zY (zI _)] at e2
       have G:GW n ts:=zLF J hp hk64 hn1 hn2 e2 hts
       have nwt:wa≠ta:=fun e=>by rw[e,zH] at hwa;cases hwa
       have h6wa:H6 wa=none:=by rw[zX nwt] at hwa;exact hwa
       have s7:zAy H6 (upd (upd H6 ta (.tup ys)) wa (.tup [.int n,.ref ta])):=zAr (zL hta) h6wa
       have T7:zAY (upd (upd H6 ta (.tup ys)) wa (.tup [.int n,.ref ta])) t (N+200):=((W.tp.mono (by omega)).keep ((zL hl).trans (s6.trans s7)))
       have nwa:wa≠t:=((W.tp.keep ((zL hl).trans s6)).ne h6wa)
       have sm7:Sm t H (upd (upd H6 ta (.tup ys)) wa (.tup [.int n,.ref ta])):=W.sm.trans (Sm.of ((zL hl).trans (s6.trans s7)))
       refine k wa ts _ ?_ ⟨ta,ys,zH,by rw[zX nwt.symm,zH],T6.keep fun c xs e=>s7 _ _ e,G⟩ T7 sm7
       cases q:H wa with
       | none=>rfl
       | some o=>
        have:=(W.sm.trans (Sm.of ((zL hl).trans s6))) wa o nwa q
        rw[h6wa] at this;cases this
end
end K37
namespace K37
open PySem L2 WM
theorem ifT {c:Bool}{p q:Prop}(h:c=true)(hp:p):(if c=true then p else q):=by rw[if_pos h];exact hp
theorem ifF {c:Bool}{p q:Prop}(h:c=false)(hq:q):(if c=true then p else q):=by rw[if_neg (by simp[h])];exact hq
noncomputable def zHx:Sp:=fun vs H Q _=>∃(wa:Addr)(n:Int)(ts:List T3)(p:Int),vs=[.ref wa,.int p]/\zBd H wa n ts /\
 ∀(l:Addr)(zs:List V)(ms:List (List Int))(H':Hp),zAy H H'->H l=none->H' l=some (.lst zs)->zAk H' zs ms->ms.Perm (fd p ts)->zJT ms->Q (.ref l) H'
section
variable {P:Program}{w:World}{K:PySem.W.Frag}{mg:Str->Option Value}{base:Heap}
theorem zE8:zAB ["web", "place", "found", "a", "b", "long"] ["web", "place"] (defScope zF0):=⟨rfl,rfl,rfl,by decide +kernel,rfl,by decide +kernel,by decide +kernel⟩
theorem zIR {f:Addr}{fd':FuncData}(F:Fun K "ties_at" "ties_at" zF0 f fd') (mSorted:mg "sorted" = none):zAb P w K mg base CX0 1 f fd' ["web", "place"] zHx:=by
 refine F.ok zE8 (fun vs H Q E h=>?_) (fun cdv A outer s H vs Q E hr h=>?_)
 . obtain⟨wa,n,ts,p,rfl,_⟩:=h
   rfl
 . obtain⟨wa,n,ts,p,rfl,⟨ta,tys,hwa,hta,TA,G⟩,k⟩:=h
   refine⟨_,zT (zAP (i:=2) zE8.nd rfl (Or.inl rfl) (zB9 zO))
    (zT (zBY PassesOwn.never rfl (zC0 (zAK zAp (pv 0) zj (fun _ _=>rfl))) (zDg rfl (zBI (zw (i:=3) zE8.nd rfl (Or.inl rfl)) (zBI (zw (i:=4) zE8.nd rfl (Or.inl rfl)) (zBI (zw (i:=5) zE8.nd rfl (Or.inl rfl)) zCs))))
     (zT (zBz (zAQ zCU (pv 3) (pv 1) (zAa _)) (zf (zCI (zD4 PySem.F.plainAttrs_list PySem.F.slot_list_append PySem.F.type_list_append zBi (pv 2) (zE (zB8 (zE (pv 4) (zE (pv 5) zO))) zO)))) zAw)
     (zf (zBz (zAQ zCU (pv 4) (pv 1) (zAa _)) (zf (zCI (zD4 PySem.F.plainAttrs_list PySem.F.slot_list_append PySem.F.type_list_append zBi (pv 2) (zE (zB8 (zE (pv 3) (zE (pv 5) zO))) zO)))) zAw))))
    (zf (zAT (zAL zGJ (by rfl) mSorted (by decide +kernel) (zE (pv 2) zO))))),?_⟩
   refine⟨zh _,fun l hl=>?_⟩
   have hwl:wa≠l:=zi hwa hl
   have htl:ta≠l:=zi hta hl
   have hlt:tys.length=ts.length:=by rw[TA.length,zB]
   refine⟨_,rfl,wa,_,_,_,rfl,rfl,SqT.of (by rw[zX hwl];exact hwa),rfl,ta,rfl,⟨_,SqT.of (by rw[zX htl];exact hta)⟩,zGE (K:=K) (a:=ta) (xs:=tys)
    (fun i σ H2=>∃(va vb vl:Option V)(xs:List V),σ=[some (.ref wa),some (.int p),some (.ref l),va,vb,vl]/\zAy H H2/\H2 l=some (.lst xs)/\zAk H2 xs (fd p (ts.take i)))
    ⟨none,none,none,[],rfl,zL hl,zH,trivial⟩ (fun i σ H2 _ ⟨_,_,_,_,_,s2,_⟩=>SqT.of (s2 _ _ hta)) ?turn ?after⟩
   case turn=>
    rintro i y σ H2 hi ⟨va,vb,vl,xs,rfl,s2,hl2,T2⟩
    obtain⟨ya,ky,rfl,hky,hya,_⟩:=TA.get hi
    rw[zJ] at hky
    obtain⟨⟨a,b,c⟩,hti,rfl⟩:∃t:T3,ts[i]? = some t/\tl t=ky:=by
     cases e:ts[i]? with
     | none=>rw[e] at hky;cases hky
     | some t=>rw[e] at hky;exact⟨t,rfl,zP hky⟩
    have hil:i<ts.length:=(zK.mp hti).1
    have hlen:∀{xs':List V}{H3:Hp},zAk H3 xs' (fd p (ts.take i))->xs'.length<sizeLine:=fun T=>by
     have e1:=T.length
     have e2:=zGx (n:=n) p (ts:=ts.take i) fun t ht=>(G.rng t (List.mem_of_mem_take ht)).2.1
     rw[zr] at e2
     exact zq (by have:=G.len;omega)
    have hfd:fd p (ts.take (i+1))=fd p (ts.take i)++((if a=p then [[b,c]] else [])++(if b=p then [[a,c]] else [])):=by
     rw[zy,hti,zFY]
     show _++((if a=p then [[b,c]] else [])++(if b=p then [[a,c]] else [])++[])=_
     rw[zo]
    have hab:a<b:=(G.rng _ (zS hti)).2.1
    refine⟨ya,_,rfl,SqT.of (s2 _ _ hya),rfl,_,_,rfl,_,_,rfl,_,_,rfl,rfl,?_⟩
    have app:∀{x:Int},∀q,H2 q=none->∃xs',(upd (upd H2 q (.tup [.int x,.int c])) l (.lst (xs++[.ref q]))) l=some (.lst xs')/\zAy H (upd (upd H2 q (.tup [.int x,.int c])) l (.lst (xs++[.ref q])))/\zAk (upd (upd H2 q (.tup [.int x,.int c])) l (.lst (xs++[.ref q]))) xs' (fd p (ts.take i)++[[x,c]]):=by
     intro x q hq
     have nlq:l≠q:=zi hl2 hq
     refine⟨_,zH,zAr (s2.trans (zL hq)) hl,(T2.keep fun e ys he=>?_).snoc ⟨q,rfl,by rw[zX nlq.symm,zH];rfl,by simp⟩⟩
     rw[zX (zBw he hl2 (by intro z;cases z)),zX (zi he hq)]
     exact he
    refine⟨_,rfl,_,rfl,rfl,_,rfl,?_⟩
    refine zFT (fun h1=>?_) (fun h1=>?_)
    . have e1:a=p:=by have:=of_decide_eq_true h1;injection this
      have n2:¬ b=p:=by omega
      refine⟨_,rfl,.inl ⟨rfl,_,SqL.of hl2⟩,_,rfl,_,rfl,by show 2<=sizeLine;decide,fun q hq=>?_⟩
      have nlq:l≠q:=zi hl2 hq
      refine⟨l,_,_,rfl,rfl,by rw[zX nlq];exact hl2,hlen T2,?_⟩
      refine⟨_,rfl,_,rfl,rfl,_,rfl,?_⟩
      rw[show decide (V.int b=V.int p)=false from zZ fun e=>n2 (by injection e)]
      refine zD2 ?_
      obtain⟨xs',g1,g2,g3⟩:=app (x:=b) q hq
      refine⟨_,_,_,xs',rfl,g2,g1,?_⟩
      rw[hfd,if_pos e1,if_neg n2]
      exact g3
    . have n1:¬ a=p:=fun e=>by
       have:=h1
       rw[e] at this
       exact this (zU rfl)
      refine⟨_,rfl,_,rfl,rfl,_,rfl,?_⟩
      refine zFT (fun h2=>?_) (fun h2=>?_)
      . have e2:b=p:=by have:=of_decide_eq_true h2;injection this
        refine⟨_,rfl,.inl ⟨rfl,_,SqL.of hl2⟩,_,rfl,_,rfl,by show 2<=sizeLine;decide,fun q hq=>?_⟩
        have nlq:l≠q:=zi hl2 hq
        refine⟨l,_,_,rfl,rfl,by rw[zX nlq];exact hl2,hlen T2,?_⟩
        obtain⟨xs',g1,g2,g3⟩:=app (x:=a) q hq
        refine⟨_,_,_,xs',rfl,g2,g1,?_⟩
        rw[hfd,if_neg n1,if_pos e2]
        exact g3
      . have n2:¬ b=p:=fun e=>by
         have:=h2
         rw[e] at this
         exact this (zU rfl)
        refine⟨_,_,_,xs,rfl,s2,hl2,?_⟩
        rw[hfd,if_neg n1,if_neg n2,zo,zo]
        exact T2
   case after=>
    rintro σ H2 ⟨va,vb,vl,xs,rfl,s2,hl2,T2⟩
    rw[hlt,zY (zI _)] at T2
    have e2:=zGx (n:=n) p (ts:=ts) fun t ht=>(G.rng t ht).2.1
    refine⟨_,rfl,l,xs,fd p ts,rfl,SqL.of hl2,T2,by have:=G.len;omega,fun l' zs ms hl' T3 hp hrs=>?_⟩
    have nll:l'≠l:=fun e=>by rw[e,hl2] at hl';cases hl'
    have hl0:H l'=none:=by
     cases q:H l' with
     | none=>rfl
     | some o=>have:=s2 l' o q;rw[hl'] at this;cases this
    exact k l' zs ms _ (s2.trans (zL hl')) hl0 zH (T3.keep fun e ys he=>zL hl' _ _ he) hp hrs
end
theorem zHd {ms:List (List Int)}(h:zJT ms)(hk:∀k∈ms,∃y l,k=[y,l])(hn:(ms.map hd).Nodup):(ms.map hd).Pairwise (· < ·):=by
 rw[zAt]
 rw[List.Nodup,zAt] at hn
 have both:ms.Pairwise fun a b=>HT.lexLt b a=false/\hd a≠hd b:=by
  rw[zAi]
  intro i j hi hj hij
  exact⟨zAi.mp h i j hi hj hij,zAi.mp hn i j hi hj hij⟩
 refine both.imp_of_mem fun {a b} ha hb hab=>?_
 obtain⟨y,l,rfl⟩:=hk a ha
 obtain⟨z,m,rfl⟩:=hk b hb
 obtain⟨h1,h2⟩:=hab
 have h2':y≠z:=h2
 rw[HT.lexLt_cons,if_neg (Ne.symm h2')] at h1
 have:=of_decide_eq_false h1
 show y<z
 omega
theorem zCB {i j:Int}:decide (V.int i=V.int j)=decide (i=j):=by
 by_cases h:i=j
 . subst h;simp
 . rw[zZ h,zZ fun e=>h (by injection e)]
end K37
namespace K37
open PySem L2 WM
noncomputable def lamP:Pos:=⟨46,36,46,64⟩
noncomputable abbrev lamQ:Str:=(("nearest" : Str) ++ ".<locals>.") ++ "<lambda>"
noncomputable abbrev Tb (H:Hp)(PT:Addr):Prop:=zB7 H PT lamP lamQ
noncomputable def zKo (PT:Addr):Sp:=fun vs H Q _=>∃(d:Addr)(n:Int)(kvs:List (Key×V))(wt:Int->Option Int),vs=[.ref d]/\H d=some (.dK kvs)/\WD n kvs wt/\0<=n/\n<=24/\kvs≠[]/\Tb H PT /\
 ∀(M e:Int)(H':Hp),wt M=some e->(∀q f,wt q=some f->e<=f)->SmP PT H H'->Tb H' PT->Q (.int M) H'
noncomputable def zH2 (PT:Addr):Sp:=fun vs H Q _=>∃(wa:Addr)(n:Int)(ts:List T3)(s:Int),vs=[.ref wa,.int s]/\zBd H wa n ts/\0<=s/\s<n/\Tb H PT /\
 ∀(l:Addr)(kn:List (Option Int))(H':Hp),SmP PT H H'->Tb H' PT->H' l=some (.tup (kn.map oV))->zJc ts n s kn->Q (.ref l) H'
theorem zBd.smT {PT:Addr}{H H':Hp}{wa:Addr}{n:Int}{ts:List T3}(h:zBd H wa n ts)(k:SmP PT H H'):zBd H' wa n ts:=h.keepT fun b ys e=>by
 rcases k b _ e with ⟨_,ps,z⟩ | z
 . cases z
 . exact z
section
variable {P:Program}{w:World}{K:PySem.W.Frag}{mg:Str->Option Value}{base:Heap}{PT:Addr}
theorem scNear:zAB ["waiting"] ["waiting"] (defScope zIA):=⟨rfl,rfl,rfl,by decide +kernel,rfl,by decide +kernel,by decide +kernel⟩
theorem zLz {f c:Addr}{fd':FuncData}(F:zJY K "nearest" "nearest" zIA f fd' c) (C:PySem.W.CodeHd base c PT)(hbm:zG7 mg base)(mMin:mg "min" = none) (mSorted:mg "sorted" = none):zAb P w K mg base CX0 2 f fd' ["waiting"] (zKo PT):=by
 refine F.ok scNear (fun vs H Q E h=>?_) (fun A outer s H vs Q E hr h=>?_)
 . obtain⟨d,n,kvs,wt,rfl,_⟩:=h
   rfl
 . obtain⟨d,n,kvs,wt,rfl,hd,W,hn0,hn,hne,T,k⟩:=h
   refine⟨_,zf (zAT (zHM (k:=0) (j:=0) (P:=PT) (c:=c) (dn := "waiting") (pn := "place") rfl hr rfl mMin (zE (zAL (zFg rfl) (by rfl) mSorted (by decide +kernel) (zE (pv 0) zO)) zO) rfl C hbm rfl rfl rfl rfl rfl (by decide +kernel) (zMT rfl) rfl rfl rfl (fun _ _ _ _ _ _ _=>rfl))),?_⟩
   have hl:=W.len hn0
   refine⟨_,rfl,d,kvs,zD8 kvs,rfl,hd,W.keys,by unfold zD8;rw[zB];omega,fun l ms hl' hp _=>?_⟩
   have mem:∀x,x∈ms->∃e,wt x=some e:=fun x hx=>W.mem.mp (hp.mem_iff.mp hx)
   refine⟨l,d,ms,kvs,fun x=>(wt x).getD 0,rfl,zH,fun e=>?_,rfl,by rw[zX (zi hd hl')];exact hd,fun x hx=>?_,T.same (zL hl'),fun M H2 hM hb sm T2=>?_⟩
   . subst e
     have:=hp.length_eq
     unfold zD8 at this
     rw[zB] at this
     exact hne (List.eq_nil_of_length_eq_zero this.symm)
   . obtain⟨e,he⟩:=mem x hx
     show zCS kvs (Sum.inl x)=some (.int ((wt x).getD 0))
     rw[W.at_ x,he];rfl
   . obtain⟨e,he⟩:=mem M hM
     refine k M e H2 he (fun q f hq=>?_) ((SmP.of (P:=PT) (zL hl')).trans sm) T2
     have hq':q∈ms:=hp.mem_iff.mpr (W.mem.mpr ⟨f,hq⟩)
     have:=hb q hq'
     simp only[he,hq,Option.getD_some] at this
     exact this
theorem zDb:zAB ["web", "start", "known", "waiting", "place", "other", "long", "far"] ["web", "start"] (defScope zIE):=⟨rfl,rfl,rfl,by decide +kernel,rfl,by decide +kernel,by decide +kernel⟩
theorem zHT {kn:List (Option Int)}{j:Nat}{o:Option Int}:(kn.map oV).set j (oV o)=(kn.set j o).map oV:=by rw[List.map_set]
theorem zFM {o:Option Int}:decide (oV o=V.non)=o.isNone:=by
 cases o with
 | none=>rfl
 | some d=>exact zZ (by intro e;cases e)
theorem zL8 {f fN fT c:Addr}{fd' fdN fdT:FuncData}(F:Fun K "lengths_from" "lengths_from" zIE f fd') (FN:zJY K "nearest" "nearest" zIA fN fdN c) (bN:zAA K fdN ["waiting"] []) (mN:mg "nearest" = some (.ref fN)) (FT:Fun K "ties_at" "ties_at" zF0 fT fdT) (bT:zAA K fdT ["web", "place"] []) (mT:mg "ties_at" = some (.ref fT))
 (C:PySem.W.CodeHd base c PT)(hbm:zG7 mg base)(mMin:mg "min" = none) (mSorted:mg "sorted" = none) (mTuple:mg "tuple" = none):zAb P w K mg base CX0 3 f fd' ["web", "start"] (zH2 PT):=by
 have GN:zAb P w K mg base CX0 2 fN fdN ["waiting"] (zKo PT):=zLz FN C hbm mMin mSorted
 have GT:zAb P w K mg base CX0 2 fT fdT ["web", "place"] zHx:=(zIR FT mSorted).mono (by decide)
 refine F.ok zDb (fun vs H Q E h=>?_) (fun cdv A outer s H vs Q E hr h=>?_)
 . obtain⟨wa,n,ts,st,rfl,_⟩:=h
   rfl
 . obtain⟨wa,n,ts,st,rfl,W,hs0,hs1,T,k⟩:=h
   obtain⟨ta,tys,hwa,_,_,G⟩:=id W
   have hu:=zMQ hr
   have hn1:=G.n1
   have hn24:=G.n24
   refine⟨_,zT (zAP (i:=2) zDb.nd rfl (Or.inl rfl) (zAc zIO (zB9 (zE zBy zO)) (zAK zAp (pv 0) zj (fun _ _=>rfl))))
    (zT (zAP (i:=3) zDb.nd rfl (Or.inl rfl) (zLn (zJ9 (pv 1) zj zLk) rfl rfl (by decide) (by decide)))
    (zT (zGj PassesOwn.never (zJ7 (pv 3) (fun _=>rfl))
     (zT (zAP (i:=4) zDb.nd rfl (Or.inl rfl) (zn GN hr rfl mN FN.kp bN .nil zAS (zE (pv 3) zO)))
     (zT (zCM (zKC (pv 3) (pv 4) ⟨rfl,rfl,rfl,rfl⟩) (zCR (pv 2) (pv 4) zBb))
     (zf (zBY PassesOwn.never rfl (zBv (zn GT hr rfl mT FT.kp bT .nil zAS (zE (pv 0) (zE (pv 4) zO)))) (zDg rfl (zBI (zw (i:=5) zDb.nd rfl (Or.inl rfl)) (zBI (zw (i:=6) zDb.nd rfl (Or.inl rfl)) zCs)))
      (zf (zBz (zAQ zC3 (zAK zAU (pv 2) (pv 5) (fun _ _=>rfl)) zBy (zAa _))
       (zT (zAP (i:=7) zDb.nd rfl (Or.inl rfl) (zAc zBe (zAK zAU (pv 2) (pv 4) (fun _ _=>rfl)) (pv 6)))
       (zf (zF1 hu (pv 3) (pv 5) (zAL (zFk rfl) (by rfl) mMin (by decide +kernel) (zE (pv 7) (zE (zKE hu (pv 3) (pv 5) (pv 7) ⟨rfl,rfl,rfl,rfl⟩) zO))) rfl))) zAw)))))))
    (zf (zAT (zBD zAf (by rfl) mTuple (by decide +kernel) (zE (pv 2) zO)))))),?_⟩
   refine⟨by show 1<=sizeLine;decide,fun l0 hl0=>?_⟩
   refine⟨_,rfl,wa,_,_,_,rfl,rfl,SqT.of (zL hl0 _ _ hwa),rfl,l0,n,_,rfl,rfl,zH,by omega,by omega,?_,fun kl hkl=>?_⟩
   . have:sizeLine=16777216:=rfl
     show 1*n.toNat<=sizeLine
     omega
   have s1:zAy H (upd (upd H l0 (.lst [.non])) kl (.lst (List.replicate n.toNat [V.non]).flatten)):=(zL hl0).trans (zL hkl)
   have erep:(List.replicate n.toNat [V.non]).flatten=(List.replicate n.toNat (none:Option Int)).map oV:=by
    generalize n.toNat=m
    induction m with
    | zero=>rfl
    | succ m ih=>rw[zAx,List.flatten_cons,ih,zAx];rfl
   rw[erep] at s1 ⊢
   have hk1:(upd (upd H l0 (.lst [.non])) kl (.lst ((List.replicate n.toNat (none:Option Int)).map oV))) kl=some (.lst ((List.replicate n.toNat (none:Option Int)).map oV)):=zH
   generalize hH1:upd (upd H l0 (.lst [.non])) kl (.lst ((List.replicate n.toNat (none:Option Int)).map oV))=H1 at s1 hk1 ⊢
   intro wd hwd
   refine⟨_,rfl,zH,[(Sum.inl st,.int 0)],rfl,by show 1<=15;decide,?_⟩
   have s2:zAy H (upd (upd H1 wd (.dK [])) wd (.dK [(Sum.inl st,.int 0)])):=by rw[zBX];exact s1.trans (zL hwd)
   have nkw:kl≠wd:=zi hk1 hwd
   rw[show zEO [] [((Sum.inl st:Key),V.int 0)]=[((Sum.inl st:Key),V.int 0)] from rfl,zBX]
   rw[zBX] at s2
   refine⟨fun m σ H2=>∃(kn:List (Option Int))(kvs:List (Key×V))(wt:Int->Option Int)(v4 v5 v6 v7:Option V),σ=[some (.ref wa),some (.int st),some (.ref kl),some (.ref wd),v4,v5,v6,v7]/\m=n.toNat-cnt kn/\SmP PT H H2/\Tb H2 PT/\H2 kl=some (.lst (kn.map oV))/\H2 wd=some (.dK kvs)/\WD n kvs wt/\Dl ts n st kn wt,
    ⟨_,_,_,_,_,_,_,_,rfl,rfl,SmP.of (P:=PT) s2,T.same s2,by rw[zX nkw];exact hk1,zH,WD.one hs0 hs1,Dl.start G hs0 hs1⟩,?_⟩
   rintro m σ H2 ⟨kn,kvs,wt,v4,v5,v6,v7,rfl,rfl,sm,T2,hk2,hw2,WW,D⟩
   cases hkb:kvs.isEmpty with
   | true=>
    refine⟨_,rfl,false,.inr (.inr ⟨kvs,hw2,by rw[hkb];rfl⟩),?_⟩
    refine zD2 ?_
    have hkv:kvs=[]:=List.isEmpty_iff.mp hkb
    have hnone:∀q,wt q=none:=fun q=>by
     cases e:wt q with
     | none=>rfl
     | some d=>
      have:=WW.mem.mpr ⟨d,e⟩
      rw[hkv] at this
      simp[zD8] at this
    refine⟨_,rfl,kl,_,rfl,.inl ⟨SqL.of hk2,fun q hq=>?_⟩⟩
    exact k q kn _ (sm.trans (SmP.of (P:=PT) (zL hq))) (T2.same (zL hq)) zH (D.done G hnone)
   | false=>
    refine⟨_,rfl,true,.inr (.inr ⟨kvs,hw2,by rw[hkb];rfl⟩),?_⟩
    refine zGq ?_
    have hne:kvs≠[]:=by intro e;rw[e] at hkb;cases hkb
    refine⟨fun σ' H'=>∃(kn':List (Option Int))(kvs':List (Key×V))(wt':Int->Option Int)(v4 v5 v6 v7:Option V),σ'=[some (.ref wa),some (.int st),some (.ref kl),some (.ref wd),v4,v5,v6,v7]/\cnt kn'=cnt kn+1/\SmP PT H H'/\Tb H' PT/\H' kl=some (.lst (kn'.map oV))/\H' wd=some (.dK kvs')/\WD n kvs' wt'/\Dl ts n st kn' wt',?_,?_⟩
    . rintro σ' H' ⟨kn',kvs',wt',v4',v5',v6',v7',rfl,hc,sm',T',hk',hw',WW',D'⟩
      have h1:=zJH kn'
      have h2:=D'.ln
      exact⟨n.toNat-cnt kn',by omega,kn',kvs',wt',v4',v5',v6',v7',rfl,rfl,sm',T',hk',hw',WW',D'⟩
    refine⟨_,rfl,wd,n,kvs,wt,rfl,hw2,WW,by omega,hn24,hne,T2,fun M e H3 hM hmin sm3 T3=>?_⟩
    have hk3:H3 kl=some (.lst (kn.map oV)):=sm3.get hk2 (by intro ps z;cases z)
    have hw3:H3 wd=some (.dK kvs):=sm3.get hw2 (by intro ps z;cases z)
    obtain⟨hknM,hM0,hM1,hcnt,N0⟩:=D.enter G hM hmin
    have hval:zCS kvs (Sum.inl M)=some (.int e):=by rw[WW.at_ M,hM];rfl
    refine⟨_,rfl,wd,rfl,.inl ⟨kvs,.inl hw3⟩,_,rfl,kvs,Sum.inl M,_,hw3,rfl,hval,?_⟩
    have hlk:(kn.map oV).length=n.toNat:=by rw[zB];exact D.ln
    have hk3':(upd H3 wd (.dK (zCL kvs (Sum.inl M)))) kl=some (.lst (kn.map oV)):=by rw[zX nkw];exact hk3
    refine⟨_,rfl,_,rfl,kl,_,M,M.toNat,rfl,rfl,hk3',zCp hM0 (by rw[hlk];omega),?_⟩
    rw[show V.int e=oV (some e) from rfl,zHT]
    have sm4:SmP PT H (upd (upd H3 wd (.dK (zCL kvs (Sum.inl M)))) kl (.lst ((kn.set M.toNat (some e)).map oV))):=by
     intro b o hb
     rcases (sm.trans sm3) b o hb with z | z
     . exact .inl z
     . right
       have n1:b≠wd:=fun q=>by
        have hbn:H b=none:=by
         rw[q]
         cases e':H wd with
         | none=>rfl
         | some o'=>have:=s1 wd o' e';rw[hwd] at this;cases this
        rw[hbn] at hb;cases hb
       have n2:b≠kl:=fun q=>by
        have hbn:H b=none:=by
         rw[q]
         cases e':H kl with
         | none=>rfl
         | some o'=>have:=zL (o:=.lst [.non]) hl0 kl o' e';rw[hkl] at this;cases this
        rw[hbn] at hb;cases hb
       rw[zX n2,zX n1];exact z
    have T4:Tb (upd (upd H3 wd (.dK (zCL kvs (Sum.inl M)))) kl (.lst ((kn.set M.toNat (some e)).map oV))) PT:=by
     refine T3.keep (fun o ho=>?_) fun c φ hc=>?_
     . obtain⟨ps,hps,_⟩:=T3
       have e1:=ho
       rw[hps] at e1;cases e1
       rw[zX (zBw ho hk3 (by intro z;cases z)),zX (zBw ho hw3 (by intro z;cases z))];exact ho
     . rw[zX (zBw hc hk3 (by intro z;cases z)),zX (zBw hc hw3 (by intro z;cases z))];exact hc
    have hk4:(upd (upd H3 wd (.dK (zCL kvs (Sum.inl M)))) kl (.lst ((kn.set M.toNat (some e)).map oV))) kl=some (.lst ((kn.set M.toNat (some e)).map oV)):=zH
    have hw4:(upd (upd H3 wd (.dK (zCL kvs (Sum.inl M)))) kl (.lst ((kn.set M.toNat (some e)).map oV))) wd=some (.dK (zCL kvs (Sum.inl M))):=by rw[zX nkw.symm,zH]
    generalize upd (upd H3 wd (.dK (zCL kvs (Sum.inl M)))) kl (.lst ((kn.set M.toNat (some e)).map oV))=H4 at sm4 T4 hk4 hw4 ⊢
    refine⟨_,rfl,_,rfl,wa,n,ts,M,rfl,W.smT sm4,fun l zs ms H5 s5 hl5 hl5' T5 hp _=>?_⟩
    have hlz:=T5.length
    refine⟨l,rfl,⟨_,SqL.of hl5'⟩,zDV (K:=K) (a:=l) (xs:=zs) (fun i σ H6=>∃(kvs':List (Key×V))(wt':Int->Option Int)(v5 v6 v7:Option V),σ=[some (.ref wa),some (.int st),some (.ref kl),some (.ref wd),some (.int M),v5,v6,v7]/\(∀b o,b≠wd->H5 b=some o->H6 b=some o)/\H6 wd=some (.dK kvs')/\WD n kvs' wt'/\Dn ts n st M e (kn.set M.toNat (some e)) wt' (fun r=>∃j k,j<i/\ms[j]? = some k/\hd k=r))
     ⟨_,_,_,_,_,rfl,fun _ _ _ z=>z,s5 _ _ hw4,WW.drop,⟨⟨N0.dm.kd,N0.dm.wk,N0.dm.ord,fun q e' r l' hq ha=>(N0.dm.nb q e' r l' hq ha).imp (fun z=>⟨z.1,fun ⟨j,_,hj,_⟩=>absurd hj (Nat.not_lt_zero _)⟩) id,N0.dm.st,N0.dm.pd,N0.dm.mx⟩,N0.ln,N0.bk,N0.bd,N0.bw⟩⟩
     (fun i σ H6 _ ⟨_,_,_,_,_,_,s6,_⟩=>SqL.of (s6 l _ (zBw hl5' (s5 _ _ hw4) (by intro z;cases z)) hl5')) ?turn ?after⟩
    case after=>
     rintro σ H6 ⟨kvs',wt',v5,v6,v7,rfl,s6,hw6,WW6,N6⟩
     have hk5:H5 kl=some (.lst ((kn.set M.toNat (some e)).map oV)):=s5 _ _ hk4
     refine⟨_,kvs',wt',_,_,_,_,rfl,hcnt,?_,?_,s6 kl _ nkw hk5,hw6,WW6,N6.leave fun r c ha=>?_⟩
     . intro b o hb
       rcases (sm4.trans (SmP.of (P:=PT) s5)) b o hb with z | z
       . exact .inl z
       . right
         refine s6 b o (fun q=>?_) z
         have hbn:H b=none:=by
          rw[q]
          cases e':H wd with
          | none=>rfl
          | some o'=>have:=s1 wd o' e';rw[hwd] at this;cases this
         rw[hbn] at hb;cases hb
     . refine (T4.same s5).keep (fun o ho=>?_) fun c φ hc=>?_
       . obtain⟨ps,hps,_⟩:=T4.same s5
         refine s6 PT o (fun q=>?_) ho
         rw[q,s5 _ _ hw4] at hps;cases hps
       . refine s6 c _ (fun q=>?_) hc
         rw[q,s5 _ _ hw4] at hc;cases hc
     . have hm:[r,c]∈ms:=hp.mem_iff.mpr (zEP.mpr ⟨r,c,rfl,ha⟩)
       obtain⟨j,hj,ej⟩:=zx hm
       exact⟨j,[r,c],by omega,by rw[zC hj,ej],rfl⟩
    case turn=>
     rintro i y σ H6 hi ⟨kvs',wt',v5,v6,v7,rfl,s6,hw6,WW6,N6⟩
     obtain⟨ya,ky,rfl,hky,hya,_⟩:=T5.get hi
     obtain⟨r,c,rfl,ha⟩:=zEP.mp (hp.mem_iff.mp (zS hky))
     have hadj:=G.adj ha
     have hk6:H6 kl=some (.lst ((kn.set M.toNat (some e)).map oV)):=s6 kl _ nkw (s5 _ _ hk4)
     have hln:(kn.set M.toNat (some e)).length=n.toNat:=N6.ln
     have seen_of:∀{x:Int},(x=r\/∃j k,j<i/\ms[j]? = some k/\hd k=x)->∃j k,j<i+1/\ms[j]? = some k/\hd k=x:=fun {x} z=>by
      rcases z with rfl | ⟨j,k',hj,hk',e'⟩
      . exact⟨i,[x,c],Nat.lt_succ_self _,hky,rfl⟩
      . exact⟨j,k',zAh hj,hk',e'⟩
     have sub:∀{x:Int},(∃j k,j<i+1/\ms[j]? = some k/\hd k=x)->(∃j k,j<i/\ms[j]? = some k/\hd k=x)\/x=r:=fun {x} ⟨j,k',hj,hk',e'⟩=>by
      by_cases hji:j<i
      . exact .inl ⟨j,k',hji,hk',e'⟩
      . have:j=i:=by omega
        subst this
        rw[hky] at hk';cases hk'
        exact .inr e'.symm
     have conv:∀{wt2:Int->Option Int},Dn ts n st M e (kn.set M.toNat (some e)) wt2 (fun x=>(∃j k,j<i/\ms[j]? = some k/\hd k=x)\/x=r)->Dn ts n st M e (kn.set M.toNat (some e)) wt2 (fun x=>∃j k,j<i+1/\ms[j]? = some k/\hd k=x):=fun {wt2} N=>
      ⟨⟨N.dm.kd,N.dm.wk,N.dm.ord,fun q e' r' l' hq ha'=>(N.dm.nb q e' r' l' hq ha').imp (fun z=>⟨z.1,fun y=>z.2 (sub y)⟩) id,N.dm.st,N.dm.pd,N.dm.mx⟩,N.ln,N.bk,N.bd,N.bw⟩
     refine⟨ya,_,rfl,SqT.of (s6 _ _ (zBw hya (s5 _ _ hw4) (by intro z;cases z)) hya),rfl,_,_,rfl,_,_,rfl,rfl,?_⟩
     obtain⟨o,ho⟩:∃o,(kn.set M.toNat (some e))[r.toNat]? = some o:=⟨_,zC (by omega)⟩
     have hfnl:fnl (kn.set M.toNat (some e)) r=o:=by
      unfold fnl
      rw[if_pos hadj.2.2.1,zD,ho];rfl
     refine⟨_,rfl,_,rfl,kl,_,_,oV o,rfl,rfl,SqL.of hk6,zBG hadj.2.2.1 (by rw[zJ,ho];rfl),rfl,_,rfl,?_⟩
     rw[zFM]
     cases o with
     | some f0=>
      refine zD2 ?_
      exact⟨kvs',wt',_,_,_,rfl,s6,hw6,WW6,conv (N6.skip hfnl)⟩
     | none=>
      refine zGq ?_
      have hkM:(kn.set M.toNat (some e))[M.toNat]? = some (some e):=by
       rw[List.getElem?_set_self (by have:=D.ln;omega)]
      refine⟨_,rfl,_,rfl,kl,_,_,oV (some e),rfl,rfl,SqL.of hk6,zBG hM0 (by rw[zJ,hkM];rfl),_,rfl,_,_,rfl,rfl,?_⟩
      refine⟨_,rfl,_,rfl,wd,rfl,.inl ⟨kvs',.inl hw6⟩,_,rfl,_,rfl,_,zJZ.k (k:=Sum.inl r) hw6,?_⟩
      have hg:((zCS kvs' (Sum.inl r)).getD (V.int (e+c)))=V.int ((wt' r).getD (e+c)):=by
       rw[WW6.at_ r]
       cases wt' r <;> rfl
      rw[hg]
      refine⟨_,_,rfl,?_⟩
      have hwl:=WW6.len (by omega)
      refine⟨_,rfl,_,rfl,wd,_,rfl,zKj.k (k:=Sum.inl r) hw6 (zq (by omega)),?_⟩
      exact⟨_,_,_,_,_,rfl,fun b o' hb z=>by rw[zX hb];exact s6 b o' hb z,zH,WW6.put hadj.2.2.1 hadj.2.2.2.1,conv (N6.wait G ha hfnl)⟩
end
noncomputable def zLO:Sp:=fun vs H Q _=>∃(lh lt:Addr)(n:Int)(ts:List T3)(x y:Int)(kn1 kn2:List (Option Int)),vs=[.ref lh,.ref lt,.int y]/\GW n ts/\0<=x/\x<n/\0<=y/\y<n/\H lh=some (.tup (kn1.map oV))/\H lt=some (.tup (kn2.map oV))/\zJc ts n x kn1/\zJc ts n y kn2 /\
 ∀(l:Addr)(xs:List Int)(H':Hp),zAy H H'->H' l=some (.tup (xs.map V.int))->xs.Pairwise (· < ·)->(∀p,p∈xs↔Btw ts x y p)->Q (.ref l) H'
noncomputable def spNbr:Sp:=fun vs H Q _=>∃(wa lt:Addr)(n:Int)(ts:List T3)(x y:Int)(kn:List (Option Int)),vs=[.ref wa,.int x,.ref lt]/\zBd H wa n ts/\0<=x/\x<n/\0<=y/\y<n/\H lt=some (.tup (kn.map oV))/\zJc ts n y kn /\
 ∀(l:Addr)(xs:List Int)(H':Hp),zAy H H'->H' l=some (.tup (xs.map V.int))->xs.Pairwise (· < ·)->(∀p,p∈xs↔Nxt ts x y p)->Q (.ref l) H'
theorem zB5 {ts:List T3}{n s:Int}{kn:List (Option Int)}(h:zJc ts n s kn){y:Int}(h0:0<=y)(h1:y<n):(kn.map oV)[y.toNat]? = some (oV (fnl kn y)):=by
 have hl:=h.ln
 have hlt:y.toNat<kn.length:=by omega
 rw[zJ,zC hlt]
 unfold fnl
 rw[if_pos h0,zD,zC hlt]
 rfl
theorem zDr (q:Nat):lowTo (q+1)=lowTo q++[(q:Int)]:=by unfold lowTo;rw[zBR,zN];rfl
theorem zCW (q:Nat):(lowTo q).length=q:=by unfold lowTo;rw[zB,zu]
section
variable {P:Program}{w:World}{K:PySem.W.Frag}{mg:Str->Option Value}{base:Heap}{PT:Addr}
theorem scBwr:zAB ["here", "there", "other", "reached"] ["here", "there", "other"] (defScope sBwr):=⟨rfl,rfl,rfl,by decide +kernel,rfl,by decide +kernel,by decide +kernel⟩
theorem zK2 {f:Addr}{fd':FuncData}(F:Fun K "between_rows" "between_rows" sBwr f fd') (mRange:mg "range" = none) (mTuple:mg "tuple" = none) (mLen:mg "len" = none):zAb P w K mg base CX0 1 f fd' ["here", "there", "other"] zLO:=by
 refine F.ok scBwr (fun vs H Q E h=>?_) (fun cdv A outer s H2 vs Q E hr h=>?_)
 . obtain⟨lh,lt,n,ts,x,y,kn1,kn2,rfl,_⟩:=h
   rfl
 . obtain⟨lh,lt,n,ts,x,y,kn1,kn2,rfl,G,hx0,hx1,hy0,hy1,hh2,hl2,L1,L2,k⟩:=h
   have hn24:=G.n24
   have hln:=L1.ln
   refine⟨_,zT (zBz (zAQ zC3 (zAK zAp (pv 0) (pv 2) (fun _ _=>rfl)) zBy (zAa _)) (zf (zAT (zB8 zO))) zAw)
    (zT (zDe (i:=3) (own:=["place"]) (cn:=["here"]) (ci:=[0]) scBwr.nd rfl (Or.inl rfl) rfl (csc rfl rfl) ⟨rfl,rfl,rfl,trivial⟩ rfl
     (zAZ rfl mRange (zE (zAL zAX (by rfl) mLen PySem.boot_len (zE (pv 0) zO)) zO)) (fun _ _ _ _=>zw (i:=0) (zBn rfl) rfl (Or.inl rfl))
     (fun _ _ _ _=>zCH (zAQ zF5 (zAK zCO (pv 1) (pv 0) (fun _ _=>rfl)) zBy (zAa _))) (fun _ _ _ _=>pv 0))
    (zf (zAT (zBD zAf (by rfl) mTuple (by decide +kernel) (zE
     (zA8 (own:=["place"]) (cn:=["here", "there", "other"]) (ci:=[0,1,2]) rfl (csc rfl rfl) ⟨rfl,rfl,rfl,rfl,rfl,rfl,rfl,rfl,rfl,trivial⟩ rfl
      (zBv (pv 3)) (fun _ _ _ _=>zw (i:=0) (zBn rfl) rfl (Or.inl rfl))
      (fun _ _ _ _=>zCH (zAQ zCU (zAc zBe (zAK zCO (pv 1) (pv 0) (fun _ _=>rfl)) (zAK zCO (pv 2) (pv 0) (fun _ _=>rfl))) (zAK zCO (pv 1) (pv 3) (fun _ _=>rfl)) (zAa _)))
      (fun _ _ _ _=>pv 0)) zO))))),?_⟩
   have hy:=L1.len y hy0 hy1
   refine⟨_,rfl,_,rfl,lh,_,_,oV (fnl kn1 y),rfl,rfl,SqT.of hh2,zBG hy0 (zB5 L1 hy0 hy1),rfl,_,rfl,?_⟩
   rw[zFM]
   cases hd:fnl kn1 y with
   | none=>
    refine zGq ?_
    rw[hd] at hy
    refine⟨zh _,fun l hl=>k l [] _ (zL hl) zH List.Pairwise.nil fun p=>⟨fun z=>by simp at z,fun ⟨a,b,_,_,z⟩=>absurd z.1 (hy _)⟩⟩
   | some d=>
    refine zD2 ?_
    rw[hd] at hy
    have hyD:WM.IsD ts x y d:=hy
    refine⟨_,rfl,lh,_,rfl,.inr (SqT.of hh2),n,by rw[zB,hln];exact congrArg (fun z=>[V.int z]) (Int.toNat_of_nonneg (by omega)),by omega,by omega,[.ref lh],rfl,fun D hD=>?_⟩
    refine zA0 (lo:=0) (n:=n.toNat) (fun q ys H3=>q<=n.toNat/\ys=((lowTo q).filter fun o=>(fnl kn1 o).isSome).map V.int/\zAy H2 H3/\H3 D=some (.lst ys)) ⟨zh _,rfl,zL hD,zH⟩ (fun q ys H3 h=>?_) (fun q ys H3 hq h=>?_) (fun ys H3 h=>?_)
    . obtain⟨hq,rfl,_⟩:=h
      rw[zB]
      refine zAD (zv _ _) (zq ?_)
      rw[zCW];omega
    . obtain⟨_,rfl,s3,hD3⟩:=h
      rw[zAI]
      refine⟨⟨rfl,rfl⟩,?_⟩
      refine⟨_,rfl,_,rfl,lh,_,_,oV (fnl kn1 q),rfl,rfl,SqT.of (s3 _ _ hh2),zBG (by omega) (zB5 L1 (by omega) (by omega)),rfl,_,rfl,?_⟩
      rw[zFM]
      cases e:fnl kn1 q with
      | none=>
       refine zD2 ?_
       refine⟨hq,?_,s3,hD3⟩
       rw[zDr,zAl,zAG (by rw[e];decide),zAO,zo]
      | some a=>
       refine zGq ?_
       refine⟨_,rfl,hD3,hq,?_,zAr s3 hD,zH⟩
       rw[zDr,zAl,zAV (by rw[e];rfl),zAO,zN]
       rfl
    . obtain⟨_,rfl,s3,hD3⟩:=h
      generalize hR:((lowTo n.toNat).filter fun o=>(fnl kn1 o).isSome)=R at hD3 ⊢
      have hRm:∀p,p∈R↔(0<=p/\p<n)/\∃a,fnl kn1 p=some a:=fun p=>by
       rw[<-hR,zAu,zCA,Option.isSome_iff_exists]
       constructor
       . rintro ⟨z1,z2⟩;exact⟨by omega,z2⟩
       . rintro ⟨z1,z2⟩;exact⟨by omega,z2⟩
      have hRr:R.Pairwise (· < ·):=by rw[<-hR];exact (zC8 _).sublist List.filter_sublist
      have hRl:R.length<=24:=by
       rw[<-hR]
       exact zAE (zv _ _) (by rw[zCW];omega)
      have both:∀p,p∈R->∃a b,fnl kn1 p=some a/\fnl kn2 p=some b/\WM.IsD ts x p a/\WM.IsD ts p y b:=fun p hp=>by
       obtain⟨⟨h0,h1⟩,a,ha⟩:=(hRm p).mp hp
       have l1:=L1.len p h0 h1
       rw[ha] at l1
       obtain⟨b,hb,_⟩:=Len.via (show WM.IsD ts x p a from l1) hyD (Len.symm (L2.len p h0 h1))
       have l2:=L2.len p h0 h1
       rw[hb] at l2
       exact⟨a,b,ha,hb,l1,WM.IsD.symm l2⟩
      refine⟨_,rfl,D,rfl,⟨_,SqL.of hD3⟩,[.ref lh,.ref lt,.int y],rfl,fun D2 hD2=>?_⟩
      have nDD:D≠D2:=zi hD3 hD2
      refine zBm (a:=D) (xs:=R.map V.int) (fun i ys H4=>ys=((R.take i).filter fun p=>decide ((fnl kn1 p).getD 0+(fnl kn2 p).getD 0=d)).map V.int/\zAy H3 H4/\H4 D2=some (.lst ys)) ⟨rfl,zL hD2,zH⟩ (fun i ys H4 h=>?_) (fun i ys H4 h=>?_) (fun i v ys H4 hv h=>?_) (fun ys H4 h=>?_)
      . obtain⟨_,s4,_⟩:=h
        exact SqL.of (s4 _ _ hD3)
      . obtain⟨rfl,_⟩:=h
        rw[zB]
        refine zAD (zv _ _) (zq ?_)
        rw[zr];omega
      . obtain⟨rfl,s4,hD4⟩:=h
        obtain⟨p,hp,rfl⟩:∃p,R[i]? = some p/\V.int p=v:=by
         rw[zJ] at hv
         cases e:R[i]? with
         | none=>rw[e] at hv;cases hv
         | some p=>rw[e] at hv;exact⟨p,rfl,zP hv⟩
        have hpR:=zS hp
        obtain⟨⟨h0,h1⟩,_⟩:=(hRm p).mp hpR
        obtain⟨a,b,ha,hb,_,_⟩:=both p hpR
        have hlh4:H4 lh=some (.tup (kn1.map oV)):=s4 _ _ (s3 _ _ hh2)
        have hlt4:H4 lt=some (.tup (kn2.map oV)):=s4 _ _ (s3 _ _ hl2)
        refine⟨⟨rfl,rfl⟩,?_⟩
        refine⟨_,rfl,_,rfl,lh,_,_,.int a,rfl,rfl,SqT.of hlh4,zBG h0 (by rw[zB5 L1 h0 h1,ha];rfl),?_⟩
        refine⟨_,rfl,_,rfl,lt,_,_,.int b,rfl,rfl,SqT.of hlt4,zBG h0 (by rw[zB5 L2 h0 h1,hb];rfl),_,_,rfl,rfl,?_⟩
        refine⟨_,rfl,_,rfl,lh,_,_,.int d,rfl,rfl,SqT.of hlh4,zBG hy0 (by rw[zB5 L1 hy0 hy1,hd];rfl),rfl,_,rfl,?_⟩
        rw[zCB]
        have etk:(R.take (i+1)).filter (fun p=>decide ((fnl kn1 p).getD 0+(fnl kn2 p).getD 0=d))=(R.take i).filter (fun p=>decide ((fnl kn1 p).getD 0+(fnl kn2 p).getD 0=d))++(if a+b=d then [p] else []):=by
         rw[zy,hp,zAl]
         show _++List.filter _ [p]=_
         rw[zBB,ha,hb]
         by_cases c:a+b=d
         . rw[if_pos (by simpa using c),if_pos c];rfl
         . rw[if_neg (by simpa using c),if_neg c];rfl
        refine zFT (fun c=>?_) (fun c=>?_)
        . have c':=of_decide_eq_true c
          refine⟨_,rfl,hD4,?_,zAr s4 hD2,zH⟩
          rw[etk,if_pos c',zN];rfl
        . have c':¬ a+b=d:=fun z=>c (zU z)
          refine⟨?_,s4,hD4⟩
          rw[etk,if_neg c',zo]
      . obtain⟨rfl,s4,hD4⟩:=h
        rw[zB,zY (zI _)] at hD4
        refine⟨D2,_,rfl,.inl ⟨SqL.of hD4,fun q hq=>?_⟩⟩
        refine k q _ _ ((s3.trans s4).trans (zL hq)) zH (hRr.sublist List.filter_sublist) fun p=>?_
        rw[zAu]
        constructor
        . rintro ⟨hp,c⟩
          obtain⟨a,b,ha,hb,ia,ib⟩:=both p hp
          have c':=of_decide_eq_true c
          rw[ha,hb] at c'
          exact⟨a,b,ia,ib,by rw[show a+b=d from c'];exact hyD⟩
        . rintro ⟨a,b,ia,ib,iab⟩
          have hp:=ia.1.in_ G hx0 hx1
          have l1:=Len.uniq (L1.len p hp.1 hp.2) (show Len ts x p (some a) from ia)
          have l2:=Len.uniq (L2.len p hp.1 hp.2) (show Len ts y p (some b) from WM.IsD.symm ib)
          refine⟨(hRm p).mpr ⟨hp,a,l1⟩,zU ?_⟩
          rw[l1,l2]
          exact WM.IsD.uniq iab hyD
theorem scNbr:zAB ["web", "one", "there"] ["web", "one", "there"] (defScope sNbr):=⟨rfl,rfl,rfl,by decide +kernel,rfl,by decide +kernel,by decide +kernel⟩
noncomputable def sl1 (k:List Int):Int:=k.getD 1 0
theorem ok_nbr {f fT:Addr}{fd' fdT:FuncData}(F:Fun K "next_by_row" "next_by_row" sNbr f fd')
 (FT:Fun K "ties_at" "ties_at" zF0 fT fdT) (bT:zAA K fdT ["web", "place"] []) (mT:mg "ties_at" = some (.ref fT)) (mSorted:mg "sorted" = none) (mTuple:mg "tuple" = none):zAb P w K mg base CX0 3 f fd' ["web", "one", "there"] spNbr:=by
 have GT:zAb P w K mg base CX0 2 fT fdT ["web", "place"] zHx:=(zIR FT mSorted).mono (by decide)
 refine F.ok scNbr (fun vs H Q E h=>?_) (fun cdv A outer s H1 vs Q E hr h=>?_)
 . obtain⟨wa,lt,n,ts,x,y,kn,rfl,_⟩:=h
   rfl
 . obtain⟨wa,lt,n,ts,x,y,kn,rfl,W,hx0,hx1,hy0,hy1,hl1,L,k⟩:=h
   obtain⟨ta,tys,hwa,_,_,G⟩:=id W
   refine⟨_,zT (zBz (zAQ zC3 (zAK zAp (pv 2) (pv 1) (fun _ _=>rfl)) zBy (zAa _)) (zf (zAT (zB8 zO))) zAw)
    (zf (zAT (zBD zAf (by rfl) mTuple (by decide +kernel) (zE
     (zA8 (own:=["place", "long"]) (cn:=["there", "one"]) (ci:=[2,1]) rfl (csc rfl rfl) ⟨rfl,rfl,rfl,rfl,rfl,rfl,trivial⟩ rfl
      (zBv (zn GT hr rfl mT FT.kp bT .nil zAS (zE (pv 0) (zE (pv 1) zO))))
      (fun _ _ _ _=>zLl (n:=2) rfl (zBI (zw (i:=0) (zBn rfl) rfl (Or.inl rfl)) (zBI (zw (i:=1) (zBn rfl) rfl (Or.inl rfl)) zCs)))
      (fun _ _ _ _=>zCH (zAQ zCU (zAc zBe (pv 1) (zAK zCO (pv 2) (pv 0) (fun _ _=>rfl))) (zAK zCO (pv 2) (pv 3) (fun _ _=>rfl)) (zAa _)))
      (fun _ _ _ _=>pv 0)) zO)))),?_⟩
   have hx:=L.len x hx0 hx1
   refine⟨_,rfl,_,rfl,lt,_,_,oV (fnl kn x),rfl,rfl,SqT.of hl1,zBG hx0 (zB5 L hx0 hx1),rfl,_,rfl,?_⟩
   rw[zFM]
   cases hd:fnl kn x with
   | none=>
    refine zGq ?_
    rw[hd] at hx
    refine⟨zh _,fun l hl=>k l [] _ (zL hl) zH List.Pairwise.nil fun p=>⟨fun z=>by simp at z,fun ⟨a,b,_,_,z⟩=>absurd z.1.symm (hx _)⟩⟩
   | some d=>
    refine zD2 ?_
    rw[hd] at hx
    have hxD:WM.IsD ts x y d:=WM.IsD.symm hx
    refine⟨_,rfl,_,rfl,wa,n,ts,x,rfl,W,fun l zs ms H2 s2 hl0 hl2 TT hp hrs=>?_⟩
    have hlz:=TT.length
    have hlt2:H2 lt=some (.tup (kn.map oV)):=s2 _ _ hl1
    have hlm:ms.length<64:=by
     have e2:=zGx (n:=n) x (ts:=ts) fun t ht=>(G.rng t ht).2.1
     have:=G.len
     rw[hp.length_eq];omega
    have near:∀k,k∈ms->∃z c b,k=[z,c]/\Adj ts x z c/\fnl kn z=some b/\WM.IsD ts z y b:=fun k hk=>by
     obtain⟨z,c,e,ha⟩:=zEP.mp (hp.mem_iff.mp hk)
     have hadj:=G.adj ha
     have lz:=L.len z hadj.2.2.1 hadj.2.2.2.1
     cases hz:fnl kn z with
     | none=>rw[hz] at lz;exact absurd (hx.1.snoc ha) (lz _)
     | some b=>rw[hz] at lz;exact⟨z,c,b,e,ha,hz,WM.IsD.symm lz⟩
    refine⟨l,rfl,⟨_,SqL.of hl2⟩,[.ref lt,.int x],rfl,fun D hD=>?_⟩
    have nlD:l≠D:=zi hl2 hD
    refine zBm (a:=l) (xs:=zs) (fun i ys H3=>ys=(((ms.take i).filter fun k=>decide (sl1 k+(fnl kn (WM.hd k)).getD 0=d)).map WM.hd).map V.int/\H3=upd H2 D (.lst ys)) ⟨rfl,rfl⟩ (fun i ys H3 h=>?_) (fun i ys H3 h=>?_) (fun i v ys H3 hv h=>?_) (fun ys H3 h=>?_)
    . obtain⟨_,rfl⟩:=h
      exact SqL.of (by rw[zX nlD];exact hl2)
    . obtain⟨rfl,_⟩:=h
      rw[zB,zB]
      refine zAD (zv _ _) (zq ?_)
      rw[zr];omega
    . obtain⟨rfl,rfl⟩:=h
      obtain⟨ya,ky,rfl,hky,hya,_⟩:=TT.get hv
      obtain⟨z,c,b,rfl,ha,hb,ib⟩:=near ky (zS hky)
      have hadj:=G.adj ha
      refine⟨ya,_,rfl,SqT.of (by rw[zX (zi hya hD)];exact hya),rfl,_,_,rfl,_,_,rfl,rfl,⟨rfl,rfl⟩,?_⟩
      have hltD:(upd H2 D (.lst ((((ms.take i).filter fun k=>decide (sl1 k+(fnl kn (WM.hd k)).getD 0=d)).map WM.hd).map V.int))) lt=some (.tup (kn.map oV)):=by rw[zX (zi hlt2 hD)];exact hlt2
      refine⟨_,rfl,_,rfl,_,rfl,lt,_,_,.int b,rfl,rfl,SqT.of hltD,zBG hadj.2.2.1 (by rw[zB5 L hadj.2.2.1 hadj.2.2.2.1,hb];rfl),_,_,rfl,rfl,?_⟩
      refine⟨_,rfl,_,rfl,lt,_,_,.int d,rfl,rfl,SqT.of hltD,zBG hx0 (by rw[zB5 L hx0 hx1,hd];rfl),rfl,_,rfl,?_⟩
      rw[zCB]
      have etk:(ms.take (i+1)).filter (fun k=>decide (sl1 k+(fnl kn (WM.hd k)).getD 0=d))=(ms.take i).filter (fun k=>decide (sl1 k+(fnl kn (WM.hd k)).getD 0=d))++(if c+b=d then [[z,c]] else []):=by
       rw[zy,hky,zAl]
       show _++List.filter _ [[z,c]]=_
       rw[zBB]
       have e1:decide (sl1 [z,c]+(fnl kn (WM.hd [z,c])).getD 0=d)=decide (c+b=d):=by
        show decide (c+(fnl kn z).getD 0=d)=_
        rw[hb];rfl
       rw[e1]
       by_cases cc:c+b=d
       . rw[if_pos (by simpa using cc),if_pos cc];rfl
       . rw[if_neg (by simpa using cc),if_neg cc];rfl
      refine zFT (fun cc=>?_) (fun cc=>?_)
      . have c':=of_decide_eq_true cc
        refine⟨_,rfl,zH,?_,zBX⟩
        rw[etk,if_pos c',zN,zN];rfl
      . have c':¬ c+b=d:=fun q=>cc (zU q)
        refine⟨?_,rfl⟩
        rw[etk,if_neg c',zo]
    . obtain⟨rfl,rfl⟩:=h
      refine⟨D,_,rfl,.inl ⟨SqL.of zH,fun q hq=>?_⟩⟩
      rw[hlz,zY (zI _)] at hq ⊢
      have s4:=(zL (o:=.lst ((((ms.filter fun k=>decide (sl1 k+(fnl kn (WM.hd k)).getD 0=d)).map WM.hd).map V.int))) hD).trans (zL (o:=.tup ((((ms.filter fun k=>decide (sl1 k+(fnl kn (WM.hd k)).getD 0=d)).map WM.hd).map V.int))) hq)
      have hk:∀k∈ms,∃y l,k=[y,l]:=fun k hk=>by
       obtain⟨z,c,b,e,_⟩:=near k hk
       exact⟨z,c,e⟩
      have hrise:=zHd hrs hk ((hp.map WM.hd).nodup_iff.mpr (zKU G x))
      refine k q _ _ (s2.trans s4) zH (hrise.sublist (List.filter_sublist.map _)) fun p=>?_
      rw[zp]
      constructor
      . rintro ⟨k0,hk0,rfl⟩
        obtain⟨hm,c⟩:=zAu.mp hk0
        obtain⟨z,c0,b,rfl,ha,hb,ib⟩:=near k0 hm
        have c':=of_decide_eq_true c
        have c2:c0+b=d:=by
         have:c0+(fnl kn z).getD 0=d:=c'
         rw[hb] at this;exact this
        exact⟨c0,b,ha,ib,by rw[c2];exact hxD⟩
      . rintro ⟨c0,b,ha,ib,iab⟩
        have hm:[p,c0]∈ms:=hp.mem_iff.mpr (zEP.mpr ⟨p,c0,rfl,ha⟩)
        refine⟨[p,c0],zAu.mpr ⟨hm,zU ?_⟩,rfl⟩
        have hadj:=G.adj ha
        have lp:=Len.uniq (L.len p hadj.2.2.1 hadj.2.2.2.1) (show Len ts y p (some b) from WM.IsD.symm ib)
        show c0+(fnl kn p).getD 0=d
        rw[lp]
        exact WM.IsD.uniq iab hxD
end
noncomputable def zCb (H:Hp)(rs:List Addr)(M:List (List (Option Int))):Prop:=rs.length=M.length/\∀(i:Nat)(r:Addr)(row:List (Option Int)),rs[i]? = some r->M[i]? = some row->H r=some (.tup (row.map oV))
theorem zCb.smT {PT:Addr}{H H':Hp}{rs:List Addr}{M:List (List (Option Int))}(h:zCb H rs M)(k:SmP PT H H'):zCb H' rs M:=⟨h.1,fun i r row a b=>k.get (h.2 i r row a b) (by intro ps z;cases z)⟩
noncomputable def zGT (PT:Addr):Sp:=fun vs H Q _=>∃(wa:Addr)(n:Int)(ts:List T3),vs=[.ref wa]/\zBd H wa n ts/\Tb H PT /\
 ∀(l:Addr)(rs:List Addr)(M:List (List (Option Int)))(H':Hp),SmP PT H H'->Tb H' PT->H' l=some (.tup (rs.map V.ref))->zCb H' rs M->Rows ts n M->Q (.ref l) H'
section
variable {P:Program}{w:World}{K:PySem.W.Frag}{mg:Str->Option Value}{base:Heap}{PT:Addr}
theorem scLens:zAB ["web"] ["web"] (defScope zHG):=⟨rfl,rfl,rfl,by decide +kernel,rfl,by decide +kernel,by decide +kernel⟩
theorem zL5 {f fF:Addr}{fd' fdF:FuncData}(F:Fun K "lengths" "lengths" zHG f fd') (FF:Fun K "lengths_from" "lengths_from" zIE fF fdF) (bF:zAA K fdF ["web", "start"] []) (mF:mg "lengths_from" = some (.ref fF)) (GF:zAb P w K mg base CX0 3 fF fdF ["web", "start"] (zH2 PT))
 (mRange:mg "range" = none) (mTuple:mg "tuple" = none):zAb P w K mg base CX0 4 f fd' ["web"] (zGT PT):=by
 refine F.ok scLens (fun vs H Q E h=>?_) (fun cdv A outer s H vs Q E hr h=>?_)
 . obtain⟨wa,n,ts,rfl,_⟩:=h
   rfl
 . obtain⟨wa,n,ts,rfl,W,T,k⟩:=h
   obtain⟨ta,tys,hwa,_,_,G⟩:=id W
   have hn24:=G.n24
   have hn1:=G.n1
   refine⟨_,zf (zAT (zBD zAf (by rfl) mTuple (by decide +kernel) (zE
    (zA8 (own:=["place"]) (cn:=["web"]) (ci:=[0]) rfl (csc rfl rfl) ⟨rfl,rfl,rfl,trivial⟩ rfl
     (zAZ rfl mRange (zE (zAK zAp (pv 0) zj (fun _ _=>rfl)) zO)) (fun _ _ _ _=>zw (i:=0) (zBn rfl) rfl (Or.inl rfl)) (fun _ _ _ _=>zBP)
     (fun _ _ _ _=>zn GF hr rfl mF FF.kp bF .nil zAS (zE (pv 1) (zE (pv 0) zO)))) zO))),?_⟩
   refine⟨_,rfl,wa,_,_,_,rfl,rfl,SqT.of hwa,rfl,n,rfl,by omega,by omega,[.ref wa],rfl,fun D hD=>?_⟩
   refine zA0 (lo:=0) (n:=n.toNat) (fun q ys H1=>q<=n.toNat/\∃(rs:List Addr)(M:List (List (Option Int))),ys=rs.map V.ref/\rs.length=q/\zCb H1 rs M/\(∀x:Nat,x<q->zJc ts n x (M.getD x []))/\SmP PT H H1/\Tb H1 PT/\H1 D=some (.lst ys))
    ⟨zh _,[],[],rfl,rfl,⟨rfl,fun i r row h=>by simp at h⟩,fun x hx=>absurd hx (Nat.not_lt_zero _),SmP.of (P:=PT) (zL hD),T.same (zL hD),zH⟩ (fun q ys H1 h=>?_) (fun q ys H1 hq h=>?_) (fun ys H1 h=>?_)
   . obtain⟨hq,rs,M,rfl,hl,_⟩:=h
     rw[zB,hl]
     exact zq (by omega)
   . obtain⟨_,rs,M,rfl,hl,R,L,sm,T1,hD1⟩:=h
     rw[zAI]
     refine⟨⟨rfl,rfl⟩,?_⟩
     refine zEZ ?_
     refine⟨_,rfl,_,rfl,wa,n,ts,q,rfl,W.smT sm,by omega,by omega,T1,fun l kn H2 sm2 T2 hl2 L2=>?_⟩
     have hD2:H2 D=some (.lst (rs.map V.ref)):=sm2.get hD1 (by intro ps z;cases z)
     refine⟨hD2,hq,rs++[l],M++[kn],by rw[zN];rfl,by rw[zM,hl];rfl,⟨by rw[zM,zM,R.1];rfl,fun i r row h1 h2=>?_⟩,fun x hx=>?_,(sm.trans sm2).chg hD,T2.chg hD2,zH⟩
     . have key:H2 r=some (.tup (row.map oV)):=by
        by_cases hi:i<rs.length
        . rw[zW hi] at h1
          rw[zW (by rw[<-R.1];exact hi)] at h2
          exact sm2.get (R.2 i r row h1 h2) (by intro ps z;cases z)
        . rw[zR (by omega)] at h1
          rw[zR (by rw[<-R.1];omega),<-R.1] at h2
          cases hz:i-rs.length with
          | zero=>
           rw[hz] at h1 h2
           have e1:l=r:=by simpa using h1
           have e2:kn=row:=by simpa using h2
           subst e1 e2
           exact hl2
          | succ k=>rw[hz] at h1;simp at h1
       rw[zX (zBw key hD2 (by intro z;cases z))]
       exact key
     . by_cases hx':x<q
       . rw[zD,zW (by rw[<-R.1,hl];exact hx'),<-zD]
         exact L x hx'
       . have e:x=q:=by omega
         subst e
         rw[zD,zR (by rw[<-R.1,hl];exact zI _),<-R.1,hl]
         simpa using L2
   . obtain⟨_,rs,M,rfl,hl,R,L,sm,T1,hD1⟩:=h
     refine⟨D,_,rfl,.inl ⟨SqL.of hD1,fun q hq=>?_⟩⟩
     refine k q rs M _ (sm.trans (SmP.of (P:=PT) (zL hq))) (T1.same (zL hq)) zH (R.smT (SmP.of (P:=PT) (zL hq))) ⟨by rw[<-R.1,hl],fun x hx hx'=>?_⟩
     have:=L x.toNat (by omega)
     rw[show ((x.toNat:Nat):Int)=x by omega] at this
     exact this
end
end K37
namespace K37
open PySem L2 WM
noncomputable def zLM:Sp:=fun vs H Q _=>∃i:Int,vs=[.int i]/\Q (.bl true) H
noncomputable def spWi:Sp:=fun vs H Q _=>∃i a b:Int,vs=[.int i,.int a,.int b]/\a<=i/\i<=b/\Q (.bl true) H
noncomputable def spPl:Sp:=fun vs H Q _=>∃n i:Int,vs=[.int n,.int i]/\0<=i/\i<=n-1/\Q (.bl true) H
noncomputable def zLL:Sp:=fun vs H Q _=>∃(p:Addr)(ys:List V),vs=[.ref p,.int ys.length]/\H p=some (.tup ys)/\Q (.bl true) H
structure zHm (n:Int)(os:List Int):Prop where
 ln:os.length=n.toNat
 nd:os.Nodup
 rng:∀p∈os,0<=p/\p<n
noncomputable def zJl:Sp:=fun vs H Q _=>∃(wa p:Addr)(n:Int)(ts:List T3)(os:List Int),vs=[.ref wa,.ref p]/\zBd H wa n ts/\H p=some (.tup (os.map V.int))/\zHm n os/\∀H',zAy H H'->Q (.bl true) H'
section
variable {P:Program}{w:World}{K:PySem.W.Frag}{mg:Str->Option Value}{base:Heap}
theorem scNum:zAB ["thing"] ["thing"] (defScope zKw):=⟨rfl,rfl,rfl,by decide +kernel,rfl,by decide +kernel,by decide +kernel⟩
theorem zK1 {f:Addr}{fd':FuncData}(F:Fun K "is_number" "is_number" zKw f fd') (mIsi:mg "isinstance" = none) (mInt:mg "int" = none) (mBool:mg "bool" = none):zAb P w K mg base CX0 1 f fd' ["thing"] zLM:=by
 refine F.ok scNum (fun vs H Q E h=>?_) (fun cdv A outer s H vs Q E hr h=>?_)
 . obtain⟨i,rfl,_⟩:=h
   rfl
 . obtain⟨i,rfl,k⟩:=h
   refine⟨_,zf (zAT (zEL (zAL zCx (by rfl) mIsi (by decide +kernel) (zE (pv 0) (zE (zIJ (T := "int") (by rfl) mInt (by decide +kernel)) zO)))
    (zFI (pe_not (zAL zCx (by rfl) mIsi (by decide +kernel) (zE (pv 0) (zE (zIJ (T := "bool") (by rfl) mBool (by decide +kernel)) zO))))))),?_⟩
   refine⟨_,rfl,_,_,_,true,rfl,.int i,rfl,true,rfl,zGq ?_⟩
   exact⟨_,rfl,_,_,_,false,rfl,.int i,rfl,false,rfl,k⟩
theorem scWi:zAB ["thing", "least", "most"] ["thing", "least", "most"] (defScope sWi):=⟨rfl,rfl,rfl,by decide +kernel,rfl,by decide +kernel,by decide +kernel⟩
theorem ok_wi {f fN:Addr}{fd' fdN:FuncData}(F:Fun K "is_within" "is_within" sWi f fd') (FN:Fun K "is_number" "is_number" zKw fN fdN) (bN:zAA K fdN ["thing"] []) (mN:mg "is_number" = some (.ref fN)) (mIsi:mg "isinstance" = none) (mInt:mg "int" = none) (mBool:mg "bool" = none) :
 zAb P w K mg base CX0 2 f fd' ["thing", "least", "most"] spWi:=by
 have GN:zAb P w K mg base CX0 1 fN fdN ["thing"] zLM:=zK1 FN mIsi mInt mBool
 refine F.ok scWi (fun vs H Q E h=>?_) (fun cdv A outer s H vs Q E hr h=>?_)
 . obtain⟨i,a,b,rfl,_⟩:=h
   rfl
 . obtain⟨i,a,b,rfl,h1,h2,k⟩:=h
   refine⟨_,zf (zAT (zEL (zn GN hr rfl mN FN.kp bN .nil zAS (zE (pv 0) zO)) (zEL (zCt zLr (pv 1) (pv 0) (zAa _)) (zFI (zCt zLr (pv 0) (pv 2) (zAa _)))))),?_⟩
   refine⟨_,rfl,i,rfl,true,rfl,zGq ?_⟩
   refine⟨_,rfl,_,rfl,_,_,rfl,rfl,_,rfl,?_⟩
   refine ifT (zU h1) ?_
   refine⟨_,rfl,_,rfl,_,_,rfl,rfl,?_⟩
   show Q (.bl (decide (i<=b))) H
   rw[zU h2]
   exact k
theorem scPl:zAB ["n", "thing"] ["n", "thing"] (defScope sPl):=⟨rfl,rfl,rfl,by decide +kernel,rfl,by decide +kernel,by decide +kernel⟩
theorem ok_pl {f fW fN:Addr}{fd' fdW fdN:FuncData}(F:Fun K "is_place" "is_place" sPl f fd') (FW:Fun K "is_within" "is_within" sWi fW fdW) (bW:zAA K fdW ["thing", "least", "most"] []) (mW:mg "is_within" = some (.ref fW)) (FN:Fun K "is_number" "is_number" zKw fN fdN) (bN:zAA K fdN ["thing"] []) (mN:mg "is_number" = some (.ref fN)) (mIsi:mg "isinstance" = none) (mInt:mg "int" = none) (mBool:mg "bool" = none) :
 zAb P w K mg base CX0 3 f fd' ["n", "thing"] spPl:=by
 have GW':zAb P w K mg base CX0 2 fW fdW ["thing", "least", "most"] spWi:=ok_wi FW FN bN mN mIsi mInt mBool
 refine F.ok scPl (fun vs H Q E h=>?_) (fun cdv A outer s H vs Q E hr h=>?_)
 . obtain⟨n,i,rfl,_⟩:=h
   rfl
 . obtain⟨n,i,rfl,h1,h2,k⟩:=h
   refine⟨_,zf (zAT (zn GW' hr rfl mW FW.kp bW .nil zAS (zE (pv 1) (zE zj (zE (zAc zEM (pv 0) zj) zO))))),?_⟩
   exact⟨_,rfl,_,rfl,_,_,rfl,rfl,i,0,n-1,rfl,h1,h2,k⟩
theorem scTof:zAB ["thing", "count"] ["thing", "count"] (defScope sTof):=⟨rfl,rfl,rfl,by decide +kernel,rfl,by decide +kernel,by decide +kernel⟩
theorem zK0 {f:Addr}{fd':FuncData}(F:Fun K "is_tuple_of" "is_tuple_of" sTof f fd') (mIsi:mg "isinstance" = none) (mTuple:mg "tuple" = none) (mLen:mg "len" = none):zAb P w K mg base CX0 1 f fd' ["thing", "count"] zLL:=by
 refine F.ok scTof (fun vs H Q E h=>?_) (fun cdv A outer s H vs Q E hr h=>?_)
 . obtain⟨p,ys,rfl,_⟩:=h
   rfl
 . obtain⟨p,ys,rfl,hp,k⟩:=h
   refine⟨_,zf (zAT (zEL (zAL zCx (by rfl) mIsi (by decide +kernel) (zE (pv 0) (zE (zIJ (T := "tuple") (by rfl) mTuple (by decide +kernel)) zO)))
    (zFI (zCt zCU (zAL zAX (by rfl) mLen PySem.boot_len (zE (pv 0) zO)) (pv 1) (zAa _))))),?_⟩
   refine⟨_,rfl,_,_,_,true,rfl,.tup hp,rfl,true,rfl,zGq ?_⟩
   refine⟨_,rfl,p,_,rfl,.inr (SqT.of hp),_,rfl,rfl,?_⟩
   rw[zU rfl]
   exact k
theorem scOrd:zAB ["web", "thing", "n"] ["web", "thing"] (defScope sOrd):=⟨rfl,rfl,rfl,by decide +kernel,rfl,by decide +kernel,by decide +kernel⟩
theorem ok_ord {f fT fW fP fN:Addr}{fd' fdT fdW fdP fdN:FuncData}(F:Fun K "is_order" "is_order" sOrd f fd') (FT:Fun K "is_tuple_of" "is_tuple_of" sTof fT fdT) (bT:zAA K fdT ["thing", "count"] []) (mT:mg "is_tuple_of" = some (.ref fT))
 (FW:Fun K "is_within" "is_within" sWi fW fdW) (bW:zAA K fdW ["thing", "least", "most"] []) (mW:mg "is_within" = some (.ref fW)) (FP:Fun K "is_place" "is_place" sPl fP fdP) (bP:zAA K fdP ["n", "thing"] []) (mP:mg "is_place" = some (.ref fP)) (FN:Fun K "is_number" "is_number" zKw fN fdN) (bN:zAA K fdN ["thing"] []) (mN:mg "is_number" = some (.ref fN))
 (mIsi:mg "isinstance" = none) (mInt:mg "int" = none) (mBool:mg "bool" = none) (mTuple:mg "tuple" = none) (mLen:mg "len" = none) (mAll:mg "all" = none) (mSet:mg "set" = none):zAb P w K mg base CX0 4 f fd' ["web", "thing"] zJl:=by
 have GT:zAb P w K mg base CX0 3 fT fdT ["thing", "count"] zLL:=(zK0 FT mIsi mTuple mLen).mono (by decide)
 have GP:zAb P w K mg base CX0 3 fP fdP ["n", "thing"] spPl:=ok_pl FP FW bW mW FN bN mN mIsi mInt mBool
 refine F.ok scOrd (fun vs H Q E h=>?_) (fun cdv A outer s H vs Q E hr h=>?_)
 . obtain⟨wa,p,n,ts,os,rfl,_⟩:=h
   rfl
 . obtain⟨wa,p,n,ts,os,rfl,W,hp,O,k⟩:=h
   obtain⟨ta,tys,hwa,_,_,G⟩:=id W
   have hn1:=G.n1
   have hn24:=G.n24
   have hol:os.length<=24:=by rw[O.ln];omega
   refine⟨_,zT (zAP (i:=2) scOrd.nd rfl (Or.inr rfl) (zAK zAp (pv 0) zj (fun _ _=>rfl)))
    (zT (zBz (PW.pt (zHK (zDN (zCe (zn GT hr rfl mT FT.kp bT .nil zAS (zE (pv 1) (zE (pv 2) zO)))))
     (zEJ (zDN (zCe (zAL (zEx rfl) (by rfl) mAll (by decide +kernel) (zE (zA8 (own:=["place"]) (cn:=["n"]) (ci:=[2]) rfl (csc rfl rfl) ⟨rfl,rfl,rfl,trivial⟩ rfl (zC0 (pv 1)) (fun _ _ _ _=>zw (i:=0) (zBn rfl) rfl (Or.inl rfl))
      (fun _ _ _ _=>zBP) (fun _ _ _ _=>zn GP hr rfl mP FP.kp bP .nil zAS (zE (pv 1) (zE (pv 0) zO)))) zO))))))) (zf (zAT zF4)) zAw)
    (zf (zAT (zCt zCU (zAL zJL (by rfl) mLen PySem.boot_len (zE (zBD (zJJ rfl) (by rfl) mSet (by decide +kernel) (zE (pv 1) zO)) zO)) (pv 2) (zAa _))))),?_⟩
   refine⟨_,rfl,wa,_,_,_,rfl,rfl,SqT.of hwa,rfl,?_⟩
   have hpl:(os.map V.int).length=n:=by rw[zB,O.ln];omega
   refine⟨_,rfl,_,rfl,p,os.map V.int,by rw[hpl];rfl,hp,_,rfl,zD2 ?_⟩
   refine⟨_,rfl,p,rfl,⟨_,SqT.of hp⟩,[.int n],rfl,fun D hD=>?_⟩
   refine zCl (a:=p) (xs:=os.map V.int) (fun i ys H4=>i<=os.length/\ys=(List.replicate i true).map V.bl/\H4=upd H D (.lst ys)) ⟨zh _,rfl,rfl⟩ (fun i ys H4 h=>?_) (fun i ys H4 h=>?_) (fun i v ys H4 hv h=>?_) (fun ys H4 h=>?_)
   . obtain⟨_,_,rfl⟩:=h
     exact SqT.of (by rw[zX (zi hp hD)];exact hp)
   . obtain⟨hi,rfl,_⟩:=h
     rw[zB,zAH]
     exact zq (by omega)
   . obtain⟨_,rfl,rfl⟩:=h
     obtain⟨x,hx,rfl⟩:∃x,os[i]? = some x/\V.int x=v:=by
      rw[zJ] at hv
      cases e:os[i]? with
      | none=>rw[e] at hv;cases hv
      | some x=>rw[e] at hv;exact⟨x,rfl,zP hv⟩
     have hr':=O.rng x (zS hx)
     refine⟨⟨rfl,rfl⟩,?_⟩
     refine zEZ ?_
     refine⟨_,rfl,_,rfl,n,x,rfl,hr'.1,by omega,?_⟩
     refine⟨zH,(zK.mp hx).1,?_,zBX⟩
     rw[List.replicate_succ',zN];rfl
   . obtain⟨_,rfl,rfl⟩:=h
     refine⟨D,List.replicate (os.map V.int).length true,rfl,SqL.of zH,_,rfl,?_⟩
     have hall:(List.replicate (os.map V.int).length true).all id=true:=zBH.mpr fun b hb=>(List.mem_replicate.mp hb).2
     rw[hall]
     refine zD2 ?_
     have hp5:=zL (o:=.lst ((List.replicate (os.map V.int).length true).map V.bl)) hD _ _ hp
     refine⟨_,rfl,p,os,rfl,SqT.of hp5,by omega,fun d S hd=>?_⟩
     refine⟨d,S,_,rfl,zH,_,rfl,rfl,?_⟩
     rw[zDu O.nd os.length (zI _),zY (zI _),zU (by rw[<-hpl,zB])]
     exact k _ ((zL hD).trans (zL hd))
end
end K37
namespace K37
open PySem L2 WM
noncomputable def eV (e:En):List V:=[.int e.h,.int e.l,oV e.u,oV e.d]
noncomputable def zFu (H:Hp)(as:List Addr)(es:List En):Prop:=as.length=es.length/\∀(i:Nat)(a:Addr),as[i]? = some a->∃e,es[i]? = some e/\H a=some (.tup (eV e))
noncomputable def zEz (H:Hp)(p:Addr)(es:List En):Prop:=∃as:List Addr,H p=some (.tup (as.map V.ref))/\zFu H as es/\es.length<=1000
theorem zFu.keep {H H':Hp}{as:List Addr}{es:List En}(h:zFu H as es)(k:∀b ys,H b=some (.tup ys)->H' b=some (.tup ys)):zFu H' as es:=
 ⟨h.1,fun i a ha=>let ⟨e,h1,h2⟩:=h.2 i a ha;⟨e,h1,k _ _ h2⟩⟩
theorem zFu.snoc {H:Hp}{as:List Addr}{es:List En}{a:Addr}{e:En}(h:zFu H as es)(ha:H a=some (.tup (eV e))):zFu H (as++[a]) (es++[e]):=by
 refine⟨by rw[zM,zM,h.1];rfl,fun i b hb=>?_⟩
 by_cases c:i<as.length
 . rw[zW c] at hb
   obtain⟨e',h1,h2⟩:=h.2 i b hb
   exact⟨e',by rw[zW (by rw[<-h.1];exact c)];exact h1,h2⟩
 . rw[zR (by omega)] at hb
   have hi:i-as.length=0:=by
    cases z:i-as.length with
    | zero=>rfl
    | succ m=>rw[z] at hb;simp at hb
   rw[hi] at hb
   have:a=b:=by simpa using hb
   subst this
   exact⟨e,by rw[zR (by rw[<-h.1];omega),<-h.1,hi];rfl,ha⟩
theorem zEz.keep {H H':Hp}{p:Addr}{es:List En}(h:zEz H p es)(k:∀b ys,H b=some (.tup ys)->H' b=some (.tup ys)):zEz H' p es:=
 let ⟨as,h1,h2,h3⟩:=h;⟨as,k _ _ h1,h2.keep k,h3⟩
theorem zEz.same {H H':Hp}{p:Addr}{es:List En}(h:zEz H p es)(k:zAy H H'):zEz H' p es:=h.keep fun b ys e=>k _ _ e
noncomputable def rkf (rks:List Int)(p:Int):Int:=rks.getD p.toNat 0
noncomputable def zFs (ts:List T3)(rk:Int->Int)(h v:Int):Prop:=(∃d,WM.IsD ts h v d)/\∀p,Btw ts h v p->rk h<=rk p
noncomputable def MinO (P:Int->Prop):Option Int->Prop
 | none=>∀p,¬ P p
 | some m=>P m/\∀p,P p->m<=p
theorem MinO.congr {P P':Int->Prop}(e:∀p,P p↔P' p):∀{o:Option Int},MinO P o->MinO P' o
 | none,h=>fun p z=>h p ((e p).mpr z)
 | some _,h=>⟨(e _).mp h.1,fun p z=>h.2 p ((e p).mpr z)⟩
structure zMf (ts:List T3)(n:Int)(rk:Int->Int)(v:Int)(e:En):Prop where
 rng:0<=e.h/\e.h<n
 hub:zFs ts rk e.h v
 len:WM.IsD ts v e.h e.l
 up:MinO (Nxt ts v e.h) e.u
 dn:MinO (Nxt ts e.h v) e.d
structure zKh (ts:List T3)(n:Int)(rk:Int->Int)(v:Int)(es:List En):Prop where
 hub:Hub es
 ent:∀e∈es,zMf ts n rk v e
 all:∀h,0<=h->h<n->zFs ts rk h v->∃e∈es,e.h=h
 len:es.length<=24
noncomputable def zJX (H:Hp)(l:Addr)(ess:List (List En)):Prop:=∃as:List Addr,H l=some (.tup (as.map V.ref))/\as.length=ess.length/\∀(i:Nat)(a:Addr),as[i]? = some a->∃es,ess[i]? = some es/\zEz H a es
theorem zCb.at {H:Hp}{rs:List Addr}{M:List (List (Option Int))}{ts:List T3}{n x:Int}(RA:zCb H rs M)(RR:Rows ts n M)(h0:0<=x)(h1:x<n) :
 ∃r,(rs.map V.ref)[x.toNat]? = some (.ref r)/\H r=some (.tup ((M.getD x.toNat []).map oV))/\zJc ts n x (M.getD x.toNat []):=by
 have hM:x.toNat<M.length:=by rw[RR.1];omega
 have hr:x.toNat<rs.length:=by rw[RA.1];exact hM
 have e:M[x.toNat]? = some (M.getD x.toNat []):=by rw[zD,zC hM];rfl
 exact⟨rs[x.toNat],by rw[zJ,zC hr];rfl,RA.2 _ _ _ (zC hr) e,RR.2 x h0 h1⟩
theorem zCb.same {H H':Hp}{rs:List Addr}{M:List (List (Option Int))}(h:zCb H rs M)(k:zAy H H'):zCb H' rs M:=⟨h.1,fun i r row a b=>k _ _ (h.2 i r row a b)⟩
theorem zIa {K:PySem.W.Frag}{H:Hp}{p:Addr}{xs:List Int}{Q:VK}(hp:SqT K H p (xs.map V.int))(h:∀u,MinO (· ∈ xs) u->Q (oV u) H):rMinD K (.ref p) .non H Q:=by
 refine⟨p,_,rfl,.inr hp,fun e=>?_,.inr ⟨xs,rfl,fun n hn hm=>h (some n) ⟨hn,hm⟩⟩⟩
 have:xs=[]:=by simpa using e
 exact h none fun q hq=>by rw[this] at hq;simp at hq
structure zJV (H:Hp)(rl ra:Addr)(rs:List Addr)(M:List (List (Option Int)))(rks:List Int)(n:Int)(ts:List T3):Prop where
 tab:H rl=some (.tup (rs.map V.ref))
 rows:zCb H rs M
 right:Rows ts n M
 rk:H ra=some (.lst (rks.map V.int))
 rln:rks.length=n.toNat
 web:GW n ts
theorem zJV.same {H H':Hp}{rl ra:Addr}{rs:List Addr}{M:List (List (Option Int))}{rks:List Int}{n:Int}{ts:List T3}(L:zJV H rl ra rs M rks n ts)(k:zAy H H'):zJV H' rl ra rs M rks n ts:=⟨k _ _ L.tab,L.rows.same k,L.right,k _ _ L.rk,L.rln,L.web⟩
theorem zJV.rank {H:Hp}{rl ra:Addr}{rs:List Addr}{M:List (List (Option Int))}{rks:List Int}{n:Int}{ts:List T3}(L:zJV H rl ra rs M rks n ts){x:Int}(h0:0<=x)(h1:x<n):(rks.map V.int)[x.toNat]? = some (.int (rkf rks x)):=by
 have:x.toNat<rks.length:=by rw[L.rln];omega
 rw[zJ,zC this]
 unfold rkf
 rw[zD,zC this]
 rfl
noncomputable def spIsh:Sp:=fun vs H Q _=>∃(rl ra:Addr)(rs:List Addr)(M:List (List (Option Int)))(rks:List Int)(n:Int)(ts:List T3)(h v:Int),vs=[.ref rl,.ref ra,.int h,.int v]/\zJV H rl ra rs M rks n ts/\0<=h/\h<n/\0<=v/\v<n /\
 ∀(b:Bool)(H':Hp),zAy H H'->(b=true↔zFs ts (rkf rks) h v)->Q (.bl b) H'
noncomputable def spEbr:Sp:=fun vs H Q _=>∃(wa rl ra:Addr)(rs:List Addr)(M:List (List (Option Int)))(rks:List Int)(n:Int)(ts:List T3)(v h:Int),vs=[.ref wa,.ref rl,.int v,.int h]/\zBd H wa n ts/\zJV H rl ra rs M rks n ts/\0<=h/\h<n/\0<=v/\v<n/\zFs ts (rkf rks) h v /\
 ∀(a:Addr)(e:En)(H':Hp),zAy H H'->H' a=some (.tup (eV e))->e.h=h->zMf ts n (rkf rks) v e->Q (.ref a) H'
noncomputable def zLN:Sp:=fun vs H Q _=>∃(wa rl ra:Addr)(rs:List Addr)(M:List (List (Option Int)))(rks:List Int)(n:Int)(ts:List T3)(v:Int),vs=[.ref wa,.ref rl,.ref ra,.int v]/\zBd H wa n ts/\zJV H rl ra rs M rks n ts/\0<=v/\v<n /\
 ∀(a:Addr)(es:List En)(H':Hp),zAy H H'->zEz H' a es->zKh ts n (rkf rks) v es->Q (.ref a) H'
section
variable {P:Program}{w:World}{K:PySem.W.Frag}{mg:Str->Option Value}{base:Heap}
theorem scIsh:zAB ["rows", "ranks", "hub", "place"] ["rows", "ranks", "hub", "place"] (defScope sIsh):=⟨rfl,rfl,rfl,by decide +kernel,rfl,by decide +kernel,by decide +kernel⟩
theorem ok_ish {f fB:Addr}{fd' fdB:FuncData}(F:Fun K "is_hub" "is_hub" sIsh f fd') (FB:Fun K "between_rows" "between_rows" sBwr fB fdB) (bB:zAA K fdB ["here", "there", "other"] []) (mB:mg "between_rows" = some (.ref fB)) (mRange:mg "range" = none) (mTuple:mg "tuple" = none) (mLen:mg "len" = none) (mAll:mg "all" = none) :
 zAb P w K mg base CX0 2 f fd' ["rows", "ranks", "hub", "place"] spIsh:=by
 have GB:zAb P w K mg base CX0 1 fB fdB ["here", "there", "other"] zLO:=zK2 FB mRange mTuple mLen
 refine F.ok scIsh (fun vs H Q E h=>?_) (fun cdv A outer s H vs Q E hr h=>?_)
 . obtain⟨rl,ra,rs,M,rks,n,ts,h,v,rfl,_⟩:=h
   rfl
 . obtain⟨rl,ra,rs,M,rks,n,ts,h,v,rfl,L,h0,h1,v0,v1,k⟩:=h
   have G:=L.web
   have hn24:=G.n24
   refine⟨_,zT (zBz (zAQ zC3 (zAK zAp (zAK zAp (pv 0) (pv 2) (fun _ _=>rfl)) (pv 3) (fun _ _=>rfl)) zBy (zAa _)) (zf (zAT zF4)) zAw)
    (zf (zAT (zAL (zEx rfl) (by rfl) mAll (by decide +kernel) (zE (zA8 (own:=["other"]) (cn:=["ranks", "hub"]) (ci:=[1,2]) rfl (csc rfl rfl) ⟨rfl,rfl,rfl,rfl,rfl,rfl,trivial⟩ rfl
     (zC0 (zn GB hr rfl mB FB.kp bB .nil zAS (zE (zAK zAp (pv 0) (pv 2) (fun _ _=>rfl)) (zE (zAK zAp (pv 0) (pv 3) (fun _ _=>rfl)) (zE (pv 3) zO))))) (fun _ _ _ _=>zw (i:=0) (zBn rfl) rfl (Or.inl rfl))
     (fun _ _ _ _=>zBP) (fun _ _ _ _=>zCt zLr (zAK zC7 (pv 1) (pv 2) (fun _ _=>rfl)) (zAK zC7 (pv 1) (pv 0) (fun _ _=>rfl)) (zAa _))) zO)))),?_⟩
   obtain⟨rh,gh,hh,Lh⟩:=L.rows.at L.right h0 h1
   obtain⟨rv,gv,hv,Lv⟩:=L.rows.at L.right v0 v1
   have lhv:=Lh.len v v0 v1
   refine⟨_,rfl,_,rfl,rl,_,_,.ref rh,rfl,rfl,SqT.of L.tab,zBG h0 gh,_,rfl,rh,_,_,oV (fnl (M.getD h.toNat []) v),rfl,rfl,SqT.of hh,zBG v0 (zB5 Lh v0 v1),rfl,_,rfl,?_⟩
   rw[zFM]
   cases ed:fnl (M.getD h.toNat []) v with
   | none=>
    rw[ed] at lhv
    refine zGq ?_
    exact k false H (zAy.refl _) ⟨(fun z=>by cases z),(fun z=>by obtain⟨d,hd⟩:=z.1;exact absurd hd.1 (lhv d))⟩
   | some d=>
    rw[ed] at lhv
    refine zD2 ?_
    refine⟨_,rfl,_,rfl,rl,_,_,.ref rh,rfl,rfl,SqT.of L.tab,zBG h0 gh,_,rfl,_,rfl,rl,_,_,.ref rv,rfl,rfl,SqT.of L.tab,zBG v0 gv,_,rfl,rh,rv,n,ts,h,v,_,_,rfl,G,h0,h1,v0,v1,hh,hv,Lh,Lv,fun l xs H1 s1 hl hrise hmem=>?_⟩
    have hxr:∀p∈xs,0<=p/\p<n:=fun p hp=>by
     obtain⟨a,b,ia,_⟩:=(hmem p).mp hp
     exact ia.1.in_ G h0 h1
    have hxl:xs.length<=24:=by
     have:=nd_len (n:=n.toNat) (l:=xs) (hrise.imp fun z=>by omega) fun x hx=>by have:=hxr x hx;omega
     omega
    refine⟨l,rfl,⟨_,SqT.of hl⟩,[.ref ra,.int h],rfl,fun D hD=>?_⟩
    have hra:=s1 _ _ L.rk
    refine zCl (a:=l) (xs:=xs.map V.int) (fun i ys H4=>ys=((xs.take i).map fun p=>decide (rkf rks h<=rkf rks p)).map V.bl/\H4=upd H1 D (.lst ys)) ⟨rfl,rfl⟩ (fun i ys H4 z=>?_) (fun i ys H4 z=>?_) (fun i x ys H4 hx z=>?_) (fun ys H4 z=>?_)
    . obtain⟨_,rfl⟩:=z
      exact SqT.of (by rw[zX (zi hl hD)];exact hl)
    . obtain⟨rfl,_⟩:=z
      rw[zB,zB,zr]
      exact zq (by omega)
    . obtain⟨rfl,rfl⟩:=z
      obtain⟨p,hp,rfl⟩:∃p,xs[i]? = some p/\V.int p=x:=by
       rw[zJ] at hx
       cases e:xs[i]? with
       | none=>rw[e] at hx;cases hx
       | some p=>rw[e] at hx;exact⟨p,rfl,zP hx⟩
      have hpr:=hxr p (zS hp)
      have hra4:=zL (o:=.lst (((xs.take i).map fun p=>decide (rkf rks h<=rkf rks p)).map V.bl)) hD _ _ hra
      refine⟨⟨rfl,rfl⟩,?_⟩
      refine zEZ ?_
      refine⟨_,rfl,_,rfl,ra,_,_,.int (rkf rks h),rfl,rfl,SqL.of hra4,zBG h0 (L.rank h0 h1),_,rfl,_,rfl,ra,_,_,.int (rkf rks p),rfl,rfl,SqL.of hra4,zBG hpr.1 (L.rank hpr.1 hpr.2),_,_,rfl,rfl,zH,?_,zBX⟩
      rw[zy,hp,zN,zN];rfl
    . obtain⟨rfl,rfl⟩:=z
      rw[zB,zY (zI _)]
      refine⟨D,_,rfl,SqL.of zH,?_⟩
      refine k _ _ (s1.trans (zL hD)) ⟨fun z=>⟨⟨d,lhv⟩,fun p hp=>?_⟩,fun z=>zBH.mpr fun b hb=>?_⟩
      . have:=zBH.mp z _ (zp.mpr ⟨p,(hmem p).mpr hp,rfl⟩)
        exact of_decide_eq_true this
      . obtain⟨p,hp,rfl⟩:=zp.mp hb
        exact zU (z.2 p ((hmem p).mp hp))
theorem zLZ:zAB ["web", "rows", "place", "hub", "up", "down"] ["web", "rows", "place", "hub"] (defScope sEbr):=⟨rfl,rfl,rfl,by decide +kernel,rfl,by decide +kernel,by decide +kernel⟩
theorem ok_ebr {f fN fT:Addr}{fd' fdN fdT:FuncData}(F:Fun K "entry_by_rows" "entry_by_rows" sEbr f fd') (FN:Fun K "next_by_row" "next_by_row" sNbr fN fdN) (bN:zAA K fdN ["web", "one", "there"] []) (mN:mg "next_by_row" = some (.ref fN))
 (FT:Fun K "ties_at" "ties_at" zF0 fT fdT) (bT:zAA K fdT ["web", "place"] []) (mT:mg "ties_at" = some (.ref fT)) (mSorted:mg "sorted" = none) (mTuple:mg "tuple" = none) (mMin:mg "min" = none):zAb P w K mg base CX0 4 f fd' ["web", "rows", "place", "hub"] spEbr:=by
 have GN:zAb P w K mg base CX0 3 fN fdN ["web", "one", "there"] spNbr:=ok_nbr FN FT bT mT mSorted mTuple
 refine F.ok zLZ (fun vs H Q E h=>?_) (fun cdv A outer s H vs Q E hr h=>?_)
 . obtain⟨wa,rl,ra,rs,M,rks,n,ts,v,h,rfl,_⟩:=h
   rfl
 . obtain⟨wa,rl,ra,rs,M,rks,n,ts,v,h,rfl,W,L,h0,h1,v0,v1,hh,k⟩:=h
   have hu:=zMQ hr
   refine⟨_,zT (zAP (i:=4) zLZ.nd rfl (Or.inl rfl) (zIL rfl hu (by rfl) mMin (zE (zn GN hr rfl mN FN.kp bN .nil zAS (zE (pv 0) (zE (pv 2) (zE (zAK zAp (pv 1) (pv 3) (fun _ _=>rfl)) zO)))) zO) zBy))
    (zT (zAP (i:=5) zLZ.nd rfl (Or.inl rfl) (zIL rfl hu (by rfl) mMin (zE (zn GN hr rfl mN FN.kp bN .nil zAS (zE (pv 0) (zE (pv 3) (zE (zAK zAp (pv 1) (pv 2) (fun _ _=>rfl)) zO)))) zO) zBy))
    (zf (zAT (zB8 (zE (pv 3) (zE (zAK zAp (zAK zAp (pv 1) (pv 2) (fun _ _=>rfl)) (pv 3) (fun _ _=>rfl)) (zE (pv 4) (zE (pv 5) zO)))))))),?_⟩
   obtain⟨rh,gh,ha,Lh⟩:=L.rows.at L.right h0 h1
   obtain⟨rv,gv,hv,Lv⟩:=L.rows.at L.right v0 v1
   refine⟨_,rfl,_,rfl,_,rfl,_,rfl,rl,_,_,.ref rh,rfl,rfl,SqT.of L.tab,zBG h0 gh,wa,rh,n,ts,v,h,_,rfl,W,v0,v1,h0,h1,ha,Lh,fun l1 xs H1 s1 hl1 _ hm1=>?_⟩
   refine⟨_,rfl,?_⟩
   unfold tC
   refine zIa (SqT.of hl1) fun u hu1=>?_
   have L1:=L.same s1
   refine⟨_,rfl,_,rfl,_,rfl,_,rfl,rl,_,_,.ref rv,rfl,rfl,SqT.of L1.tab,zBG v0 gv,wa,rv,n,ts,h,v,_,rfl,W.keep s1,h0,h1,v0,v1,s1 _ _ hv,Lv,fun l2 ys H2 s2 hl2 _ hm2=>?_⟩
   refine⟨_,rfl,?_⟩
   dsimp only
   refine zIa (SqT.of hl2) fun d hd1=>?_
   have s12:=s1.trans s2
   have L2':=L.same s12
   obtain⟨dd,hdd⟩:=hh.1
   have lv:=Len.uniq (Lv.len h h0 h1) (show Len ts v h (some dd) from WM.IsD.symm hdd)
   refine⟨_,rfl,_,rfl,_,rfl,rl,_,_,.ref rv,rfl,rfl,SqT.of L2'.tab,zBG v0 gv,_,rfl,rv,_,_,.int dd,rfl,rfl,SqT.of (s12 _ _ hv),zBG h0 (by rw[zB5 Lv h0 h1,lv];rfl),_,rfl,_,rfl,by show 4<=sizeLine;decide,fun a ha'=>?_⟩
   exact k a ⟨h,dd,u,d⟩ _ (s12.trans (zL ha')) zH rfl ⟨⟨h0,h1⟩,hh,WM.IsD.symm hdd,hu1.congr hm1,hd1.congr hm2⟩
end
noncomputable def zMc (n:Int)(os:List Int)(rk:Int->Int):Prop:=∀p,0<=p->p<n->0<=rk p/\os[(rk p).toNat]? = some p
noncomputable def zJW (ts:List T3)(n:Int)(rk:Int->Int)(ess:List (List En)):Prop:=ess.length=n.toNat/\∀(i:Nat)(es:List En),ess[i]? = some es->zKh ts n rk i es
noncomputable def zJo (PT:Addr):Sp:=fun vs H Q _=>∃(wa p:Addr)(n:Int)(ts:List T3)(os:List Int),vs=[.ref wa,.ref p]/\zBd H wa n ts/\H p=some (.tup (os.map V.int))/\zHm n os/\Tb H PT /\
 ∀(l:Addr)(ess:List (List En))(rk:Int->Int)(H':Hp),SmP PT H H'->Tb H' PT->zJX H' l ess->zMc n os rk->zJW ts n rk ess->Q (.ref l) H'
theorem zHm.mem {n:Int}{os:List Int}(O:zHm n os){p:Int}(h0:0<=p)(h1:p<n):p∈os:=by
 apply zBa
 intro hn
 have:=nd_len (n:=n.toNat) (l:=p::os) (zAN.mpr ⟨hn,O.nd⟩) fun x hx=>by
  rcases ze.mp hx with rfl | hx
  . omega
  . have:=O.rng x hx;omega
 rw[zt,O.ln] at this
 omega
section
variable {P:Program}{w:World}{K:PySem.W.Frag}{mg:Str->Option Value}{base:Heap}{PT:Addr}
theorem scLbr:zAB ["web", "rows", "ranks", "place", "hubs"] ["web", "rows", "ranks", "place"] (defScope sLbr):=⟨rfl,rfl,rfl,by decide +kernel,rfl,by decide +kernel,by decide +kernel⟩
theorem ok_lbr {f fI fE:Addr}{fd' fdI fdE:FuncData}(F:Fun K "label_by_ranks" "label_by_ranks" sLbr f fd') (FI:Fun K "is_hub" "is_hub" sIsh fI fdI) (bI:zAA K fdI ["rows", "ranks", "hub", "place"] []) (mI:mg "is_hub" = some (.ref fI)) (GI:zAb P w K mg base CX0 4 fI fdI ["rows", "ranks", "hub", "place"] spIsh)
 (FE:Fun K "entry_by_rows" "entry_by_rows" sEbr fE fdE) (bE:zAA K fdE ["web", "rows", "place", "hub"] []) (mE:mg "entry_by_rows" = some (.ref fE)) (GE:zAb P w K mg base CX0 4 fE fdE ["web", "rows", "place", "hub"] spEbr) (mRange:mg "range" = none) (mTuple:mg "tuple" = none) :
 zAb P w K mg base CX0 5 f fd' ["web", "rows", "ranks", "place"] zLN:=by
 refine F.ok scLbr (fun vs H Q E h=>?_) (fun cdv A outer s H vs Q E hr h=>?_)
 . obtain⟨wa,rl,ra,rs,M,rks,n,ts,v,rfl,_⟩:=h
   rfl
 . obtain⟨wa,rl,ra,rs,M,rks,n,ts,v,rfl,W,L,v0,v1,k⟩:=h
   obtain⟨ta,tys,hwa,_,_,G⟩:=id W
   have hn1:=G.n1
   have hn24:=G.n24
   refine⟨_,zT (zDe (i:=4) (own:=["hub"]) (cn:=["rows", "ranks", "place"]) (ci:=[1,2,3]) scLbr.nd rfl (Or.inl rfl) rfl (csc rfl rfl) ⟨rfl,rfl,rfl,rfl,rfl,rfl,rfl,rfl,rfl,trivial⟩ rfl
    (zAZ rfl mRange (zE (zAK zAp (pv 0) zj (fun _ _=>rfl)) zO)) (fun _ _ _ _=>zw (i:=0) (zBn rfl) rfl (Or.inl rfl))
    (fun _ _ _ _=>zCH (zCe (zn GI hr rfl mI FI.kp bI .nil zAS (zE (pv 1) (zE (pv 2) (zE (pv 0) (zE (pv 3) zO))))))) (fun _ _ _ _=>pv 0))
    (zf (zAT (zBD zAf (by rfl) mTuple (by decide +kernel) (zE (zA8 (own:=["hub"]) (cn:=["web", "rows", "place"]) (ci:=[0,1,3]) rfl (csc rfl rfl) ⟨rfl,rfl,rfl,rfl,rfl,rfl,rfl,rfl,rfl,trivial⟩ rfl
     (zBv (pv 4)) (fun _ _ _ _=>zw (i:=0) (zBn rfl) rfl (Or.inl rfl)) (fun _ _ _ _=>zBP)
     (fun _ _ _ _=>zn GE hr rfl mE FE.kp bE .nil zAS (zE (pv 1) (zE (pv 2) (zE (pv 3) (zE (pv 0) zO)))))) zO)))),?_⟩
   refine⟨_,rfl,wa,_,_,_,rfl,rfl,SqT.of hwa,rfl,n,rfl,by omega,by omega,[.ref rl,.ref ra,.int v],rfl,fun D hD=>?_⟩
   refine zA0 (lo:=0) (n:=n.toNat) (fun q ys H3=>q<=n.toNat/\(∃hs:List Int,ys=hs.map V.int/\hs.Pairwise (· < ·)/\∀p,p∈hs↔(0<=p/\p<(q:Int))/\zFs ts (rkf rks) p v)/\zAy H H3/\H3 D=some (.lst ys)) ⟨zh _,⟨[],rfl,List.Pairwise.nil,fun p=>⟨fun z=>by simp at z,fun z=>absurd z.1 (by omega)⟩⟩,zL hD,zH⟩ (fun q ys H3 z=>?_) (fun q ys H3 hq z=>?_) (fun ys H3 z=>?_)
   . obtain⟨hq,⟨hs,rfl,hp,hm⟩,_⟩:=z
     rw[zB]
     have:=nd_len (n:=q) (l:=hs) (hp.imp fun z=>by omega) fun x hx=>by have:=((hm x).mp hx).1;omega
     exact zq (by omega)
   . obtain⟨_,⟨hs,rfl,hp,hm⟩,s3,hD3⟩:=z
     rw[zAI]
     refine⟨⟨rfl,rfl⟩,?_⟩
     refine⟨_,rfl,_,rfl,_,rfl,_,rfl,rl,ra,rs,M,rks,n,ts,q,v,rfl,L.same s3,by omega,by omega,v0,v1,fun b H4 s4 hb=>?_⟩
     refine⟨_,rfl,?_⟩
     refine zFT (fun c=>?_) (fun c=>?_)
     . refine⟨_,rfl,s4 _ _ hD3,hq,⟨hs++[(q:Int)],by rw[zN];rfl,List.pairwise_append.mpr ⟨hp,List.pairwise_singleton _ _,fun a ha b hb'=>?_⟩,fun p=>?_⟩,zAr (s3.trans s4) hD,zH⟩
       . have:b=(q:Int):=by simpa using hb'
         have:=((hm a).mp ha).1
         omega
       . rw[zAC,hm]
         constructor
         . rintro (⟨a,b⟩ | a)
           . exact⟨by omega,b⟩
           . have:p=(q:Int):=by simpa using a
             subst this
             exact⟨by omega,hb.mp c⟩
         . rintro ⟨a,b⟩
           by_cases e:p=(q:Int)
           . exact .inr (by simpa using e)
           . exact .inl ⟨by omega,b⟩
     . refine⟨hq,⟨hs,rfl,hp,fun p=>?_⟩,s3.trans s4,s4 _ _ hD3⟩
       rw[hm]
       constructor
       . rintro ⟨a,b⟩;exact⟨by omega,b⟩
       . rintro ⟨a,b⟩
         refine⟨?_,b⟩
         have:p≠(q:Int):=fun z=>by subst z;exact c (hb.mpr b)
         omega
   . obtain⟨_,⟨hs,rfl,hp,hm⟩,s3,hD3⟩:=z
     have hsl:hs.length<=24:=by
      have:=nd_len (n:=n.toNat) (l:=hs) (hp.imp fun z=>by omega) fun x hx=>by have:=((hm x).mp hx).1;omega
      omega
     refine⟨_,rfl,D,rfl,⟨_,SqL.of hD3⟩,[.ref wa,.ref rl,.int v],rfl,fun D2 hD2=>?_⟩
     refine zBm (a:=D) (xs:=hs.map V.int) (fun i ys H5=>i<=hs.length/\(∃(as:List Addr)(es:List En),ys=as.map V.ref/\zFu H5 as es/\es.map (·.h)=hs.take i/\∀e∈es,zMf ts n (rkf rks) v e)/\zAy H3 H5/\H5 D2=some (.lst ys)) ⟨zh _,⟨[],[],rfl,⟨rfl,fun i a z=>by simp at z⟩,rfl,by simp⟩,zL hD2,zH⟩ (fun i ys H5 z=>?_) (fun i ys H5 z=>?_) (fun i x ys H5 hx z=>?_) (fun ys H5 z=>?_)
     . exact SqL.of (z.2.2.1 _ _ hD3)
     . obtain⟨_,⟨as,es,rfl,EA,em,_⟩,_⟩:=z
       have:=congrArg List.length em
       rw[zB,zr] at this
       rw[zB,EA.1]
       exact zq (by omega)
     . obtain⟨_,⟨as,es,rfl,EA,em,he⟩,s5,hD5⟩:=z
       obtain⟨p,hpi,rfl⟩:∃p,hs[i]? = some p/\V.int p=x:=by
        rw[zJ] at hx
        cases e:hs[i]? with
        | none=>rw[e] at hx;cases hx
        | some p=>rw[e] at hx;exact⟨p,rfl,zP hx⟩
       have hpm:=(hm p).mp (zS hpi)
       have s35:=s3.trans s5
       refine⟨⟨rfl,rfl⟩,?_⟩
       refine zEZ ?_
       refine⟨_,rfl,_,rfl,_,rfl,_,rfl,wa,rl,ra,rs,M,rks,n,ts,v,p,rfl,W.keep s35,L.same s35,by omega,by omega,v0,v1,hpm.2,fun a e H6 s6 ha ep he'=>?_⟩
       refine⟨s6 _ _ hD5,(zK.mp hpi).1,⟨as++[a],es++[e],by rw[zN];rfl,(EA.keep fun b zs z=>?_).snoc ?_,?_,fun x hx'=>?_⟩,zAr (s5.trans s6) hD2,zH⟩
       . rw[zX (zBw z hD5 (by intro y;cases y))];exact s6 _ _ z
       . rw[zX (zBw ha (s6 _ _ hD5) (by intro y;cases y))];exact ha
       . rw[zN,em,zy,hpi,<-ep];rfl
       . rcases zAC.mp hx' with z | z
         . exact he x z
         . have:x=e:=by simpa using z
           subst this;exact he'
     . obtain⟨_,⟨as,es,rfl,EA,em,he⟩,s5,hD5⟩:=z
       rw[zB,zY (zI _)] at em
       have hel:es.length<=24:=by have:=congrArg List.length em;rw[zB] at this;omega
       refine⟨D2,_,rfl,.inl ⟨SqL.of hD5,fun l hl=>?_⟩⟩
       refine k l es _ ((s3.trans s5).trans (zL hl)) ⟨as,zH,EA.keep fun b zs z=>zL hl _ _ z,by omega⟩ ⟨?_,he,fun h h0 h1 z=>?_,hel⟩
       . have:=hp
         rw[<-em,zAt] at this
         exact this
       . have:h∈es.map (·.h):=by rw[em];exact (hm h).mpr ⟨by omega,z⟩
         obtain⟨e,e1,e2⟩:=zp.mp this
         exact⟨e,e1,e2⟩
theorem zLa:zAB ["web", "order", "rows", "ranks"] ["web", "order"] (defScope sByo):=⟨rfl,rfl,rfl,by decide +kernel,rfl,by decide +kernel,by decide +kernel⟩
theorem ok_byo {f fO fL fB:Addr}{fd' fdO fdL fdB:FuncData}(F:Fun K "by_order" "by_order" sByo f fd') (FO:Fun K "is_order" "is_order" sOrd fO fdO) (bO:zAA K fdO ["web", "thing"] []) (mO:mg "is_order" = some (.ref fO)) (GO:zAb P w K mg base CX0 5 fO fdO ["web", "thing"] zJl)
 (FL:Fun K "lengths" "lengths" zHG fL fdL) (bL:zAA K fdL ["web"] []) (mL:mg "lengths" = some (.ref fL)) (GL:zAb P w K mg base CX0 5 fL fdL ["web"] (zGT PT))
 (FB:Fun K "label_by_ranks" "label_by_ranks" sLbr fB fdB) (bB:zAA K fdB ["web", "rows", "ranks", "place"] []) (mB:mg "label_by_ranks" = some (.ref fB)) (GB:zAb P w K mg base CX0 5 fB fdB ["web", "rows", "ranks", "place"] zLN) (mRange:mg "range" = none) (mTuple:mg "tuple" = none) :
 zAb P w K mg base CX0 6 f fd' ["web", "order"] (zJo PT):=by
 refine F.ok zLa (fun vs H Q E h=>?_) (fun cdv A outer s H vs Q E hr h=>?_)
 . obtain⟨wa,p,n,ts,os,rfl,_⟩:=h
   rfl
 . obtain⟨wa,p,n,ts,os,rfl,W,hp,O,T,k⟩:=h
   obtain⟨ta,tys,hwa,_,_,G⟩:=id W
   have hn1:=G.n1
   have hn24:=G.n24
   refine⟨_,zT (zBz (zDN (zCe (zn GO hr rfl mO FO.kp bO .nil zAS (zE (pv 0) (zE (pv 1) zO))))) (zf ps_no) zAw)
    (zT (zAP (i:=2) zLa.nd rfl (Or.inr rfl) (zn GL hr rfl mL FL.kp bL .nil zAS (zE (pv 0) zO)))
    (zT (zAP (i:=3) zLa.nd rfl (Or.inr rfl) (zA8 (own:=["place"]) (cn:=["order"]) (ci:=[1]) rfl (csc rfl rfl) ⟨rfl,rfl,rfl,trivial⟩ rfl
     (zAZ rfl mRange (zE (zAK zAp (pv 0) zj (fun _ _=>rfl)) zO)) (fun _ _ _ _=>zw (i:=0) (zBn rfl) rfl (Or.inl rfl)) (fun _ _ _ _=>zBP)
     (fun _ _ _ _=>pe_bmT PySem.F.slot_tuple_index PySem.F.type_tuple_index zIX (pv 1) (zE (pv 0) zO))))
    (zf (zAT (zBD zAf (by rfl) mTuple (by decide +kernel) (zE (zA8 (own:=["place"]) (cn:=["web", "rows", "ranks"]) (ci:=[0,2,3]) rfl (csc rfl rfl) ⟨rfl,rfl,rfl,rfl,rfl,rfl,rfl,rfl,rfl,trivial⟩ rfl
     (zAZ rfl mRange (zE (zAK zAp (pv 0) zj (fun _ _=>rfl)) zO)) (fun _ _ _ _=>zw (i:=0) (zBn rfl) rfl (Or.inl rfl)) (fun _ _ _ _=>zBP)
     (fun _ _ _ _=>zn GB hr rfl mB FB.kp bB .nil zAS (zE (pv 1) (zE (pv 2) (zE (pv 3) (zE (pv 0) zO)))))) zO)))))),?_⟩
   refine⟨_,rfl,_,rfl,wa,p,n,ts,os,rfl,W,hp,O,fun H0 s0=>?_⟩
   refine⟨_,rfl,zD2 ?_⟩
   refine⟨_,rfl,wa,n,ts,rfl,W.keep s0,T.same s0,fun rl rs M H1 sm1 T1 hrl RA RR=>?_⟩
   have sm01:SmP PT H H1:=(SmP.of (P:=PT) s0).trans sm1
   have hwa1:H1 wa=some (.tup [.int n,.ref ta]):=sm01.get hwa (by intro ps z;cases z)
   have hp1:H1 p=some (.tup (os.map V.int)):=sm01.get hp (by intro ps z;cases z)
   have W1:zBd H1 wa n ts:=W.smT sm01
   refine⟨_,rfl,wa,_,_,_,rfl,rfl,SqT.of hwa1,rfl,n,rfl,by omega,by omega,[.ref p],rfl,fun D hD=>?_⟩
   refine zA0 (lo:=0) (n:=n.toNat) (fun q ys H3=>q<=n.toNat/\(∃rk:List Int,ys=rk.map V.int/\rk.length=q/\∀(j:Nat)(x:Int),rk[j]? = some x->0<=x/\os[x.toNat]? = some (j:Int))/\H3=upd H1 D (.lst ys)) ⟨zh _,⟨[],rfl,rfl,fun j x z=>by simp at z⟩,rfl⟩ (fun q ys H3 z=>?_) (fun q ys H3 hq z=>?_) (fun ys H3 z=>?_)
   . obtain⟨_,⟨rk,rfl,hl,_⟩,_⟩:=z
     rw[zB]
     exact zq (by omega)
   . obtain⟨_,⟨rk,rfl,hl,hrk⟩,rfl⟩:=z
     rw[zAI]
     obtain⟨i,hi,ei⟩:=zx (O.mem (p:=(q:Int)) (by omega) (by omega))
     have hoi:os[i]? = some (q:Int):=by rw[zC hi,ei]
     have hp3:=zL (o:=.lst (rk.map V.int)) hD _ _ hp1
     refine⟨⟨rfl,rfl⟩,?_⟩
     refine zEZ ?_
     refine⟨_,rfl,⟨p,_,rfl,hp3⟩,_,rfl,p,os,i,q,rfl,rfl,SqT.of hp3,hoi,fun j hj e=>?_,zH,hq,⟨rk++[(i:Int)],by rw[zN];rfl,by rw[zM,hl];rfl,fun j x hx=>?_⟩,zBX⟩
     . obtain⟨hj',ej⟩:=zK.mp e
       exact zAi.mp (zAM.mp O.nd) j i hj' hi hj (by rw[ej,ei])
     . by_cases c:j<rk.length
       . rw[zW c] at hx
         exact hrk j x hx
       . have hj:j=q:=by
          have:=(zK.mp hx).1
          rw[zM] at this
          simp at this;omega
         subst hj
         rw[zR (by omega),hl,Nat.sub_self] at hx
         have:(i:Int)=x:=by simpa using hx
         subst this
         exact⟨by omega,hoi⟩
   . obtain⟨_,⟨rk,rfl,hl,hrk⟩,rfl⟩:=z
     have sD:zAy H1 (upd H1 D (.lst (rk.map V.int))):=zL hD
     have hDr:(upd H1 D (.lst (rk.map V.int))) D=some (.lst (rk.map V.int)):=zH
     generalize upd H1 D (.lst (rk.map V.int))=H4 at sD hDr ⊢
     have L:zJV H4 rl D rs M rk n ts:=⟨sD _ _ hrl,RA.same sD,RR,hDr,hl,G⟩
     have W4:=W1.keep sD
     refine⟨_,rfl,wa,_,_,_,rfl,rfl,SqT.of (sD _ _ hwa1),rfl,n,rfl,by omega,by omega,[.ref wa,.ref rl,.ref D],rfl,fun D2 hD2=>?_⟩
     refine zA0 (lo:=0) (n:=n.toNat) (fun q ys H5=>q<=n.toNat/\(∃(as:List Addr)(ess:List (List En)),ys=as.map V.ref/\as.length=q/\ess.length=q/\(∀(i:Nat)(a:Addr),as[i]? = some a->∃es,ess[i]? = some es/\zEz H5 a es)/\∀(i:Nat)(es:List En),ess[i]? = some es->zKh ts n (rkf rk) i es)/\zAy H4 H5/\H5 D2=some (.lst ys)) ⟨zh _,⟨[],[],rfl,rfl,rfl,fun i a z=>by simp at z,fun i a z=>by simp at z⟩,zL hD2,zH⟩ (fun q ys H5 z=>?_) (fun q ys H5 hq z=>?_) (fun ys H5 z=>?_)
     . obtain⟨_,⟨as,ess,rfl,h1,_⟩,_⟩:=z
       rw[zB]
       exact zq (by omega)
     . obtain⟨_,⟨as,ess,rfl,h1,h2,h3,h4⟩,s5,hD5⟩:=z
       rw[zAI]
       refine⟨⟨rfl,rfl⟩,?_⟩
       refine zEZ ?_
       refine⟨_,rfl,_,rfl,_,rfl,_,rfl,wa,rl,D,rs,M,rk,n,ts,q,rfl,W4.keep s5,L.same s5,by omega,by omega,fun a es H6 s6 la lo=>?_⟩
       refine⟨s6 _ _ hD5,hq,⟨as++[a],ess++[es],by rw[zN];rfl,by rw[zM,h1];rfl,by rw[zM,h2];rfl,fun i b hb=>?_,fun i es' he=>?_⟩,zAr (s5.trans s6) hD2,zH⟩
       . have keep:∀c zs,H6 c=some (.tup zs)->(upd H6 D2 (.lst (as.map V.ref++[.ref a]))) c=some (.tup zs):=fun c zs z=>by rw[zX (zBw z (s6 _ _ hD5) (by intro y;cases y))];exact z
         by_cases c:i<as.length
         . rw[zW c] at hb
           obtain⟨es',e1,e2⟩:=h3 i b hb
           exact⟨es',by rw[zW (by omega)];exact e1,(e2.same s6).keep keep⟩
         . have hi:i=q:=by
            have:=(zK.mp hb).1
            rw[zM] at this
            simp at this;omega
           subst hi
           rw[zR (by omega),h1,Nat.sub_self] at hb
           have:a=b:=by simpa using hb
           subst this
           exact⟨es,by rw[zR (by omega),h2,Nat.sub_self];rfl,la.keep keep⟩
       . by_cases c:i<ess.length
         . rw[zW c] at he
           exact h4 i es' he
         . have hi:i=q:=by
            have:=(zK.mp he).1
            rw[zM] at this
            simp at this;omega
           subst hi
           rw[zR (by omega),h2,Nat.sub_self] at he
           have:es=es':=by simpa using he
           subst this
           exact lo
     . obtain⟨_,⟨as,ess,rfl,h1,h2,h3,h4⟩,s5,hD5⟩:=z
       refine⟨D2,_,rfl,.inl ⟨SqL.of hD5,fun l hl'=>?_⟩⟩
       have s6:zAy H1 (upd H5 l (.tup (as.map V.ref))):=(sD.trans s5).trans (zL hl')
       refine k l ess (rkf rk) _ (sm01.trans (SmP.of (P:=PT) s6)) (T1.same s6) ⟨as,zH,by omega,fun i a ha=>?_⟩ (fun p h0 h1'=>?_) ⟨h2,h4⟩
       . obtain⟨es,e1,e2⟩:=h3 i a ha
         exact⟨es,e1,e2.same (zL hl')⟩
       . have hlt:p.toNat<rk.length:=by omega
         have e:rk[p.toNat]? = some (rkf rk p):=by
          unfold rkf
          rw[zD,zC hlt];rfl
         obtain⟨a,b⟩:=hrk _ _ e
         exact⟨a,by rw[b,Int.toNat_of_nonneg h0]⟩
end
end K37
namespace K37
open PySem L2 WM
theorem zFZ:∀(l:List Int)(k:Nat),(l.map V.int).eraseIdx k=(l.eraseIdx k).map V.int
 | [],_=>rfl
 | _::_,0=>rfl
 | x::r,k+1=>by
  show V.int x::(r.map V.int).eraseIdx k=V.int x::(r.eraseIdx k).map V.int
  rw[zFZ r k]
theorem zEU:∀{l:List Int}{k:Nat}(h:k<l.length),(l[k]::l.eraseIdx k).Perm l
 | [],_,h=>absurd h (Nat.not_lt_zero _)
 | _::_,0,_=>List.Perm.refl _
 | x::r,k+1,h=>by
  have hk:k<r.length:=by simpa using h
  show (r[k]::x::r.eraseIdx k).Perm (x::r)
  exact (List.Perm.swap x r[k] _).trans ((zEU hk).cons x)
noncomputable def zHy:Sp:=fun vs H Q _=>∃(t:Addr)(N:Nat)(n:Int),vs=[.ref t,.int n]/\zAY H t N/\N<900000/\1<=n/\n<=24 /\
 ∀(l:Addr)(os:List Int)(H':Hp),H' l=some (.tup (os.map V.int))->zHm n os->zAY H' t (N+24)->Sm t H H'->Q (.ref l) H'
noncomputable def TLen (H:Hp)(l:Addr)(ks:List Nat):Prop:=∃as:List Addr,H l=some (.tup (as.map V.ref))/\as.length=ks.length/\∀(i:Nat)(a:Addr),as[i]? = some a->∃ys:List V,H a=some (.tup ys)/\ks[i]? = some ys.length
theorem zJX.tlen {H:Hp}{l:Addr}{ess:List (List En)}(h:zJX H l ess):TLen H l (ess.map List.length):=by
 obtain⟨as,h1,h2,h3⟩:=h
 refine⟨as,h1,by rw[zB];exact h2,fun i a ha=>?_⟩
 obtain⟨es,e1,bs,e2,EA,_⟩:=h3 i a ha
 exact⟨_,e2,by rw[zJ,e1,zB,EA.1];rfl⟩
noncomputable def spTot:Sp:=fun vs H Q _=>∃(l:Addr)(ks:List Nat),vs=[.ref l]/\TLen H l ks/\ks.length<=24/\∀H',zAy H H'->Q (.int (ks.map fun k:Nat=>(k:Int)).sum) H'
section
variable {P:Program}{w:World}{K:PySem.W.Frag}{mg:Str->Option Value}{base:Heap}
theorem zEg:zAB ["_law_tape_here", "_law_n", "_law_left", "_law_found", "_law_k"] ["_law_tape_here", "_law_n"] (defScope zGc):=⟨rfl,rfl,rfl,by decide +kernel,rfl,by decide +kernel,by decide +kernel⟩
theorem zKG {f fD:Addr}{fd' fdD:FuncData}(F:Fun K "_law_order" "_law_order" zGc f fd') (FD:Fun K "_law_draw" "_law_draw" zEh fD fdD) (bD:zAA K fdD ["_law_tape_here", "_law_many"] []) (mD:mg "_law_draw" = some (.ref fD))
 (mLen:mg "len" = none) (mRange:mg "range" = none) (mTuple:mg "tuple" = none) (mList:mg "list" = none):zAb P w K mg base CX0 2 f fd' ["_law_tape_here", "_law_n"] zHy:=by
 have GD:zAb P w K mg base CX0 1 fD fdD ["_law_tape_here", "_law_many"] zEd:=zDT FD mLen
 refine F.ok zEg (fun vs H Q E h=>?_) (fun cdv A outer s H vs Q E hr h=>?_)
 . obtain⟨t,N,n,rfl,_⟩:=h
   rfl
 . obtain⟨t,N,n,rfl,TT,hN,hn1,hn24,k⟩:=h
   obtain⟨tp,TP⟩:=TT
   refine⟨_,zT (zAP (i:=2) zEg.nd rfl (Or.inl rfl) (zIM rfl rfl mList rfl mRange (zE (pv 1) zO)))
    (zT (zAP (i:=3) zEg.nd rfl (Or.inl rfl) (zB9 zO))
    (zT (zBY PassesOwn.never rfl (zAZ rfl mRange (zE (pv 1) zO)) (zw (i:=4) zEg.nd rfl (Or.inl rfl))
     (zf (zCI (zD4 PySem.F.plainAttrs_list PySem.F.slot_list_append PySem.F.type_list_append zBi (pv 3)
      (zE (zD4 PySem.F.plainAttrs_list PySem.F.slot_list_pop PySem.F.type_list_pop zKJ (pv 2)
       (zE (zn GD hr rfl mD FD.kp bD .nil zAS (zE (pv 0) (zE (zAL zAX (by rfl) mLen PySem.boot_len (zE (pv 2) zO)) zO))) zO)) zO)))))
    (zf (zAT (zBD zAf (by rfl) mTuple (by decide +kernel) (zE (pv 3) zO)))))),?_⟩
   refine⟨_,rfl,n,rfl,by omega,by omega,fun lf hlf=>?_⟩
   obtain⟨ns0,sp0,re0,ht0,hp0,_⟩:=id TP
   have nlt:lf≠t:=(zi ht0 hlf).symm
   have nlp:lf≠tp:=(zi hp0 hlf).symm
   refine⟨zh _,fun D hD=>?_⟩
   have nDl:D≠lf:=fun z=>by rw[z,zH] at hD;cases hD
   have hD0:H D=none:=by rw[zX nDl] at hD;exact hD
   have nDt:D≠t:=(zi ht0 hD0).symm
   have nDp:D≠tp:=(zi hp0 hD0).symm
   refine⟨_,rfl,n,rfl,by omega,by omega,zBK (lo:=0) (n:=n.toNat) (fun q σ H2=>∃(v4:Option V)(row left:List Int),σ=[some (.ref t),some (.int n),some (.ref lf),some (.ref D),v4]/\row.length=q/\(row++left).Perm (lowTo n.toNat)/\H2 lf=some (.lst (left.map V.int))/\H2 D=some (.lst (row.map V.int))/\zD0 H2 t tp (N+q)/\Sm t H H2)
    ⟨none,[],lowTo n.toNat,rfl,rfl,List.Perm.refl _,by rw[zX nDl.symm,zH],zH,TP.keepF (fun o e=>by rw[zX nDt.symm,zX nlt.symm];exact e) (fun o e=>by rw[zX nDp.symm,zX nlp.symm];exact e) (by omega),(Sm.laid hlf).chg hD0⟩ ?turn ?after⟩
   case after=>
    rintro σ H2 ⟨v4,row,left,rfl,hl,hp,hlf2,hD2,TP2,s2⟩
    have hleft:left=[]:=by
     have:=hp.length_eq
     rw[zM,zCW,hl] at this
     exact List.length_eq_zero_iff.mp (by omega)
    subst hleft
    rw[zo] at hp
    have nd:row.Nodup:=hp.nodup_iff.mpr ((zC8 _).imp fun h=>by omega)
    refine⟨_,rfl,D,_,rfl,.inl ⟨SqL.of hD2,fun l hl'=>?_⟩⟩
    refine k l row _ zH ⟨hl,nd,fun p hp'=>?_⟩ (zAY.mono (zAY.laid ⟨tp,TP2⟩ hl') (by omega)) (s2.trans (Sm.laid hl'))
    have:=zCA.mp (hp.mem_iff.mp hp')
    omega
   case turn=>
    rintro q σ H2 hq ⟨v4,row,left,rfl,hl,hp,hlf2,hD2,TP2,s2⟩
    have hll:row.length+left.length=n.toNat:=by
     have:=hp.length_eq
     rw[zM,zCW] at this
     exact this
    refine⟨_,rfl,.inl ⟨rfl,_,SqL.of hD2⟩,_,rfl,.inl ⟨rfl,_,SqL.of hlf2⟩,?_⟩
    refine⟨_,rfl,_,rfl,lf,_,rfl,.inl (SqL.of hlf2),t,tp,N+q,_,rfl,TP2,by omega,by rw[zB];omega,by rw[zB];omega,fun rr H3 h0 h1 TP3 e3=>?_⟩
    rw[zB] at h1
    have hlt:rr.toNat<left.length:=by omega
    refine⟨lf,left.map V.int,rr,rr.toNat,.int left[rr.toNat],rfl,rfl,by rw[e3 lf nlt];exact hlf2,by omega,by omega,PySem.StrLaws.seqIndex_nonneg h0 (by rw[zB];omega),by rw[zJ,zC hlt];rfl,?_⟩
    rw[zFZ left rr.toNat]
    have s3:Sm t H H3:=fun b o nb e=>by rw[e3 b nb];exact s2 b o nb e
    have hlf0:H lf=none:=hlf
    refine⟨D,_,_,rfl,rfl,by rw[zX nDl,e3 D nDt];exact hD2,by rw[zB];exact zq (by omega),?_⟩
    refine⟨_,row++[left[rr.toNat]],left.eraseIdx rr.toNat,rfl,by rw[zM,hl];rfl,?_,by rw[zX nDl.symm,zH],by rw[zN];exact zH,TP3.keepF (fun o e=>by rw[zX nDt.symm,zX nlt.symm];exact e) (fun o e=>by rw[zX nDp.symm,zX nlp.symm];exact e) (by omega),(s3.chg hlf0).chg hD0⟩
    refine List.Perm.trans ?_ hp
    rw[List.append_assoc]
    exact (zEU hlt).append_left row
theorem scTot:zAB ["labels"] ["labels"] (defScope sTot):=⟨rfl,rfl,rfl,by decide +kernel,rfl,by decide +kernel,by decide +kernel⟩
theorem ok_tot {f:Addr}{fd':FuncData}(F:Fun K "total" "total" sTot f fd') (mLen:mg "len" = none) (mSum:mg "sum" = none):zAb P w K mg base CX0 1 f fd' ["labels"] spTot:=by
 refine F.ok scTot (fun vs H Q E h=>?_) (fun cdv A outer s H vs Q E hr h=>?_)
 . obtain⟨l,ks,rfl,_⟩:=h
   rfl
 . obtain⟨l,ks,rfl,⟨as,hl,hal,hk⟩,hkl,k⟩:=h
   refine⟨_,zf (zAT (zAL (zCh rfl) (by rfl) mSum (by decide +kernel) (zE (zA8 (own:=["label"]) (cn:=[]) (ci:=[]) rfl (csc rfl rfl) trivial rfl (zC0 (pv 0)) (fun _ _ _ _=>zw (i:=0) (zBn rfl) rfl (Or.inl rfl)) (fun _ _ _ _=>zBP)
    (fun _ _ _ _=>zAL zDA (by rfl) mLen PySem.boot_len (zE (pv 0) zO))) zO))),?_⟩
   refine⟨_,rfl,l,rfl,⟨_,SqT.of hl⟩,[],rfl,fun D hD=>?_⟩
   refine zCl (a:=l) (xs:=as.map V.ref) (fun i ys H4=>ys=((ks.take i).map fun k:Nat=>(k:Int)).map V.int/\H4=upd H D (.lst ys)) ⟨rfl,rfl⟩ (fun i ys H4 z=>?_) (fun i ys H4 z=>?_) (fun i x ys H4 hx z=>?_) (fun ys H4 z=>?_)
   . obtain⟨_,rfl⟩:=z
     exact SqT.of (by rw[zX (zi hl hD)];exact hl)
   . obtain⟨rfl,_⟩:=z
     rw[zB,zB,zr]
     exact zq (by omega)
   . obtain⟨rfl,rfl⟩:=z
     obtain⟨a,ha,rfl⟩:∃a,as[i]? = some a/\V.ref a=x:=by
      rw[zJ] at hx
      cases e:as[i]? with
      | none=>rw[e] at hx;cases hx
      | some a=>rw[e] at hx;exact⟨a,rfl,zP hx⟩
     obtain⟨zs,e1,e2⟩:=hk i a ha
     refine⟨⟨rfl,rfl⟩,?_⟩
     refine zEZ ?_
     refine⟨_,rfl,a,zs,rfl,.inr (SqT.of (zL hD _ _ e1)),zH,?_,zBX⟩
     rw[zy,e2,zN,zN];rfl
   . obtain⟨rfl,rfl⟩:=z
     rw[zB,hal,zY (zI _)]
     exact⟨D,_,rfl,SqL.of zH,k _ (zL hD)⟩
end
noncomputable def Free (ts:List T3)(ps:List Int)(h v:Int):Prop:=(∃d,WM.IsD ts h v d)/\∀q∈ps,¬ Btw ts h v q
noncomputable def zIx (ts:List T3)(ps:List Int)(h v:Int):Bool:=@decide (Free ts ps h v) (Classical.propDecidable _)
theorem zFW {ts:List T3}{ps:List Int}{h v:Int}:zIx ts ps h v=true↔Free ts ps h v:=by
 unfold zIx
 exact @decide_eq_true_iff _ (Classical.propDecidable _)
noncomputable def cntF (ts:List T3)(n:Int)(ps:List Int)(h:Int):Nat:=((lowTo n.toNat).filter (zIx ts ps h)).length
theorem zKd {ts:List T3}{x y p:Int}(h:Btw ts x y p):∃d,WM.IsD ts x y d:=by
 obtain⟨a,b,_,_,e⟩:=h
 exact⟨_,e⟩
theorem zIw {ts:List T3}{n:Int}{ps xs:List Int}{h v:Int}(G:GW n ts)(hb:∀p,p∈xs↔Btw ts h v p):Free ts ps h v↔xs≠[]/\∀p∈xs,p∉ps:=by
 constructor
 . rintro ⟨⟨d,hd⟩,z⟩
   refine⟨fun e=>?_,fun p hp hq=>z p hq ((hb p).mp hp)⟩
   have:=(hb h).mpr (Btw.self G hd)
   rw[e] at this
   cases this
 . rintro ⟨ne,z⟩
   obtain⟨p,hp⟩:=List.exists_mem_of_ne_nil xs ne
   exact⟨zKd ((hb p).mp hp),fun q hq hB=>z q ((hb q).mpr hB) hq⟩
theorem zHX {l k:List Int}(h1:l.Nodup)(h2:k.Nodup)(e:∀x,x∈l↔x∈k):l.length=k.length:=
 Nat.le_antisymm (zGm h1 fun x hx=>(e x).mp hx) (zGm h2 fun x hx=>(e x).mpr hx)
theorem zK5 (m:Nat):(lowTo m).Nodup:=(zC8 m).imp fun h=>by omega
theorem zDa (f:Nat->Nat):∀l:List Nat,((l.map fun k=>((f k:Nat):Int)).sum)=(((l.map f).sum:Nat):Int)
 | []=>rfl
 | a::l=>by rw[zz,zBr,zDa f l,zz,zBr,Int.natCast_add]
noncomputable def zMP (ts:List T3)(rk:Int->Int)(h v:Int):Bool:=@decide (zFs ts rk h v) (Classical.propDecidable _)
theorem zGt {ts:List T3}{rk:Int->Int}{h v:Int}:zMP ts rk h v=true↔zFs ts rk h v:=by
 unfold zMP
 exact @decide_eq_true_iff _ (Classical.propDecidable _)
theorem rk_at {n:Int}{os:List Int}{rk:Int->Int}(O:zHm n os)(R:zMc n os rk){k:Nat}{h:Int}(hk:os[k]? = some h):rk h=k:=by
 have hr:=O.rng h (zS hk)
 obtain⟨a,b⟩:=R h hr.1 hr.2
 obtain⟨h1,e1⟩:=zK.mp hk
 obtain⟨h2,e2⟩:=zK.mp b
 apply zBa
 intro hne
 have hp:=zAi.mp (zAM.mp O.nd)
 by_cases c:k<(rk h).toNat
 . exact hp k (rk h).toNat h1 h2 c (by rw[e1,e2])
 . exact hp (rk h).toNat k h2 h1 (by omega) (by rw[e1,e2])
theorem zDj {n:Int}{os:List Int}{rk:Int->Int}(O:zHm n os)(R:zMc n os rk){k:Nat}{q:Int}(h0:0<=q)(h1:q<n):q∈os.take k↔rk q<k:=by
 obtain⟨a,b⟩:=R q h0 h1
 constructor
 . intro h
   obtain⟨i,hi,e⟩:=zx h
   rw[zr] at hi
   rw[List.getElem_take] at e
   have:os[i]? = some q:=by rw[zC (by omega),e]
   have:=rk_at O R this
   omega
 . intro h
   obtain⟨h2,e2⟩:=zK.mp b
   have hl:(rk q).toNat<(os.take k).length:=by rw[zr];omega
   have:(os.take k)[(rk q).toNat]=q:=by rw[List.getElem_take];exact e2
   exact this ▸ zBA hl
theorem zKT {n:Int}{ts:List T3}{os:List Int}{rk:Int->Int}(G:GW n ts)(O:zHm n os)(R:zMc n os rk){k:Nat}{h v:Int}(hk:os[k]? = some h):Free ts (os.take k) h v↔zFs ts rk h v:=by
 have hr:=O.rng h (zS hk)
 have er:=rk_at O R hk
 constructor
 . rintro ⟨d,z⟩
   refine⟨d,fun p hp=>?_⟩
   obtain⟨a,b,ia,_⟩:=id hp
   have hpr:=ia.1.in_ G hr.1 hr.2
   apply zBa
   intro hlt
   exact z p ((zDj O R hpr.1 hpr.2).mpr (by omega)) hp
 . rintro ⟨d,z⟩
   refine⟨d,fun q hq hB=>?_⟩
   have hqr:=O.rng q (List.mem_of_mem_take hq)
   have:=(zDj O R hqr.1 hqr.2).mp hq
   have:=z q hB
   omega
theorem zHg {n:Int}{ts:List T3}{os:List Int}{rk:Int->Int}(G:GW n ts)(O:zHm n os)(R:zMc n os rk){k:Nat}{h:Int}(hk:os[k]? = some h):cntF ts n (os.take k) h=((lowTo n.toNat).filter (zMP ts rk h)).length:=by
 unfold cntF
 rw[List.filter_congr fun v _=>Bool.eq_iff_iff.mpr (zFW.trans ((zKT G O R hk).trans zGt.symm))]
theorem zMM {n:Int}{ts:List T3}{rk:Int->Int}{v:Int}{es:List En}(L:zKh ts n rk v es):es.length=((lowTo n.toNat).filter fun h=>zMP ts rk h v).length:=by
 rw[<-zB (f:=fun e:En=>e.h)]
 refine zHX ?_ ((zK5 _).filter _) fun x=>?_
 . rw[zAM,zAt]
   exact L.hub.imp fun h=>by omega
 . rw[zAu,zGt]
   constructor
   . intro hx
     obtain⟨e,he,rfl⟩:=zp.mp hx
     have:=(L.ent e he).rng
     exact⟨zCA.mpr (by omega),(L.ent e he).hub⟩
   . rintro ⟨a,b⟩
     have:=zCA.mp a
     obtain⟨e,he,rfl⟩:=L.all x this.1 (by omega) b
     exact zp.mpr ⟨e,he,rfl⟩
theorem zEq {l k:List Nat}(h:l.Perm k):l.sum=k.sum:=by
 induction h with
 | nil=>rfl
 | cons x _ ih=>rw[zBr,zBr,ih]
 | swap x y l=>simp only[zBr];omega
 | trans _ _ a b=>exact a.trans b
theorem zME {l k:List Int}(h1:l.Nodup)(h2:k.Nodup)(e:∀x,x∈l↔x∈k):l.Perm k:=(List.perm_ext_iff_of_nodup h1 h2).mpr e
theorem zMa {n:Int}{ts:List T3}{os:List Int}{rk:Int->Int}{ess:List (List En)}(G:GW n ts)(O:zHm n os)(R:zMc n os rk)(L:zJW ts n rk ess){bs:List Nat}(hl:bs.length=n.toNat)
 (hb:∀(k:Nat)(h:Int),os[k]? = some h->bs[k]? = some (cntF ts n (os.take k) h)):bs.sum=(ess.map List.length).sum:=by
 have e1:bs=os.map fun h=>((lowTo n.toNat).filter (zMP ts rk h)).length:=by
  apply List.ext_getElem?
  intro k
  rw[zJ]
  cases e:os[k]? with
  | none=>
   have:=List.getElem?_eq_none_iff.mp e
   exact List.getElem?_eq_none_iff.mpr (by have:=O.ln;omega)
  | some h=>rw[hb k h e,zHg G O R e];rfl
 have e2:ess.map List.length=(lowTo n.toNat).map fun v=>((lowTo n.toNat).filter fun h=>zMP ts rk h v).length:=by
  apply List.ext_getElem?
  intro k
  rw[zJ,zJ]
  cases e:ess[k]? with
  | none=>
   have:=List.getElem?_eq_none_iff.mp e
   have hk:(lowTo n.toNat)[k]? = none:=List.getElem?_eq_none_iff.mpr (by rw[lowTo,zB,zu];have:=L.1;omega)
   rw[hk];rfl
  | some es=>
   have hk:=(zK.mp e).1
   have hlk:(lowTo n.toNat)[k]? = some (k:Int):=by rw[lowTo,zJ,zBs (by have:=L.1;omega)];rfl
   rw[hlk]
   show some es.length=some _
   rw[zMM (L.2 k es e)]
 have hp:os.Perm (lowTo n.toNat):=zME O.nd (zK5 _) fun x=>⟨fun hx=>zCA.mpr (by have:=O.rng x hx;omega),fun hx=>O.mem (zCA.mp hx).1 (by have:=zCA.mp hx;omega)⟩
 rw[e1,e2,<-dbl (zMP ts rk)]
 exact zEq (hp.map _)
end K37
namespace K37
open PySem L2 WM
noncomputable def spSn:Sp:=fun vs H Q _=>∃(p:Addr)(ps:List Int),vs=[.ref p]/\H p=some (.tup (ps.map V.int))/\(∀x∈ps,0<=x/\x<24)/\ps.length<=24/\∀(H':Hp),zAy H H'->Q (.int (sn ps)) H'
noncomputable def spSf:Sp:=fun vs H Q _=>∃(rl:Addr)(rs:List Addr)(M:List (List (Option Int)))(n:Int)(ts:List T3)(h:Int),vs=[.ref rl,.int h]/\GW n ts/\H rl=some (.tup (rs.map V.ref))/\zCb H rs M/\Rows ts n M/\0<=h/\h<n /\
 ∀(l:Addr)(bs:List (List Int))(H':Hp),zAy H H'->H' l=some (.lst ((bs.map sn).map V.int))->bs.length=n.toNat->(∀(i:Nat)(xs:List Int),bs[i]? = some xs->xs.Pairwise (· < ·)/\∀p,p∈xs↔Btw ts h i p)->Q (.ref l) H'
noncomputable def cfB (k m:Int):Bool:=!decide (m=0) && decide (PySem.Builtin.bitAnd m k=0)
noncomputable def spCf:Sp:=fun vs H Q _=>∃(l:Addr)(ns:List Int)(k:Int),vs=[.ref l,.int k]/\H l=some (.lst (ns.map V.int))/\ns.length<=24/\∀(H':Hp),zAy H H'->Q (.int ((ns.filter (cfB k)).length:Nat)) H'
theorem zGW {α β:Type}{f:α->β}{l:List α}{i:Nat}{a:α}(h:l[i]? = some a):(l.take (i+1)).map f=(l.take i).map f++[f a]:=by
 rw[zy,h,zN];rfl
theorem int_at {l:List Int}{i:Nat}{x:V}(h:(l.map V.int)[i]? = some x):∃y,l[i]? = some y/\V.int y=x:=by
 rw[zJ] at h
 cases e:l[i]? with
 | none=>rw[e] at h;cases h
 | some y=>rw[e] at h;exact⟨y,rfl,zP h⟩
theorem zJN {xs ps:List Int}:PySem.Builtin.bitAnd (sn xs) (sn ps)=((snN (xs.map Int.toNat) &&& snN (ps.map Int.toNat):Nat):Int):=by
 rw[zEE,zEE]
 unfold PySem.Builtin.bitAnd
 rw[zU (Int.natCast_nonneg _),zU (Int.natCast_nonneg _)]
 rfl
theorem zMX {ts:List T3}{n:Int}{ps xs:List Int}{h v:Int}(G:GW n ts)(h0:0<=h)(h1:h<n)(nd:ps.Nodup)(rng:∀x∈ps,0<=x/\x<n)(hr:xs.Pairwise (· < ·))(hb:∀p,p∈xs↔Btw ts h v p):cfB (sn ps) (sn xs)=zIx ts ps h v:=by
 have x0:∀p∈xs,0<=p:=fun p hp=>by
  obtain⟨a,b,ia,_⟩:=(hb p).mp hp
  exact (ia.1.in_ G h0 h1).1
 apply Bool.eq_iff_iff.mpr
 rw[zFW,zIw G hb]
 unfold cfB
 rw[Bool.and_eq_true,Bool.not_eq_true',decide_eq_false_iff_not,decide_eq_true_iff,zLR,zJN,sn_and (hr.imp fun z=>by omega) nd x0 fun q hq=>(rng q hq).1]
theorem zEA {α:Type}{l:List α}{f:α->Int}{k:List Int}{p q:Int->Bool}(hl:l.length=k.length)(h:∀(i:Nat)(a:α)(b:Int),l[i]? = some a->k[i]? = some b->p (f a)=q b):((l.map f).filter p).length=(k.filter q).length:=by
 induction l generalizing k with
 | nil=>cases k with
  | nil=>rfl
  | cons _ _=>simp at hl
 | cons a l ih=>cases k with
  | nil=>simp at hl
  | cons b k=>
   have e:=h 0 a b rfl rfl
   have r:=ih (k:=k) (by simpa using hl) fun i a' b' h1 h2=>h (i+1) a' b' h1 h2
   rw[zz,zBB,zBB,e]
   by_cases c:q b=true
   . rw[if_pos c,if_pos c,zt,zt,r]
   . rw[if_neg c,if_neg c,r]
section
variable {P:Program}{w:World}{K:PySem.W.Frag}{mg:Str->Option Value}{base:Heap}
theorem scSn:zAB ["places"] ["places"] (defScope sSn):=⟨rfl,rfl,rfl,by decide +kernel,rfl,by decide +kernel,by decide +kernel⟩
theorem ok_sn {f:Addr}{fd':FuncData}(F:Fun K "set_number" "set_number" sSn f fd') (mSum:mg "sum" = none):zAb P w K mg base CX0 1 f fd' ["places"] spSn:=by
 refine F.ok scSn (fun vs H Q E h=>?_) (fun cdv A outer s H vs Q E hr h=>?_)
 . obtain⟨p,ps,rfl,_⟩:=h
   rfl
 . obtain⟨p,ps,rfl,hp,rng,hl,k⟩:=h
   refine⟨_,zf (zAT (zAL (zCh rfl) (by rfl) mSum (by decide +kernel) (zE (zA8 (own:=["place"]) (cn:=[]) (ci:=[]) rfl (csc rfl rfl) trivial rfl (zC0 (pv 0)) (fun _ _ _ _=>zw (i:=0) (zBn rfl) rfl (Or.inl rfl)) (fun _ _ _ _=>zBP)
    (fun _ _ _ _=>zAc zCN zj (pv 0))) zO))),?_⟩
   refine⟨_,rfl,p,rfl,⟨_,SqT.of hp⟩,[],rfl,fun D hD=>?_⟩
   refine zCl (a:=p) (xs:=ps.map V.int) (fun i ys H4=>ys=((ps.take i).map fun x=>(1:Int)*2 ^ x.toNat).map V.int/\H4=upd H D (.lst ys)) ⟨rfl,rfl⟩ (fun i ys H4 z=>?_) (fun i ys H4 z=>?_) (fun i x ys H4 hx z=>?_) (fun ys H4 z=>?_)
   . obtain⟨_,rfl⟩:=z
     exact SqT.of (by rw[zX (zi hp hD)];exact hp)
   . obtain⟨rfl,_⟩:=z
     rw[zB,zB,zr]
     exact zq (by omega)
   . obtain⟨rfl,rfl⟩:=z
     obtain⟨y,hy,rfl⟩:=int_at hx
     have yr:=rng y (zS hy)
     refine⟨⟨rfl,rfl⟩,?_⟩
     refine zEZ ?_
     refine⟨_,rfl,1,y,rfl,rfl,⟨yr.1,by omega,by decide⟩,zH,?_,zBX⟩
     rw[zGW hy,zN];rfl
   . obtain⟨rfl,rfl⟩:=z
     rw[zB,zY (zI _)]
     exact⟨D,_,rfl,SqL.of zH,k _ (zL hD)⟩
theorem scSf:zAB ["rows", "hub"] ["rows", "hub"] (defScope sSf):=⟨rfl,rfl,rfl,by decide +kernel,rfl,by decide +kernel,by decide +kernel⟩
theorem ok_sf {f fS fB:Addr}{fd' fdS fdB:FuncData}(F:Fun K "sets_from" "sets_from" sSf f fd') (FS:Fun K "set_number" "set_number" sSn fS fdS) (bS:zAA K fdS ["places"] []) (mS:mg "set_number" = some (.ref fS)) (FB:Fun K "between_rows" "between_rows" sBwr fB fdB) (bB:zAA K fdB ["here", "there", "other"] []) (mB:mg "between_rows" = some (.ref fB))
 (mRange:mg "range" = none) (mTuple:mg "tuple" = none) (mLen:mg "len" = none) (mSum:mg "sum" = none):zAb P w K mg base CX0 2 f fd' ["rows", "hub"] spSf:=by
 have GB:zAb P w K mg base CX0 1 fB fdB ["here", "there", "other"] zLO:=zK2 FB mRange mTuple mLen
 have GS:zAb P w K mg base CX0 1 fS fdS ["places"] spSn:=ok_sn FS mSum
 refine F.ok scSf (fun vs H Q E h=>?_) (fun cdv A outer s H vs Q E hr h=>?_)
 . obtain⟨rl,rs,M,n,ts,h,rfl,_⟩:=h
   rfl
 . obtain⟨rl,rs,M,n,ts,h,rfl,G,hrl,RA,RR,h0,h1,k⟩:=h
   have hn24:=G.n24
   have hn1:=G.n1
   have hrs:rs.length=n.toNat:=RA.1.trans RR.1
   refine⟨_,zf (zAT (zA8 (own:=["place"]) (cn:=["rows", "hub"]) (ci:=[0,1]) rfl (csc rfl rfl) ⟨rfl,rfl,rfl,rfl,rfl,rfl,trivial⟩ rfl
    (zAZ rfl mRange (zE (zAL zAX (by rfl) mLen PySem.boot_len (zE (pv 0) zO)) zO)) (fun _ _ _ _=>zw (i:=0) (zBn rfl) rfl (Or.inl rfl)) (fun _ _ _ _=>zBP)
    (fun _ _ _ _=>zn GS hr rfl mS FS.kp bS .nil zAS (zE (zn GB hr rfl mB FB.kp bB .nil zAS (zE (zAK zCO (pv 1) (pv 2) (fun _ _=>rfl)) (zE (zAK zCO (pv 1) (pv 0) (fun _ _=>rfl)) (zE (pv 0) zO)))) zO)))),?_⟩
   refine⟨_,rfl,rl,_,rfl,.inr (SqT.of hrl),n,by rw[zB,hrs];exact congrArg (fun z=>[V.int z]) (Int.toNat_of_nonneg (by omega)),by omega,by omega,[.ref rl,.int h],rfl,fun D hD=>?_⟩
   refine zA0 (lo:=0) (n:=n.toNat) (fun q ys H1=>q<=n.toNat/\zAy H H1/\H1 D=some (.lst ys)/\∃bs:List (List Int),ys=(bs.map sn).map V.int/\bs.length=q/\∀(i:Nat)(xs:List Int),bs[i]? = some xs->xs.Pairwise (· < ·)/\∀p,p∈xs↔Btw ts h i p)
    ⟨zh _,zL hD,zH,[],rfl,rfl,fun i xs z=>by simp at z⟩ (fun q ys H1 z=>?_) (fun q ys H1 hq z=>?_) (fun ys H1 z=>?_)
   . obtain⟨hq,_,_,bs,rfl,hl,_⟩:=z
     rw[zB,zB,hl]
     exact zq (by omega)
   . obtain⟨_,s1,hD1,bs,rfl,hl,hbs⟩:=z
     rw[zAI]
     obtain⟨rh,gh,hh,Lh⟩:=(RA.same s1).at RR h0 h1
     obtain⟨rv,gv,hv,Lv⟩:=(RA.same s1).at RR (x:=(q:Int)) (by omega) (by omega)
     have hrl1:=s1 _ _ hrl
     refine⟨⟨rfl,rfl⟩,?_⟩
     refine zEZ ?_
     refine⟨_,rfl,_,rfl,rl,_,_,.ref rh,rfl,rfl,SqT.of hrl1,zBG h0 gh,_,rfl,_,rfl,rl,_,_,.ref rv,rfl,rfl,SqT.of hrl1,zBG (by omega) gv,_,rfl,rh,rv,n,ts,h,q,_,_,rfl,G,h0,h1,by omega,by omega,hh,hv,Lh,Lv,fun l xs H2 s2 hl2 hrise hmem=>?_⟩
     have hxr:∀p∈xs,0<=p/\p<n:=fun p hp=>by
      obtain⟨a,b,ia,_⟩:=(hmem p).mp hp
      exact ia.1.in_ G h0 h1
     have hxl:xs.length<=24:=by
      have:=nd_len (n:=n.toNat) (l:=xs) (hrise.imp fun z=>by omega) fun x hx=>by have:=hxr x hx;omega
      omega
     refine⟨l,xs,rfl,hl2,fun x hx=>by have:=hxr x hx;omega,hxl,fun H3 s3=>?_⟩
     have s13:=s2.trans s3
     refine⟨s13 _ _ hD1,hq,zAr (s1.trans s13) hD,zH,bs++[xs],by rw[zN,zN];rfl,by rw[zM,hl];rfl,fun i ys hi=>?_⟩
     by_cases c:i<bs.length
     . rw[zW c] at hi
       exact hbs i ys hi
     . have hi':i=q:=by
        have:=(zK.mp hi).1
        rw[zM] at this
        simp at this;omega
       subst hi'
       rw[zR (by omega),hl,Nat.sub_self] at hi
       have:xs=ys:=by simpa using hi
       subst this
       exact⟨hrise,hmem⟩
   . obtain⟨_,s1,hD1,bs,rfl,hl,hbs⟩:=z
     exact k D bs H1 s1 hD1 hl hbs
theorem scCf:zAB ["sets", "taken"] ["sets", "taken"] (defScope sCf):=⟨rfl,rfl,rfl,by decide +kernel,rfl,by decide +kernel,by decide +kernel⟩
theorem ok_cf {f:Addr}{fd':FuncData}(F:Fun K "count_free" "count_free" sCf f fd') (mLen:mg "len" = none):zAb P w K mg base CX0 1 f fd' ["sets", "taken"] spCf:=by
 refine F.ok scCf (fun vs H Q E h=>?_) (fun cdv A outer s H vs Q E hr h=>?_)
 . obtain⟨l,ns,t,rfl,_⟩:=h
   rfl
 . obtain⟨l,ns,t,rfl,hl,hn,k⟩:=h
   refine⟨_,zf (zAT (zAL zAX (by rfl) mLen PySem.boot_len (zE (zA8 (own:=["members"]) (cn:=["taken"]) (ci:=[1]) rfl (csc rfl rfl) ⟨rfl,rfl,rfl,trivial⟩ rfl (zBv (pv 0)) (fun _ _ _ _=>zw (i:=0) (zBn rfl) rfl (Or.inl rfl))
    (fun _ _ _ _=>zCH (PW.pt (zGg (zAQ zHN (pv 0) zj (zAa _)) (zEj (zAQ zCU (zAc zFK (pv 0) (pv 1)) zj (zAa _)))))) (fun _ _ _ _=>pv 0)) zO))),?_⟩
   refine⟨_,rfl,l,rfl,⟨_,SqL.of hl⟩,[.int t],rfl,fun D hD=>?_⟩
   have nlD:l≠D:=zi hl hD
   refine zBm (a:=l) (xs:=ns.map V.int) (fun i ys H4=>ys=((ns.take i).filter (cfB t)).map V.int/\H4=upd H D (.lst ys)) ⟨rfl,rfl⟩ (fun i ys H4 z=>?_) (fun i ys H4 z=>?_) (fun i x ys H4 hx z=>?_) (fun ys H4 z=>?_)
   . obtain⟨_,rfl⟩:=z
     exact SqL.of (by rw[zX nlD];exact hl)
   . obtain⟨rfl,_⟩:=z
     rw[zB]
     refine zAD (zv _ _) ?_
     rw[zr]
     exact zq (by omega)
   . obtain⟨rfl,rfl⟩:=z
     obtain⟨m,hm,rfl⟩:=int_at hx
     have st:(ns.take (i+1)).filter (cfB t)=(ns.take i).filter (cfB t)++[m].filter (cfB t):=by rw[zy,hm,zAl];rfl
     refine⟨⟨rfl,rfl⟩,?_⟩
     refine⟨_,rfl,rfl,_,rfl,?_⟩
     rw[zCB]
     by_cases c:m=0
     . refine ifF (by rw[zU c];rfl) ?_
       refine zD2 ⟨?_,rfl⟩
       rw[st,zAG (by unfold cfB;rw[zU c];simp),zAO,zo]
     . refine ifT (by rw[zZ c];rfl) ?_
       refine⟨_,rfl,_,rfl,_,_,rfl,rfl,rfl,_,rfl,?_⟩
       rw[zCB]
       by_cases c2:PySem.Builtin.bitAnd m t=0
       . refine ifT (zU c2) ?_
         refine⟨_,rfl,zH,?_,zBX⟩
         rw[st,zAV (by unfold cfB;rw[zZ c,zU c2];rfl),zAO,zN];rfl
       . refine ifF (zZ c2) ⟨?_,rfl⟩
         rw[st,zAG (by unfold cfB;rw[zZ c2,Bool.and_false];simp),zAO,zo]
   . obtain⟨rfl,rfl⟩:=z
     rw[zB,zY (zI _)]
     refine⟨D,_,rfl,.inl (SqL.of zH),?_⟩
     rw[zB]
     exact k _ (zL hD)
end
end K37
namespace K37
open PySem L2 WM
theorem zCG (p:Nat):(1:Int)*2 ^ ((p:Int)).toNat=((2 ^ p:Nat):Int):=by
 rw[zAF,Int.one_mul,Int.natCast_pow];rfl
theorem zDY (a b:Nat):PySem.Builtin.bitAnd ↑a ↑b=((a &&& b:Nat):Int):=by
 unfold PySem.Builtin.bitAnd
 rw[zU (Int.natCast_nonneg _),zU (Int.natCast_nonneg _)]
 rfl
theorem zGM {t p:Nat}:(t &&& 2 ^ p=0)↔t.testBit p=false:=by
 constructor
 . intro e
   have:=congrArg (Nat.testBit · p) e
   simp only[Nat.testBit_and,Nat.testBit_two_pow_self,Nat.zero_testBit,Bool.and_true] at this
   exact this
 . intro h
   apply Nat.eq_of_testBit_eq
   intro j
   rw[Nat.testBit_and,Nat.testBit_two_pow,Nat.zero_testBit]
   by_cases c:p=j
   . subst c;rw[h,Bool.false_and]
   . rw[zZ c,Bool.and_false]
theorem zG0 {t p:Nat}(h:t.testBit p=false):PySem.Builtin.bitOr (t:Int) ((2 ^ p:Nat):Int)=((t+2 ^ p:Nat):Int):=by
 rw[PyProof.Rows.bitOr_and,zDY,zGM.mpr h]
 omega
noncomputable def zAm (t n:Nat):List Nat:=(List.range n).filter fun p=>!t.testBit p
theorem zBk {t n p:Nat}:p∈zAm t n↔p<n/\t.testBit p=false:=by
 unfold zAm
 rw[zAu,zAd,Bool.not_eq_true']
noncomputable def brg (R:List (List Int))(t h:Nat):Nat:=((R.getD h []).filter (cfB (t:Int))).length
noncomputable def zHj (H:Hp)(rs:List Addr)(R:List (List Int)):Prop:=rs.length=R.length/\∀(i:Nat)(r:Addr)(row:List Int),rs[i]? = some r->R[i]? = some row->H r=some (.lst (row.map V.int))
theorem zHj.same {H H':Hp}{rs:List Addr}{R:List (List Int)}(h:zHj H rs R)(k:zAy H H'):zHj H' rs R:=⟨h.1,fun i r row a b=>k _ _ (h.2 i r row a b)⟩
noncomputable def zBL (H:Hp)(sl:Addr)(R:List (List Int)):Prop:=∃rs:List Addr,H sl=some (.lst (rs.map V.ref))/\zHj H rs R
theorem zBL.same {H H':Hp}{sl:Addr}{R:List (List Int)}(h:zBL H sl R)(k:zAy H H'):zBL H' sl R:=by
 obtain⟨rs,a,b⟩:=h
 exact⟨rs,k _ _ a,b.same k⟩
noncomputable def zJm:Sp:=fun vs H Q _=>∃(wa ta:Addr)(n t:Nat),vs=[.ref wa,.int t]/\H wa=some (.tup [.int n,.ref ta])/\n<=24/\∀(l:Addr)(H':Hp),H l=none->zAy H H'->H' l=some (.lst ((zAm t n).map fun (p:Nat)=>V.int p))->Q (.ref l) H'
noncomputable def zJp:Sp:=fun vs H Q _=>∃(sl nl:Addr)(R:List (List Int))(nu:List Int)(t h:Nat),vs=[.ref sl,.ref nl,.int t,.int h]/\zBL H sl R/\H nl=some (.lst (nu.map V.int))/\h<R.length/\t.testBit h=false/\t+2 ^ h<nu.length/\(∀row∈R,row.length<=24)/\h<24 /\
 ∀H',zAy H H'->Q (.int ((brg R t h:Nat)+nu.getD (t+2 ^ h) 0)) H'
section
variable {P:Program}{w:World}{K:PySem.W.Frag}{mg:Str->Option Value}{base:Heap}
theorem scLpl:zAB ["web", "taken"] ["web", "taken"] (defScope sLpl):=⟨rfl,rfl,rfl,by decide +kernel,rfl,by decide +kernel,by decide +kernel⟩
theorem ok_lpl {f:Addr}{fd':FuncData}(F:Fun K "left_places" "left_places" sLpl f fd') (mRange:mg "range" = none):zAb P w K mg base CX0 1 f fd' ["web", "taken"] zJm:=by
 refine F.ok scLpl (fun vs H Q E h=>?_) (fun cdv A outer s H vs Q E hr h=>?_)
 . obtain⟨wa,ta,n,t,rfl,_⟩:=h
   rfl
 . obtain⟨wa,ta,n,t,rfl,hwa,hn,k⟩:=h
   refine⟨_,zf (zAT (zA8 (own:=["place"]) (cn:=["taken"]) (ci:=[1]) rfl (csc rfl rfl) ⟨rfl,rfl,rfl,trivial⟩ rfl (zAZ rfl mRange (zE (zAK zAp (pv 0) zj (fun _ _=>rfl)) zO)) (fun _ _ _ _=>zw (i:=0) (zBn rfl) rfl (Or.inl rfl))
    (fun _ _ _ _=>zCH (zAQ zCU (zAc zFK (pv 1) (zAc zCN zj (pv 0))) zj (zAa _))) (fun _ _ _ _=>pv 0))),?_⟩
   refine⟨_,rfl,wa,_,_,_,rfl,rfl,SqT.of hwa,rfl,(n:Int),rfl,by omega,by omega,[.int t],rfl,fun D hD=>?_⟩
   refine zA0 (lo:=0) (n:=((n:Int)).toNat) (fun q ys H4=>q<=n/\ys=(zAm t q).map (fun (p:Nat)=>V.int p)/\H4=upd H D (.lst ys)) ⟨zh _,rfl,rfl⟩ (fun q ys H4 z=>?_) (fun q ys H4 hq z=>?_) (fun ys H4 z=>?_)
   . obtain⟨hq,rfl,_⟩:=z
     rw[zB]
     refine zAD (zv _ _) ?_
     rw[zu]
     exact zq (by omega)
   . obtain⟨_,rfl,rfl⟩:=z
     rw[zAI]
     have st:zAm t (q+1)=zAm t q++[q].filter fun p=>!t.testBit p:=by unfold zAm;rw[zBR,zAl]
     refine⟨⟨rfl,rfl⟩,?_⟩
     refine⟨_,rfl,_,rfl,1,(q:Int),rfl,rfl,⟨by omega,by omega,by decide⟩,_,_,rfl,rfl,rfl,_,rfl,?_⟩
     rw[zCG]
     dsimp only
     rw[zCB]
     by_cases c:t.testBit q=false
     . refine ifT (zU (by rw[zDY,zGM.mpr c];rfl)) ?_
       refine⟨_,rfl,zH,by omega,?_,zBX⟩
       rw[st,zAV (by rw[c];rfl),zAO,zN];rfl
     . refine ifF (zZ fun z=>c (zGM.mp (by rw[zDY] at z;omega))) ⟨by omega,?_,rfl⟩
       rw[st,zAG (by simpa using c),zAO,zo]
   . obtain⟨_,rfl,rfl⟩:=z
     rw[zAF]
     exact k D _ hD (zL hD) zH
theorem scBwo:zAB ["sets", "numbers", "taken", "hub"] ["sets", "numbers", "taken", "hub"] (defScope zKx):=⟨rfl,rfl,rfl,by decide +kernel,rfl,by decide +kernel,by decide +kernel⟩
theorem ok_bwo {f fC:Addr}{fd' fdC:FuncData}(F:Fun K "by_way_of" "by_way_of" zKx f fd') (FC:Fun K "count_free" "count_free" sCf fC fdC) (bC:zAA K fdC ["sets", "taken"] []) (mC:mg "count_free" = some (.ref fC)) (mLen:mg "len" = none):zAb P w K mg base CX0 2 f fd' ["sets", "numbers", "taken", "hub"] zJp:=by
 have GC:zAb P w K mg base CX0 1 fC fdC ["sets", "taken"] spCf:=ok_cf FC mLen
 refine F.ok scBwo (fun vs H Q E h=>?_) (fun cdv A outer s H vs Q E hr h=>?_)
 . obtain⟨sl,nl,R,nu,t,h,rfl,_⟩:=h
   rfl
 . obtain⟨sl,nl,R,nu,t,h,rfl,⟨rs,hsl,RI⟩,hnl,hh,hb,hlt,h24,hh24,k⟩:=h
   refine⟨_,zf (zAT (zAc zBe (zn GC hr rfl mC FC.kp bC .nil zAS (zE (zAK zAU (pv 0) (pv 3) (fun _ _=>rfl)) (zE (pv 2) zO))) (zAK zAU (pv 1) (zAc op_or (pv 2) (zAc zCN zj (pv 3))) (fun _ _=>rfl)))),?_⟩
   have hr':h<rs.length:=by rw[RI.1];exact hh
   have er:rs[h]? = some rs[h]:=zC hr'
   have eR:R[h]? = some R[h]:=zC hh
   have hrow:=RI.2 h _ _ er eR
   have egd:R.getD h []=R[h]:=by rw[zD,eR];rfl
   refine⟨_,rfl,_,rfl,sl,_,_,.ref rs[h],rfl,rfl,SqL.of hsl,zBx (by rw[zJ,er];rfl),_,rfl,rs[h],R[h],(t:Int),rfl,hrow,h24 _ (zBA hh),fun H1 s1=>?_⟩
   refine⟨_,rfl,_,rfl,_,rfl,1,(h:Int),rfl,rfl,⟨by omega,by omega,by decide⟩,_,_,rfl,rfl,?_⟩
   rw[zCG]
   dsimp only
   rw[zG0 hb]
   refine⟨nl,_,_,.int (nu.getD (t+2 ^ h) 0),rfl,rfl,SqL.of (s1 _ _ hnl),zBx (by rw[zJ,zD,zC hlt];rfl),?_⟩
   refine⟨_,_,rfl,rfl,?_⟩
   have:((R[h].filter (cfB (t:Int))).length:Nat)=brg R t h:=by unfold brg;rw[egd]
   rw[this]
   exact k H1 s1
end
section
variable {P:Program}{w:World}{K:PySem.W.Frag}{mg:Str->Option Value}{base:Heap}
noncomputable def zH4:Sp:=fun vs H Q _=>∃(sl nl:Addr)(R:List (List Int))(nu:List Int)(t h:Nat),vs=[.ref sl,.ref nl,.int t,.int h]/\zBL H sl R/\H nl=some (.tup (nu.map V.int))/\h<R.length/\t.testBit h=false/\t+2 ^ h<nu.length/\(∀row∈R,row.length<=24)/\h<24 /\
 ∀H',zAy H H'->Q (.int ((brg R t h:Nat)+nu.getD (t+2 ^ h) 0)) H'
theorem zL9 {f fC:Addr}{fd' fdC:FuncData}(F:Fun K "by_way_of" "by_way_of" zKx f fd') (FC:Fun K "count_free" "count_free" sCf fC fdC) (bC:zAA K fdC ["sets", "taken"] []) (mC:mg "count_free" = some (.ref fC)) (mLen:mg "len" = none):zAb P w K mg base CX0 2 f fd' ["sets", "numbers", "taken", "hub"] zH4:=by
 have GC:zAb P w K mg base CX0 1 fC fdC ["sets", "taken"] spCf:=ok_cf FC mLen
 refine F.ok scBwo (fun vs H Q E h=>?_) (fun cdv A outer s H vs Q E hr h=>?_)
 . obtain⟨sl,nl,R,nu,t,h,rfl,_⟩:=h
   rfl
 . obtain⟨sl,nl,R,nu,t,h,rfl,⟨rs,hsl,RI⟩,hnl,hh,hb,hlt,h24,hh24,k⟩:=h
   refine⟨_,zf (zAT (zAc zBe (zn GC hr rfl mC FC.kp bC .nil zAS (zE (zAK zAU (pv 0) (pv 3) (fun _ _=>rfl)) (zE (pv 2) zO))) (zAK zAp (pv 1) (zAc op_or (pv 2) (zAc zCN zj (pv 3))) (fun _ _=>rfl)))),?_⟩
   have hr':h<rs.length:=by rw[RI.1];exact hh
   have er:rs[h]? = some rs[h]:=zC hr'
   have eR:R[h]? = some R[h]:=zC hh
   have hrow:=RI.2 h _ _ er eR
   have egd:R.getD h []=R[h]:=by rw[zD,eR];rfl
   refine⟨_,rfl,_,rfl,sl,_,_,.ref rs[h],rfl,rfl,SqL.of hsl,zBx (by rw[zJ,er];rfl),_,rfl,rs[h],R[h],(t:Int),rfl,hrow,h24 _ (zBA hh),fun H1 s1=>?_⟩
   refine⟨_,rfl,_,rfl,_,rfl,1,(h:Int),rfl,rfl,⟨by omega,by omega,by decide⟩,_,_,rfl,rfl,?_⟩
   rw[zCG]
   dsimp only
   rw[zG0 hb]
   refine⟨nl,_,_,.int (nu.getD (t+2 ^ h) 0),rfl,rfl,SqT.of (s1 _ _ hnl),zBx (by rw[zJ,zD,zC hlt];rfl),?_⟩
   refine⟨_,_,rfl,rfl,?_⟩
   have:((R[h].filter (cfB (t:Int))).length:Nat)=brg R t h:=by unfold brg;rw[egd]
   rw[this]
   exact k H1 s1
end
end K37
namespace K37
open PySem L2 WM
noncomputable def lamB:Pos:=⟨138,44,138,92⟩
noncomputable abbrev lamBQ:Str:=(("best_next" : Str) ++ ".<locals>.") ++ "<lambda>"
noncomputable abbrev Tb2 (H:Hp)(P2:Addr):Prop:=zB7 H P2 lamB lamBQ
noncomputable def cst (R:List (List Int))(nu:List Int)(t h:Nat):Int:=(brg R t h:Nat)+nu.getD (t+2 ^ h) 0
structure zJd (H:Hp)(sl nl:Addr)(R:List (List Int))(nu:List Int)(n:Nat):Prop where
 st:zBL H sl R
 nm:H nl=some (.lst (nu.map V.int))
 rl:R.length=n
 r24:∀row∈R,row.length<=24
 nl:nu.length=2 ^ n
 n8:n<=8
theorem zJd.same {H H':Hp}{sl nl:Addr}{R:List (List Int)}{nu:List Int}{n:Nat}(h:zJd H sl nl R nu n)(k:zAy H H'):zJd H' sl nl R nu n:=⟨h.st.same k,k _ _ h.nm,h.rl,h.r24,h.nl,h.n8⟩
theorem zBL.smP {P2:Addr}{H H':Hp}{sl:Addr}{R:List (List Int)}(h:zBL H sl R)(k:SmP P2 H H'):zBL H' sl R:=by
 obtain⟨rs,a,b,c⟩:=h
 exact⟨rs,k.get a (by intro ps z;cases z),b,fun i r row x y=>k.get (c i r row x y) (by intro ps z;cases z)⟩
theorem zJd.smP {P2:Addr}{H H':Hp}{sl nl:Addr}{R:List (List Int)}{nu:List Int}{n:Nat}(h:zJd H sl nl R nu n)(k:SmP P2 H H'):zJd H' sl nl R nu n:=⟨h.st.smP k,k.get h.nm (by intro ps z;cases z),h.rl,h.r24,h.nl,h.n8⟩
theorem zEW {t n h:Nat}(ht:t<2 ^ n)(hh:h<n)(hb:t.testBit h=false):t+2 ^ h<2 ^ n:=by
 refine Nat.lt_pow_two_of_testBit _ fun j hj=>?_
 rw[Nat.add_comm,zGQ h t j hb,zZ (by omega),Nat.testBit_lt_two_pow (zl ht (zBf (by decide) hj))];rfl
noncomputable def zGU (P2:Addr):Sp:=fun vs H Q _=>∃(wa ta sl nl:Addr)(R:List (List Int))(nu:List Int)(n t:Nat),vs=[.ref wa,.ref sl,.ref nl,.int t]/\H wa=some (.tup [.int n,.ref ta])/\zJd H sl nl R nu n/\t<2 ^ n/\zAm t n≠[]/\Tb2 H P2 /\
 ∀(h:Nat)(H':Hp),h∈zAm t n->(∀g∈zAm t n,cst R nu t h<=cst R nu t g)->SmP P2 H H'->Tb2 H' P2->Q (.int h) H'
section
variable {P:Program}{w:World}{K:PySem.W.Frag}{mg:Str->Option Value}{base:Heap}{P2:Addr}
theorem scBest:zAB ["web", "sets", "numbers", "taken"] ["web", "sets", "numbers", "taken"] (defScope zHH):=⟨rfl,rfl,rfl,by decide +kernel,rfl,by decide +kernel,by decide +kernel⟩
theorem zMA {f fL fB c:Addr}{fd' fdL fdB:FuncData}(F:zJY K "best_next" "best_next" zHH f fd' c) (C:PySem.W.CodeHd base c P2)(hbm:zG7 mg base)(mMin:mg "min" = none)
 (FL:Fun K "left_places" "left_places" sLpl fL fdL) (bL:zAA K fdL ["web", "taken"] []) (mL:mg "left_places" = some (.ref fL)) (GL:zAb P w K mg base CX0 4 fL fdL ["web", "taken"] zJm)
 (FB:Fun K "by_way_of" "by_way_of" zKx fB fdB) (bB:zAA K fdB ["sets", "numbers", "taken", "hub"] []) (mB:mg "by_way_of" = some (.ref fB)) (GB:zAb P w K mg base CX0 2 fB fdB ["sets", "numbers", "taken", "hub"] zJp):zAb P w K mg base CX0 5 f fd' ["web", "sets", "numbers", "taken"] (zGU P2):=by
 refine F.ok scBest (fun vs H Q E h=>?_) (fun A outer s H vs Q E hr h=>?_)
 . obtain⟨wa,ta,sl,nl,R,nu,n,t,rfl,_⟩:=h
   rfl
 . obtain⟨wa,ta,sl,nl,R,nu,n,t,rfl,hwa,DP,ht,hne,T,k⟩:=h
   refine⟨_,zf (zAT (zIK (k:=2) (P:=P2) (c:=c) (pn := "hub") (cn:=["sets", "numbers", "taken"]) (ci:=[1,2,3]) rfl hr rfl mMin (zE (zn GL hr rfl mL FL.kp bL .nil zAS (zE (pv 0) (zE (pv 3) zO))) zO) rfl C hbm (csc rfl rfl) rfl rfl rfl ⟨rfl,rfl,rfl,rfl,rfl,rfl,rfl,rfl,rfl,trivial⟩ rfl rfl (fun _ _ _ _ _ _ _=>rfl)
    (fun f' cd' s3 H3 hr3=>zn GB hr3 rfl mB FB.kp bB .nil zAS (zE (pv 1) (zE (pv 2) (zE (pv 3) (zE (pv 0) zO))))))),?_⟩
   have n8:=DP.n8
   refine⟨_,rfl,_,rfl,wa,ta,n,t,rfl,hwa,by omega,fun l H1 hl0 s1 hl1=>?_⟩
   have em:(zAm t n).map (fun (p:Nat)=>V.int p)=((zAm t n).map fun (p:Nat)=>(p:Int)).map V.int:=by rw[zBp];rfl
   rw[em] at hl1
   refine⟨l,(zAm t n).map fun (p:Nat)=>(p:Int),fun x=>cst R nu t x.toNat,[.ref sl,.ref nl,.int t],rfl,hl1,by simpa using hne,rfl,T.same s1,fun H2 sm T2=>⟨fun x hx H3 s3=>?_,fun M b H4 B s4=>?_⟩⟩
   . obtain⟨p,hp,rfl⟩:=zp.mp hx
     obtain⟨p1,p2⟩:=zBk.mp hp
     have D3:=((DP.same s1).smP sm).same s3
     have hlt:=zEW ht p1 p2
     refine⟨_,rfl,_,rfl,_,rfl,_,rfl,sl,nl,R,nu,t,p,rfl,D3.st,D3.nm,by rw[D3.rl];exact p1,p2,by rw[D3.nl];exact hlt,D3.r24,by omega,fun H4 s4=>⟨?_,s4⟩⟩
     show V.int _=V.int (cst R nu t ((p:Int)).toNat)
     rw[zAF];rfl
   . obtain⟨b1,_,b3⟩:=B
     have hM:=zS b1
     obtain⟨p,hp,rfl⟩:=zp.mp hM
     refine k p H4 hp (fun g hg=>?_) (((SmP.of s1).trans sm).trans (SmP.of s4)) (T2.same s4)
     obtain⟨i,hi,ei⟩:=zx (zp.mpr ⟨g,hg,rfl⟩:(g:Int)∈(zAm t n).map fun (p:Nat)=>(p:Int))
     have:=(b3 i g hi (by rw[zC hi,ei])).1
     simpa using this
end
end K37
namespace K37
open PySem L2 WM
section
variable {X:Cx}
theorem zEm {e:Expr}{te te':TE}(h:PE X e te)(m:∀ σ H Q,te' σ H Q->te σ H Q):PE X e te':=fun pins s σ H Q I q=>h pins s σ H Q I (m σ H Q q)
end
theorem zAy.none {H H':Hp}{r:Addr}(s:zAy H H')(h:H' r=none):H r=none:=by
 cases z:H r with
 | none=>rfl
 | some u=>have y:=(s _ _ z).symm.trans h;cases y
structure zFx (R:List (List Int))(n:Nat)(nu:List Int)(lo:Nat):Prop where
 ln:nu.length=2 ^ n
 last:nu.getD (2 ^ n-1) 0=0
 le:∀t,lo<=t->t<2 ^ n->∀h∈zAm t n,nu.getD t 0<=cst R nu t h
 ex:∀t,lo<=t->t<2 ^ n->zAm t n≠[]->∃h∈zAm t n,nu.getD t 0=cst R nu t h
theorem zET (n:Nat):zAm (2 ^ n-1) n=[]:=by
 apply List.eq_nil_iff_forall_not_mem.mpr
 intro p hp
 obtain⟨a,b⟩:=zBk.mp hp
 rw[Nat.testBit_two_pow_sub_one,zU a] at b
 cases b
theorem zGu {t n:Nat}(h:t<2 ^ n-1):zAm t n≠[]:=by
 intro e
 have:t=2 ^ n-1:=by
  apply Nat.eq_of_testBit_eq
  intro j
  rw[Nat.testBit_two_pow_sub_one]
  by_cases c:j<n
  . rw[zU c]
    cases b:t.testBit j with
    | true=>rfl
    | false=>
     have:j∈zAm t n:=zBk.mpr ⟨c,b⟩
     rw[e] at this;cases this
  . rw[zZ c]
    exact Nat.testBit_lt_two_pow (zl (by omega:t<2 ^ n) (zBf (by decide) (by omega)))
 omega
theorem zCK {nu:List Int}{i j:Nat}{x:Int}(h:i≠j):(nu.set i x).getD j 0=nu.getD j 0:=by
 rw[zD,zD,List.getElem?_set_ne h]
theorem zCw {nu:List Int}{i:Nat}{x:Int}(h:i<nu.length):(nu.set i x).getD i 0=x:=by
 rw[zD,List.getElem?_set_self h];rfl
theorem zDZ (h:Nat):0<2 ^ h:=Nat.pow_pos (by decide)
theorem zGH {R:List (List Int)}{nu:List Int}{t t0 h:Nat}{x:Int}(ht:t0<=t):cst R (nu.set t0 x) t h=cst R nu t h:=by
 unfold cst
 rw[zCK (by have:=zDZ h;omega)]
theorem zFx.start (R:List (List Int))(n:Nat):zFx R n (List.replicate (2 ^ n) 0) (2 ^ n-1):=by
 have p:=zDZ n
 refine⟨zAH,by rw[zD,zA5];split <;> rfl,fun t h1 h2 h hh=>?_,fun t h1 h2 hne=>?_⟩
 . obtain rfl:t=2 ^ n-1:=by omega
   rw[zET] at hh;cases hh
 . obtain rfl:t=2 ^ n-1:=by omega
   exact absurd (zET n) hne
theorem zFx.step {R:List (List Int)}{n:Nat}{nu:List Int}{t h:Nat}(d:zFx R n nu (t+1))(ht:t<2 ^ n-1)(hh:h∈zAm t n)(hb:∀g∈zAm t n,cst R nu t h<=cst R nu t g):zFx R n (nu.set t (cst R nu t h)) t:=by
 have hl:t<nu.length:=by rw[d.ln];omega
 refine⟨by rw[zBh];exact d.ln,by rw[zCK (by omega)];exact d.last,fun u h1 h2 g hg=>?_,fun u h1 h2 hne=>?_⟩
 . rw[zGH h1]
   by_cases c:u=t
   . subst c
     rw[zCw hl]
     exact hb g hg
   . rw[zCK (by omega)]
     exact d.le u (by omega) h2 g hg
 . by_cases c:u=t
   . subst c
     exact⟨h,hh,by rw[zGH h1,zCw hl]⟩
   . obtain⟨g,hg,e⟩:=d.ex u (by omega) h2 hne
     exact⟨g,hg,by rw[zGH h1,zCK (by omega),e]⟩
noncomputable def zHz (P2:Addr):Sp:=fun vs H Q _=>∃(wa ta sl:Addr)(R:List (List Int))(n:Nat),vs=[.ref wa,.ref sl]/\H wa=some (.tup [.int n,.ref ta])/\zBL H sl R/\R.length=n/\(∀row∈R,row.length<=24)/\1<=n/\n<=8/\Tb2 H P2 /\
 ∀(nl:Addr)(nu:List Int)(H':Hp),H nl=none->SmP P2 H H'->Tb2 H' P2->H' nl=some (.lst (nu.map V.int))->zFx R n nu 0->Q (.ref nl) H'
theorem zGw (m:Nat):(List.replicate m [V.int 0]).flatten=(List.replicate m (0:Int)).map V.int:=by
 induction m with
 | zero=>rfl
 | succ m ih=>rw[zAx,List.flatten_cons,ih,zAx];rfl
theorem zDH {n:Nat}(h:n<=8):2 ^ n<=256:=zAE (zBf (by decide) h) (by decide)
section
variable {P:Program}{w:World}{K:PySem.W.Frag}{mg:Str->Option Value}{base:Heap}{P2:Addr}
theorem zGb:zAB ["web", "sets", "count", "numbers", "taken"] ["web", "sets"] (defScope zIB):=⟨rfl,rfl,rfl,by decide +kernel,rfl,by decide +kernel,by decide +kernel⟩
theorem zL2 {f fN fB:Addr}{fd' fdN fdB:FuncData}(F:Fun K "least_numbers" "least_numbers" zIB f fd')
 (FN:Fun K "best_next" "best_next" zHH fN fdN) (bN:zAA K fdN ["web", "sets", "numbers", "taken"] []) (mN:mg "best_next" = some (.ref fN)) (GN:zAb P w K mg base CX0 5 fN fdN ["web", "sets", "numbers", "taken"] (zGU P2))
 (FB:Fun K "by_way_of" "by_way_of" zKx fB fdB) (bB:zAA K fdB ["sets", "numbers", "taken", "hub"] []) (mB:mg "by_way_of" = some (.ref fB)) (GB:zAb P w K mg base CX0 5 fB fdB ["sets", "numbers", "taken", "hub"] zJp) (mRange:mg "range" = none) :
 zAb P w K mg base CX0 6 f fd' ["web", "sets"] (zHz P2):=by
 refine F.ok zGb (fun vs H Q E h=>?_) (fun cdv A outer s H vs Q E hr h=>?_)
 . obtain⟨wa,ta,sl,R,n,rfl,_⟩:=h
   rfl
 . obtain⟨wa,ta,sl,R,n,rfl,hwa,ST,hR,h24,n1,n8,T,k⟩:=h
   have p8:=zDH n8
   have p1:2<=2 ^ n:=zAE (by decide:2<=2 ^ 1) (zBf (by decide) n1)
   refine⟨_,zT (zAP (i:=2) zGb.nd rfl (Or.inl rfl) (zAc zCN zj (zAK zAp (pv 0) zj (fun _ _=>rfl))))
    (zT (zAP (i:=3) zGb.nd rfl (Or.inl rfl) (zAc zIO (zB9 (zE zj zO)) (pv 2)))
    (zT (zBY PassesOwn.never rfl (zFF rfl mRange (zE (zAc zEM (pv 2) zj) (zE (zEm (zFH zDM zj) (fun σ H Q q=>⟨1,rfl,q⟩)) (zE (zEm (zFH zDM zj) (fun σ H Q q=>⟨1,rfl,q⟩)) zO)))) (zw (i:=4) zGb.nd rfl (Or.inl rfl))
     (zf (zCM (zn GB hr rfl mB FB.kp bB .nil zAS (zE (pv 1) (zE (pv 3) (zE (pv 4) (zE (zn GN hr rfl mN FN.kp bN .nil zAS (zE (pv 0) (zE (pv 1) (zE (pv 3) (zE (pv 4) zO))))) zO))))) (zCR (pv 3) (pv 4) zBb))))
    (zf (zAT (pv 3))))),?_⟩
   refine⟨_,rfl,wa,_,_,_,rfl,rfl,SqT.of hwa,rfl,1,(n:Int),rfl,rfl,⟨by omega,by omega,by decide⟩,?_⟩
   show zIs 2 (V.int (1*2 ^ ((n:Int)).toNat)) _ _ _
   rw[zCG]
   refine⟨by show 1<=sizeLine;decide,fun l0 hl0=>?_⟩
   refine⟨_,rfl,l0,((2 ^ n:Nat):Int),_,rfl,rfl,zH,by omega,by omega,?_,fun nl hnl=>?_⟩
   . have:sizeLine=16777216:=rfl
     show 1*((2 ^ n:Nat):Int).toNat<=sizeLine
     omega
   rw[zAF,zGw]
   have hnl0:H nl=none:=zAy.none (zL hl0) hnl
   have s1:zAy H (upd (upd H l0 (.lst [.int 0])) nl (.lst ((List.replicate (2 ^ n) (0:Int)).map V.int))):=(zL hl0).trans (zL hnl)
   have h1:(upd (upd H l0 (.lst [.int 0])) nl (.lst ((List.replicate (2 ^ n) (0:Int)).map V.int))) nl=some (.lst ((List.replicate (2 ^ n) (0:Int)).map V.int)):=zH
   generalize (upd (upd H l0 (.lst [.int 0])) nl (.lst ((List.replicate (2 ^ n) (0:Int)).map V.int)))=H1 at s1 h1 ⊢
   refine⟨_,rfl,_,_,rfl,rfl,((2 ^ n:Nat):Int)-2,-1,rfl,⟨by omega,by omega,by omega,by omega⟩,zGv (lo:=((2 ^ n:Nat):Int)-2) (n:=(((2 ^ n:Nat):Int)-2 - -1).toNat) (fun i σ H2=>∃(v4:Option V)(nu:List Int),σ=[some (.ref wa),some (.ref sl),some (.int ((2 ^ n:Nat):Int)),some (.ref nl),v4]/\SmP P2 H H2/\Tb2 H2 P2/\H2 nl=some (.lst (nu.map V.int))/\zFx R n nu (2 ^ n-1-i))
    ⟨_,_,rfl,SmP.of s1,T.same s1,h1,zFx.start R n⟩ (fun i σ H2 hi z=>?_) (fun σ H2 z=>?_)⟩
   . obtain⟨v4,nu,rfl,sm2,T2,h2,dp⟩:=z
     have hi':i<2 ^ n-1:=by omega
     obtain⟨t,et⟩:∃t:Nat,t=2 ^ n-2-i:=⟨_,rfl⟩
     have eI:((2 ^ n:Nat):Int)-2-(i:Int)=(t:Int):=by omega
     rw[eI]
     rw[show 2 ^ n-1-i=t+1 by omega] at dp
     have hwa2:H2 wa=some (.tup [.int n,.ref ta]):=sm2.get hwa (by intro ps z;cases z)
     have D2:zJd H2 sl nl R nu n:=⟨ST.smP sm2,h2,hR,h24,dp.ln,n8⟩
     have tlt:t<2 ^ n-1:=by omega
     refine⟨_,rfl,_,rfl,_,rfl,_,rfl,_,rfl,_,rfl,_,rfl,wa,ta,sl,nl,R,nu,n,t,rfl,hwa2,D2,by omega,zGu tlt,T2,fun h H3 hh hb sm3 T3=>?_⟩
     have D3:=D2.smP sm3
     obtain⟨hn',hbit⟩:=zBk.mp hh
     refine⟨sl,nl,R,nu,t,h,rfl,D3.st,D3.nm,by rw[hR];exact hn',hbit,by rw[dp.ln];exact zEW (by omega) hn' hbit,h24,by omega,fun H4 s4=>?_⟩
     refine⟨_,rfl,_,rfl,nl,_,(t:Int),t,rfl,rfl,s4 _ _ D3.nm,zCp (by omega) (by rw[zB,dp.ln];omega),?_⟩
     have est:(nu.map V.int).set t (V.int ((brg R t h:Nat)+nu.getD (t+2 ^ h) 0))=(nu.set t (cst R nu t h)).map V.int:=by rw[List.map_set];rfl
     rw[est]
     refine⟨_,nu.set t (cst R nu t h),rfl,((sm2.trans sm3).trans (SmP.of s4)).chg hnl0,?_,zH,?_⟩
     . exact (T3.same s4).keep (fun o e=>by rw[zX (fun z=>by rw[z,s4 _ _ D3.nm] at e;obtain⟨ps,hp,_⟩:=T3.same s4;rw[z,s4 _ _ D3.nm] at hp;cases hp)];exact e) (fun c φ e=>by rw[zX (fun z=>by rw[z,s4 _ _ D3.nm] at e;cases e)];exact e)
     . rw[show 2 ^ n-1-(i+1)=t by omega]
       exact dp.step tlt hh hb
   . obtain⟨v4,nu,rfl,sm2,T2,h2,dp⟩:=z
     rw[show 2 ^ n-1-(((2 ^ n:Nat):Int)-2 - -1).toNat=0 by omega] at dp
     exact⟨_,rfl,k nl nu H2 hnl0 sm2 T2 h2 dp⟩
end
end K37
namespace K37
open PySem L2 WM
structure zDR (ts:List T3)(n:Int)(R:List (List Int)):Prop where
 rl:R.length=n.toNat
 ro:∀(h:Nat)(row:List Int),R[h]? = some row->row.length=n.toNat/\∀i,i<n.toNat->∃xs:List Int,row[i]? = some (sn xs)/\xs.Pairwise (· < ·)/\∀p,p∈xs↔Btw ts h i p
noncomputable def zGV (PT:Addr):Sp:=fun vs H Q _=>∃(wa:Addr)(n:Int)(ts:List T3),vs=[.ref wa]/\zBd H wa n ts/\Tb H PT/\∀(sl:Addr)(R:List (List Int))(H':Hp),SmP PT H H'->Tb H' PT->zBL H' sl R->zDR ts n R->Q (.ref sl) H'
section
variable {P:Program}{w:World}{K:PySem.W.Frag}{mg:Str->Option Value}{base:Heap}{PT:Addr}
theorem zKv:zAB ["web", "rows"] ["web"] (defScope zHI):=⟨rfl,rfl,rfl,by decide +kernel,rfl,by decide +kernel,by decide +kernel⟩
theorem zMB {f fL fS:Addr}{fd' fdL fdS:FuncData}(F:Fun K "all_sets" "all_sets" zHI f fd') (FL:Fun K "lengths" "lengths" zHG fL fdL) (bL:zAA K fdL ["web"] []) (mL:mg "lengths" = some (.ref fL)) (GL:zAb P w K mg base CX0 5 fL fdL ["web"] (zGT PT))
 (FS:Fun K "sets_from" "sets_from" sSf fS fdS) (bS:zAA K fdS ["rows", "hub"] []) (mS:mg "sets_from" = some (.ref fS)) (GS:zAb P w K mg base CX0 5 fS fdS ["rows", "hub"] spSf) (mRange:mg "range" = none):zAb P w K mg base CX0 6 f fd' ["web"] (zGV PT):=by
 refine F.ok zKv (fun vs H Q E h=>?_) (fun cdv A outer s H vs Q E hr h=>?_)
 . obtain⟨wa,n,ts,rfl,_⟩:=h
   rfl
 . obtain⟨wa,n,ts,rfl,W,T,k⟩:=h
   obtain⟨ta,tys,hwa,_,_,G⟩:=id W
   have hn1:=G.n1
   have hn24:=G.n24
   refine⟨_,zT (zAP (i:=1) zKv.nd rfl (Or.inr rfl) (zn GL hr rfl mL FL.kp bL .nil zAS (zE (pv 0) zO)))
    (zf (zAT (zA8 (own:=["hub"]) (cn:=["rows"]) (ci:=[1]) rfl (csc rfl rfl) ⟨rfl,rfl,rfl,trivial⟩ rfl (zAZ rfl mRange (zE (zAK zAp (pv 0) zj (fun _ _=>rfl)) zO)) (fun _ _ _ _=>zw (i:=0) (zBn rfl) rfl (Or.inl rfl)) (fun _ _ _ _=>zBP)
     (fun _ _ _ _=>zn GS hr rfl mS FS.kp bS .nil zAS (zE (pv 1) (zE (pv 0) zO)))))),?_⟩
   refine⟨_,rfl,wa,n,ts,rfl,W,T,fun rl rs M H1 sm1 T1 hrl RA RR=>?_⟩
   have hwa1:H1 wa=some (.tup [.int n,.ref ta]):=sm1.get hwa (by intro ps z;cases z)
   refine⟨_,rfl,wa,_,_,_,rfl,rfl,SqT.of hwa1,rfl,n,rfl,by omega,by omega,[.ref rl],rfl,fun D hD=>?_⟩
   refine zA0 (lo:=0) (n:=n.toNat) (fun q ys H2=>q<=n.toNat/\∃(ls:List Addr)(R:List (List Int)),ys=ls.map V.ref/\ls.length=q/\zHj H2 ls R/\(∀l∈ls,l≠D)/\(∀(h:Nat)(row:List Int),R[h]? = some row->row.length=n.toNat/\∀i,i<n.toNat->∃xs:List Int,row[i]? = some (sn xs)/\xs.Pairwise (· < ·)/\∀p,p∈xs↔Btw ts h i p)/\zAy H1 H2/\H2 D=some (.lst ys))
    ⟨zh _,[],[],rfl,rfl,⟨rfl,fun i r row e=>by simp at e⟩,fun l hl=>by simp at hl,fun h row e=>by simp at e,zL hD,zH⟩ (fun q ys H2 z=>?_) (fun q ys H2 hq z=>?_) (fun ys H2 z=>?_)
   . obtain⟨hq,ls,R,rfl,hl,_⟩:=z
     rw[zB,hl]
     exact zq (by omega)
   . obtain⟨_,ls,R,rfl,hl,RI,fr,ro,s2,hD2⟩:=z
     rw[zAI]
     refine⟨⟨rfl,rfl⟩,?_⟩
     refine zEZ ?_
     refine⟨_,rfl,_,rfl,rl,rs,M,n,ts,(q:Int),rfl,G,s2 _ _ hrl,RA.same s2,RR,by omega,by omega,fun l bs H3 s3 h3 hbl hbs=>?_⟩
     have hD3:=s3 _ _ hD2
     have nlD:l≠D:=fun z=>by
      rw[z,hD3] at h3
      injection h3 with h3
      injection h3 with h3
      have e1:=congrArg List.length h3
      rw[zB,zB,zB,hl,hbl] at e1
      omega
     have hRl:R.length=q:=by rw[<-RI.1,hl]
     refine⟨hD3,hq,ls++[l],R++[bs.map sn],by rw[zN];rfl,by rw[zM,hl];rfl,⟨by rw[zM,zM,RI.1];rfl,fun i r row e1 e2=>?_⟩,fun y hy=>?_,fun h row e=>?_,zAr (s2.trans s3) hD,zH⟩
     . by_cases c:i<q
       . rw[zW (by omega)] at e1 e2
         rw[zX (fr r (zS e1))]
         exact s3 _ _ (RI.2 i r row e1 e2)
       . rw[zR (by omega)] at e1 e2
         have hi:i-ls.length=0:=by
          have:=(zK.mp e1).1
          rw[zAz] at this
          omega
         rw[hi] at e1
         rw[show i-R.length=0 by omega] at e2
         cases e1
         cases e2
         rw[zX nlD];exact h3
     . rcases zAC.mp hy with hy | hy
       . exact fr y hy
       . rw[zk.mp hy];exact nlD
     . by_cases c:h<q
       . rw[zW (by omega)] at e
         exact ro h row e
       . rw[zR (by omega)] at e
         have hi:h=q:=by
          have:=(zK.mp e).1
          rw[zAz] at this
          omega
         subst hi
         rw[show h-R.length=0 by omega] at e
         cases e
         refine⟨by rw[zB,hbl],fun i hi=>?_⟩
         obtain⟨xs,hx⟩:∃xs,bs[i]? = some xs:=⟨_,zC (by omega)⟩
         exact⟨xs,by rw[zJ,hx];rfl,hbs i xs hx⟩
   . obtain⟨_,ls,R,rfl,hl,RI,fr,ro,s2,hD2⟩:=z
     exact k D R H2 (sm1.trans (SmP.of s2)) (T1.same s2) ⟨ls,hD2,RI⟩ ⟨by rw[<-RI.1,hl],ro⟩
end
end K37
namespace K37
open PySem L2 WM
noncomputable def spSnL:Sp:=fun vs H Q _=>∃(p:Addr)(ps:List Int),vs=[.ref p]/\H p=some (.lst (ps.map V.int))/\(∀x∈ps,0<=x/\x<24)/\ps.length<=24/\∀(H':Hp),zAy H H'->Q (.int (sn ps)) H'
section
variable {P:Program}{w:World}{K:PySem.W.Frag}{mg:Str->Option Value}{base:Heap}
theorem ok_snL {f:Addr}{fd':FuncData}(F:Fun K "set_number" "set_number" sSn f fd') (mSum:mg "sum" = none):zAb P w K mg base CX0 1 f fd' ["places"] spSnL:=by
 refine F.ok scSn (fun vs H Q E h=>?_) (fun cdv A outer s H vs Q E hr h=>?_)
 . obtain⟨p,ps,rfl,_⟩:=h
   rfl
 . obtain⟨p,ps,rfl,hp,rng,hl,k⟩:=h
   refine⟨_,zf (zAT (zAL (zCh rfl) (by rfl) mSum (by decide +kernel) (zE (zA8 (own:=["place"]) (cn:=[]) (ci:=[]) rfl (csc rfl rfl) trivial rfl (zBv (pv 0)) (fun _ _ _ _=>zw (i:=0) (zBn rfl) rfl (Or.inl rfl)) (fun _ _ _ _=>zBP)
    (fun _ _ _ _=>zAc zCN zj (pv 0))) zO))),?_⟩
   refine⟨_,rfl,p,rfl,⟨_,SqL.of hp⟩,[],rfl,fun D hD=>?_⟩
   refine zBm (a:=p) (xs:=ps.map V.int) (fun i ys H4=>ys=((ps.take i).map fun x=>(1:Int)*2 ^ x.toNat).map V.int/\H4=upd H D (.lst ys)) ⟨rfl,rfl⟩ (fun i ys H4 z=>?_) (fun i ys H4 z=>?_) (fun i x ys H4 hx z=>?_) (fun ys H4 z=>?_)
   . obtain⟨_,rfl⟩:=z
     exact SqL.of (by rw[zX (zi hp hD)];exact hp)
   . obtain⟨rfl,_⟩:=z
     rw[zB,zB,zr]
     exact zq (by omega)
   . obtain⟨rfl,rfl⟩:=z
     obtain⟨y,hy,rfl⟩:=int_at hx
     have yr:=rng y (zS hy)
     refine⟨⟨rfl,rfl⟩,?_⟩
     refine zEZ ?_
     refine⟨_,rfl,1,y,rfl,rfl,⟨yr.1,by omega,by decide⟩,zH,?_,zBX⟩
     rw[zGW hy,zN];rfl
   . obtain⟨rfl,rfl⟩:=z
     rw[zB,zY (zI _)]
     exact⟨D,_,rfl,SqL.of zH,k _ (zL hD)⟩
end
theorem zEo:∀{l l':List Nat},l.Nodup->(∀x∈l,x∈l')->l.length<=l'.length
 | [],_,_,_=>zh _
 | x::l,l',nd,h=>by
  obtain⟨h1,h2⟩:=zAN.mp nd
  have hx:=h x zd
  have:=zEo (l:=l) (l':=l'.erase x) h2 fun y hy=>(List.mem_erase_of_ne (fun z=>h1 (by rw[<-z];exact hy))).mpr (h y (zb _ hy))
  rw[List.length_erase_of_mem hx] at this
  have:=List.length_pos_of_mem hx
  rw[zt]
  omega
noncomputable def inA (R:List (List Int)):Nat->List Nat->Nat
 | _,[]=>0
 | t,h::os=>brg R t h+inA R (t+2 ^ h) os
theorem zGY (h:Nat)(os:List Nat):snN (h::os)=2 ^ h+snN os:=by simp[snN]
theorem zEe (h:Nat)(os:List Nat):snN (os++[h])=snN os+2 ^ h:=by simp[snN]
theorem zEs {R:List (List Int)}{h:Nat}:∀{os:List Nat}{t:Nat},inA R t (os++[h])=inA R t os+brg R (t+snN os) h
 | [],t=>by simp[inA,snN]
 | g::os,t=>by
  show brg R t g+inA R (t+2 ^ g) (os++[h])=brg R t g+inA R (t+2 ^ g) os+brg R (t+snN (g::os)) h
  rw[zEs,zGY,Nat.add_assoc t]
  omega
theorem zGX (os:List Nat):sn (os.map fun (p:Nat)=>(p:Int))=((snN os:Nat):Int):=by
 rw[zEE,zBp]
 have:(os.map (Int.toNat∘fun (p:Nat)=>(p:Int)))=os:=by
  conv=>rhs;rw[<-List.map_id os]
  exact zBS fun x _=>by simp
 rw[this]
theorem zH5 {os:List Nat}{n:Nat}(nd:os.Nodup)(h:∀p∈os,p<n):snN os<2 ^ n:=by
 refine Nat.lt_pow_two_of_testBit _ fun j hj=>?_
 rw[zCd nd]
 exact zZ fun z=>by have:=h j z;omega
theorem zIu {os:List Nat}{n h:Nat}(nd:os.Nodup):h∈zAm (snN os) n↔h<n/\h∉os:=by
 rw[zBk,zCd nd,decide_eq_false_iff_not]
theorem zIv {os:List Nat}{n:Nat}(nd:os.Nodup)(hl:os.length<n):zAm (snN os) n≠[]:=by
 intro e
 have:(List.range n).length<=os.length:=zEo List.nodup_range fun x hx=>by
  by_cases c:x∈os
  . exact c
  . have:=(zIu (n:=n) nd).mpr ⟨zAd.mp hx,c⟩
    rw[e] at this;cases this
 rw[zu] at this
 omega
structure zGN (R:List (List Int))(n:Nat)(nu:List Int)(os:List Nat):Prop where
 nd:os.Nodup
 lt:∀p∈os,p<n
 eq:nu.getD 0 0=(inA R 0 os:Nat)+nu.getD (snN os) 0
theorem zGN.nil {R:List (List Int)}{n:Nat}{nu:List Int}:zGN R n nu []:=⟨List.nodup_nil,(fun p h=>by cases h),by simp[inA,snN]⟩
theorem zGN.step {R:List (List Int)}{n h:Nat}{nu:List Int}{os:List Nat}(o:zGN R n nu os)(d:zFx R n nu 0)(hh:h∈zAm (snN os) n)(hb:∀g∈zAm (snN os) n,cst R nu (snN os) h<=cst R nu (snN os) g):zGN R n nu (os++[h]):=by
 obtain⟨h1,h2⟩:=(zIu o.nd).mp hh
 have hlt:=zH5 o.nd o.lt
 refine⟨?_,fun p hp=>?_,?_⟩
 . rw[List.nodup_append]
   exact⟨o.nd,by simp,fun a ha b hb'=>by rw[zk.mp hb'];exact fun z=>h2 (z ▸ ha)⟩
 . rcases zAC.mp hp with hp | hp
   . exact o.lt p hp
   . rw[zk.mp hp];exact h1
 . obtain⟨g,hg,e⟩:=d.ex (snN os) (zh _) hlt (fun z=>by rw[z] at hh;cases hh)
   have e1:=d.le (snN os) (zh _) hlt h hh
   have e2:=hb g hg
   have e3:nu.getD (snN os) 0=cst R nu (snN os) h:=by omega
   rw[o.eq,e3,zEs,zEe,Nat.zero_add]
   unfold cst
   omega
structure Told (ts:List T3)(n:Nat)(R:List (List Int))(nu:List Int)(os:List Nat):Prop where
 sr:zDR ts n R
 dp:zFx R n nu 0
 ow:zGN R n nu os
 ln:os.length=n
noncomputable def zKq (PT P2:Addr):Sp:=fun vs H Q _=>∃(wa:Addr)(n:Nat)(ts:List T3),vs=[.ref wa]/\zBd H wa n ts/\n<=8/\Tb H PT/\Tb2 H P2/\PT≠P2 /\
 ∀(r oa na:Addr)(R:List (List Int))(nu:List Int)(os:List Nat)(H':Hp),SmT H H'->Tb H' PT->Tb2 H' P2->H' r=some (.tup [.ref oa,.ref na])->H' oa=some (.tup ((os.map fun (p:Nat)=>(p:Int)).map V.int))->H' na=some (.tup (nu.map V.int))->Told ts n R nu os->Q (.ref r) H'
noncomputable def zJk:Sp:=fun vs H Q _=>∃(wa ta:Addr)(n:Nat),vs=[.ref wa]/\H wa=some (.tup [.int n,.ref ta])/\n<=8/\Q .non H
section
variable {P:Program}{w:World}{K:PySem.W.Frag}{mg:Str->Option Value}{base:Heap}{PT P2:Addr}
theorem zDO {X:Cx}{st:List Stmt}:PSs X st (fun _ _ _=>False):=fun _ _ _ _ _ _ h=>h.elim
theorem scRtm:zAB ["web"] ["web"] (defScope sRtm):=⟨rfl,rfl,rfl,by decide +kernel,rfl,by decide +kernel,by decide +kernel⟩
theorem ok_rtm {f:Addr}{fd':FuncData}{tk:Tok}(F:Fun K "refuse_too_many" "refuse_too_many" sRtm f fd') (mMT:mg "MOST_PLACES_OF_LEASTS" = some (.int 8 tk)):zAb P w K mg base CX0 1 f fd' ["web"] zJk:=by
 refine F.ok scRtm (fun vs H Q E h=>?_) (fun cdv A outer s H vs Q E hr h=>?_)
 . obtain⟨wa,ta,n,rfl,_⟩:=h
   rfl
 . obtain⟨wa,ta,n,rfl,hwa,h8,q⟩:=h
   refine⟨_,zf (zBz (zAQ zHO (zAK zAp (pv 0) zj (fun _ _=>rfl)) (zLm (v:=.int 8) rfl mMT ⟨tk,rfl⟩) (zAa _)) zDO zAw),?_⟩
   exact⟨_,rfl,wa,_,_,_,rfl,rfl,SqT.of hwa,rfl,_,_,rfl,rfl,_,rfl,ifF (zZ (by omega)) q⟩
theorem zFA:zAB ["web", "sets", "numbers", "order", "taken"] ["web"] (defScope zJz):=⟨rfl,rfl,rfl,by decide +kernel,rfl,by decide +kernel,by decide +kernel⟩
theorem zL1 {f fR fA fN fS fB:Addr}{fd' fdR fdA fdN fdS fdB:FuncData}(F:Fun K "least_order" "least_order" zJz f fd')
 (FR:Fun K "refuse_too_many" "refuse_too_many" sRtm fR fdR) (bR:zAA K fdR ["web"] []) (mR:mg "refuse_too_many" = some (.ref fR)) (GR:zAb P w K mg base CX0 6 fR fdR ["web"] zJk)
 (FA:Fun K "all_sets" "all_sets" zHI fA fdA) (bA:zAA K fdA ["web"] []) (mA:mg "all_sets" = some (.ref fA)) (GA:zAb P w K mg base CX0 6 fA fdA ["web"] (zGV PT))
 (FN:Fun K "least_numbers" "least_numbers" zIB fN fdN) (bN:zAA K fdN ["web", "sets"] []) (mN:mg "least_numbers" = some (.ref fN)) (GN:zAb P w K mg base CX0 6 fN fdN ["web", "sets"] (zHz P2))
 (FS:Fun K "set_number" "set_number" sSn fS fdS) (bS:zAA K fdS ["places"] []) (mS:mg "set_number" = some (.ref fS)) (GS:zAb P w K mg base CX0 6 fS fdS ["places"] spSnL)
 (FB:Fun K "best_next" "best_next" zHH fB fdB) (bB:zAA K fdB ["web", "sets", "numbers", "taken"] []) (mB:mg "best_next" = some (.ref fB)) (GB:zAb P w K mg base CX0 6 fB fdB ["web", "sets", "numbers", "taken"] (zGU P2))
 (mLen:mg "len" = none) (mTuple:mg "tuple" = none):zAb P w K mg base CX0 7 f fd' ["web"] (zKq PT P2):=by
 refine F.ok zFA (fun vs H Q E h=>?_) (fun cdv A outer s H vs Q E hr h=>?_)
 . obtain⟨wa,n,ts,rfl,_⟩:=h
   rfl
 . obtain⟨wa,n,ts,rfl,W,n8,T,T2,ne,k⟩:=h
   obtain⟨ta,tys,hwa,_,_,G⟩:=id W
   have hn1:=G.n1
   refine⟨_,zT (zCI (zn GR hr rfl mR FR.kp bR .nil zAS (zE (pv 0) zO)))
    (zT (zAP (i:=1) zFA.nd rfl (Or.inl rfl) (zn GA hr rfl mA FA.kp bA .nil zAS (zE (pv 0) zO)))
    (zT (zAP (i:=2) zFA.nd rfl (Or.inl rfl) (zn GN hr rfl mN FN.kp bN .nil zAS (zE (pv 0) (zE (pv 1) zO))))
    (zT (zAP (i:=3) zFA.nd rfl (Or.inl rfl) (zB9 zO))
    (zT (zGj PassesOwn.never (zAQ zLq (zAL zAX (by rfl) mLen PySem.boot_len (zE (pv 3) zO)) (zAK zAp (pv 0) zj (fun _ _=>rfl)) (zAa _))
     (zT (zAP (i:=4) zFA.nd rfl (Or.inl rfl) (zn GS hr rfl mS FS.kp bS .nil zAS (zE (pv 3) zO)))
     (zf (zCI (zD4 PySem.F.plainAttrs_list PySem.F.slot_list_append PySem.F.type_list_append zBi (pv 3) (zE (zn GB hr rfl mB FB.kp bB .nil zAS (zE (pv 0) (zE (pv 1) (zE (pv 2) (zE (pv 4) zO))))) zO))))))
    (zf (zAT (zB8 (zE (zBD zAf (by rfl) mTuple (by decide +kernel) (zE (pv 3) zO)) (zE (zBD zAf (by rfl) mTuple (by decide +kernel) (zE (pv 2) zO)) zO))))))))),?_⟩
   refine⟨_,rfl,wa,ta,n,rfl,hwa,n8,?_⟩
   refine⟨_,rfl,wa,(n:Int),ts,rfl,W,T,fun sl R H1 sm1 T1 ST1 SR=>?_⟩
   have hwa1:H1 wa=some (.tup [.int n,.ref ta]):=sm1.get hwa (by intro ps z;cases z)
   have T21:Tb2 H1 P2:=sm1.tab (Ne.symm ne) T2
   have hRl:R.length=n:=by rw[SR.rl];omega
   have h24:∀row∈R,row.length<=24:=fun row hr'=>by
    obtain⟨i,hi,e⟩:=zx hr'
    have:=(SR.ro i row (by rw[zC hi,e])).1
    omega
   refine⟨_,rfl,_,rfl,wa,ta,sl,R,n,rfl,hwa1,ST1,hRl,h24,by omega,n8,T21,fun nl nu H2 hnl sm2 T22 h2 dp=>?_⟩
   refine⟨by show 0<=sizeLine;decide,fun ol hol=>?_⟩
   have hol2:H2 ol=none:=hol
   have s3:=zL (o:=.lst []) hol
   have h3:(upd H2 ol (.lst [])) ol=some (.lst ((([]:List Nat).map fun (p:Nat)=>(p:Int)).map V.int)):=zH
   refine⟨fun m σ H3=>∃(v4:Option V)(os:List Nat),σ=[some (.ref wa),some (.ref sl),some (.ref nl),some (.ref ol),v4]/\m=n-os.length/\SmP P2 H2 H3/\Tb2 H3 P2/\H3 ol=some (.lst ((os.map fun (p:Nat)=>(p:Int)).map V.int))/\zGN R n nu os/\os.length<=n,
    ⟨n,none,[],rfl,rfl,SmP.of s3,T22.same s3,h3,zGN.nil,zh _⟩,?_⟩
   rintro m σ H3 ⟨v4,os,rfl,rfl,sm3,T3,h3o,O,hos⟩
   have hwa3:H3 wa=some (.tup [.int n,.ref ta]):=sm3.get (sm2.get hwa1 (by intro ps z;cases z)) (by intro ps z;cases z)
   have D3:zJd H3 sl nl R nu n:=(⟨ST1.smP sm2,h2,hRl,h24,dp.ln,n8⟩:zJd H2 sl nl R nu n).smP sm3
   refine⟨_,rfl,ol,_,rfl,.inl (SqL.of h3o),_,rfl,wa,_,_,_,rfl,rfl,SqT.of hwa3,rfl,_,_,rfl,rfl,_,rfl,?_⟩
   rw[zB,zB]
   by_cases c:os.length<n
   . refine ifT (zU (by omega)) ⟨fun σ' H'=>∃(v4:Option V)(os':List Nat),σ'=[some (.ref wa),some (.ref sl),some (.ref nl),some (.ref ol),v4]/\os'.length=os.length+1/\SmP P2 H2 H'/\Tb2 H' P2/\H' ol=some (.lst ((os'.map fun (p:Nat)=>(p:Int)).map V.int))/\zGN R n nu os',?_,?_⟩
     . rintro σ' H' ⟨v4',os',rfl,hl',sm',T',h',O'⟩
       exact⟨n-os'.length,by omega,v4',os',rfl,rfl,sm',T',h',O',by omega⟩
     . have hlt:=zH5 O.nd O.lt
       refine⟨_,rfl,ol,_,rfl,h3o,fun x hx=>?_,by rw[zB];omega,fun H4 s4=>?_⟩
       . obtain⟨p,hp,rfl⟩:=zp.mp hx
         have:=O.lt p hp
         omega
       rw[zGX]
       have h4o:=s4 _ _ h3o
       refine⟨_,rfl,.inl ⟨rfl,_,SqL.of h4o⟩,_,rfl,_,rfl,_,rfl,_,rfl,wa,ta,sl,nl,R,nu,n,snN os,rfl,s4 _ _ hwa3,D3.same s4,hlt,zIv O.nd c,T3.same s4,fun h H5 hh hb sm5 T5=>?_⟩
       have h5o:H5 ol=some (.lst ((os.map fun (p:Nat)=>(p:Int)).map V.int)):=sm5.get h4o (by intro ps z;cases z)
       refine⟨ol,_,.int h,rfl,rfl,h5o,by rw[zB,zB];exact zq (by omega),?_⟩
       refine⟨_,os++[h],rfl,by rw[zM];rfl,((sm3.trans (SmP.of s4)).trans sm5).chg hol2,?_,by rw[zH,zN,zN];rfl,O.step dp hh hb⟩
       exact T5.keep (fun o e=>by rw[zX (fun z=>by obtain⟨ps,hp,_⟩:=T5;rw[z,h5o] at hp;cases hp)];exact e) (fun c φ e=>by rw[zX (fun z=>by rw[z,h5o] at e;cases e)];exact e)
   . refine ifF (zZ (by omega)) ?_
     refine⟨_,rfl,ol,_,rfl,.inl ⟨SqL.of h3o,fun oa hoa=>?_⟩⟩
     have s5:=zL (o:=.tup ((os.map fun (p:Nat)=>(p:Int)).map V.int)) hoa
     refine⟨_,rfl,nl,_,rfl,.inl ⟨SqL.of (s5 _ _ D3.nm),fun na hna=>?_⟩⟩
     have s6:=zL (o:=.tup (nu.map V.int)) hna
     refine⟨by show 2<=sizeLine;decide,fun r hr'=>?_⟩
     have s7:=zL (o:=.tup [.ref oa,.ref na]) hr'
     have s57:=(s5.trans s6).trans s7
     have T7:Tb H3 PT:=sm3.tab ne (sm2.tab ne T1)
     exact k r oa na R nu os _ ((sm1.smT.trans (sm2.trans sm3).smT).trans (SmT.of s57)) (T7.same s57) (T3.same s57) zH (s7 _ _ (s6 _ _ zH)) (s7 _ _ zH) ⟨SR,dp,O,by omega⟩
end
end K37
namespace K37
open PySem L2 WM
structure NN (R:List (List Int)):Prop where
 nn:∀row∈R,∀m∈row,0<=m
 r24:∀row∈R,row.length<=24
 n8:R.length<=8
noncomputable def zJq:Sp:=fun vs H Q _=>∃(sl:Addr)(R:List (List Int))(t h:Nat),vs=[.ref sl,.int t,.int h]/\zBL H sl R/\NN R/\h<R.length/\∀H',zAy H H'->Q (.int (brg R t h:Nat)) H'
noncomputable def zKs:Sp:=fun vs H Q _=>∃(sl oa:Addr)(R:List (List Int))(os:List Nat),vs=[.ref sl,.ref oa]/\zBL H sl R/\NN R/\H oa=some (.tup ((os.map fun (p:Nat)=>(p:Int)).map V.int))/\(∀p∈os,p<R.length)/\os.length<=24/\∀H',zAy H H'->Q (.int (inA R 0 os:Nat)) H'
theorem zGs {R:List (List Int)}{os:List Nat}{i h:Nat}(e:os[i]? = some h):inA R 0 (os.take (i+1))=inA R 0 (os.take i)+brg R (snN (os.take i)) h/\snN (os.take (i+1))=snN (os.take i)+2 ^ h:=by
 rw[zy,e]
 show inA R 0 (os.take i++[h])=_/\snN (os.take i++[h])=_
 rw[zEs,zEe,Nat.zero_add]
 exact⟨rfl,rfl⟩
section
variable {P:Program}{w:World}{K:PySem.W.Frag}{mg:Str->Option Value}{base:Heap}
theorem scBrt:zAB ["_law_masks_here", "_law_some", "_law_hub"] ["_law_masks_here", "_law_some", "_law_hub"] (defScope zLb):=⟨rfl,rfl,rfl,by decide +kernel,rfl,by decide +kernel,by decide +kernel⟩
theorem zIT {f:Addr}{fd':FuncData}(F:Fun K "_law_brought" "_law_brought" zLb f fd') (mLen:mg "len" = none):zAb P w K mg base CX0 1 f fd' ["_law_masks_here", "_law_some", "_law_hub"] zJq:=by
 refine F.ok scBrt (fun vs H Q E h=>?_) (fun cdv A outer s H vs Q E hr h=>?_)
 . obtain⟨sl,R,t,h,rfl,_⟩:=h
   rfl
 . obtain⟨sl,R,t,h,rfl,⟨rs,hsl,RI⟩,N,hh,k⟩:=h
   refine⟨_,zf (zAT (zAL zAX (by rfl) mLen PySem.boot_len (zE (zA8 (own:=["_law_mask"]) (cn:=["_law_some"]) (ci:=[1]) rfl (csc rfl rfl) ⟨rfl,rfl,rfl,trivial⟩ rfl (zBv (zAK zAU (pv 0) (pv 2) (fun _ _=>rfl))) (fun _ _ _ _=>zw (i:=0) (zBn rfl) rfl (Or.inl rfl))
    (fun _ _ _ _=>zCH (PW.pt (zGg (zAQ zHO (pv 0) zj (zAa _)) (zEj (zAQ zCU (zAc zFK (pv 0) (pv 1)) zj (zAa _)))))) (fun _ _ _ _=>pv 0)) zO))),?_⟩
   have hr':h<rs.length:=by rw[RI.1];exact hh
   have er:rs[h]? = some rs[h]:=zC hr'
   have eR:R[h]? = some R[h]:=zC hh
   have hrow:=RI.2 h _ _ er eR
   have egd:R.getD h []=R[h]:=by rw[zD,eR];rfl
   have hm:R[h]∈R:=zBA hh
   generalize hl:rs[h]=l at er hrow
   generalize hn:R[h]=ns at eR hrow egd hm
   refine⟨_,rfl,_,rfl,sl,_,_,.ref l,rfl,rfl,SqL.of hsl,zBx (by rw[zJ,er];rfl),l,rfl,⟨_,SqL.of hrow⟩,[.int t],rfl,fun D hD=>?_⟩
   have nlD:l≠D:=zi hrow hD
   refine zBm (a:=l) (xs:=ns.map V.int) (fun i ys H4=>ys=((ns.take i).filter (cfB t)).map V.int/\H4=upd H D (.lst ys)) ⟨rfl,rfl⟩ (fun i ys H4 z=>?_) (fun i ys H4 z=>?_) (fun i x ys H4 hx z=>?_) (fun ys H4 z=>?_)
   . obtain⟨_,rfl⟩:=z
     exact SqL.of (by rw[zX nlD];exact hrow)
   . obtain⟨rfl,_⟩:=z
     rw[zB]
     refine zAD (zv _ _) ?_
     rw[zr]
     have:=N.r24 ns hm
     exact zq (by omega)
   . obtain⟨rfl,rfl⟩:=z
     obtain⟨m,hm',rfl⟩:=int_at hx
     have m0:=N.nn ns hm m (zS hm')
     have st:(ns.take (i+1)).filter (cfB t)=(ns.take i).filter (cfB t)++[m].filter (cfB t):=by rw[zy,hm',zAl];rfl
     refine⟨⟨rfl,rfl⟩,?_⟩
     refine⟨_,rfl,_,_,rfl,rfl,_,rfl,?_⟩
     by_cases c:m=0
     . refine ifF (zZ (by omega)) ?_
       refine zD2 ⟨?_,rfl⟩
       rw[st,zAG (by unfold cfB;rw[zU c];simp),zAO,zo]
     . refine ifT (zU (by omega)) ?_
       refine⟨_,rfl,_,rfl,_,_,rfl,rfl,rfl,_,rfl,?_⟩
       rw[zCB]
       by_cases c2:PySem.Builtin.bitAnd m t=0
       . refine ifT (zU c2) ?_
         refine⟨_,rfl,zH,?_,zBX⟩
         rw[st,zAV (by unfold cfB;rw[zZ c,zU c2];rfl),zAO,zN];rfl
       . refine ifF (zZ c2) ⟨?_,rfl⟩
         rw[st,zAG (by unfold cfB;rw[zZ c2,Bool.and_false];simp),zAO,zo]
   . obtain⟨rfl,rfl⟩:=z
     rw[zB,zY (zI _)]
     refine⟨D,_,rfl,.inl (SqL.of zH),?_⟩
     rw[zB]
     have:(ns.filter (cfB (t:Int))).length=brg R t h:=by unfold brg;rw[egd]
     rw[this]
     exact k _ (zL hD)
theorem zEH:zAB ["_law_masks_here", "_law_order_here", "_law_some", "_law_found", "_law_hub"] ["_law_masks_here", "_law_order_here"] (defScope zJ1):=⟨rfl,rfl,rfl,by decide +kernel,rfl,by decide +kernel,by decide +kernel⟩
theorem zL7 {f fB:Addr}{fd' fdB:FuncData}(F:Fun K "_law_in_all" "_law_in_all" zJ1 f fd') (FB:Fun K "_law_brought" "_law_brought" zLb fB fdB) (bB:zAA K fdB ["_law_masks_here", "_law_some", "_law_hub"] []) (mB:mg "_law_brought" = some (.ref fB)) (mLen:mg "len" = none):zAb P w K mg base CX0 2 f fd' ["_law_masks_here", "_law_order_here"] zKs:=by
 have GB:zAb P w K mg base CX0 1 fB fdB ["_law_masks_here", "_law_some", "_law_hub"] zJq:=zIT FB mLen
 refine F.ok zEH (fun vs H Q E h=>?_) (fun cdv A outer s H vs Q E hr h=>?_)
 . obtain⟨sl,oa,R,os,rfl,_⟩:=h
   rfl
 . obtain⟨sl,oa,R,os,rfl,ST,N,hoa,hos,hl,k⟩:=h
   refine⟨_,zT (zAP (i:=2) zEH.nd rfl (Or.inl rfl) zj) (zT (zAP (i:=3) zEH.nd rfl (Or.inl rfl) zj)
    (zT (zBY PassesOwn.never rfl (zC0 (pv 1)) (zw (i:=4) zEH.nd rfl (Or.inl rfl))
     (zT (zAP (i:=3) zEH.nd rfl (Or.inl rfl) (zAc zBe (pv 3) (zn GB hr rfl mB FB.kp bB .nil zAS (zE (pv 0) (zE (pv 2) (zE (pv 4) zO))))))
     (zf (zAP (i:=2) zEH.nd rfl (Or.inl rfl) (zAc zBe (pv 2) (zAc zCN zj (pv 4)))))))
    (zf (zAT (pv 3))))),?_⟩
   refine⟨_,rfl,oa,rfl,⟨_,SqT.of hoa⟩,zGE (K:=K) (a:=oa) (xs:=(os.map fun (p:Nat)=>(p:Int)).map V.int) (fun i σ H2=>∃v4:Option V,σ=[some (.ref sl),some (.ref oa),some (.int (snN (os.take i):Nat)),some (.int (inA R 0 (os.take i):Nat)),v4]/\zAy H H2) ⟨_,rfl,zAy.refl _⟩ (fun i σ H2 _ z=>?_) (fun i y σ H2 hy z=>?_) (fun σ H2 z=>?_)⟩
   . obtain⟨_,_,s2⟩:=z
     exact SqT.of (s2 _ _ hoa)
   . obtain⟨v4,rfl,s2⟩:=z
     obtain⟨y',hy',rfl⟩:=int_at hy
     rw[zJ] at hy'
     obtain⟨h,hh,rfl⟩:∃h:Nat,os[i]? = some h/\(h:Int)=y':=by
      cases e:os[i]? with
      | none=>rw[e] at hy';cases hy'
      | some h=>rw[e] at hy';exact⟨h,rfl,zP hy'⟩
     have hlt:=hos h (zS hh)
     have h8:=N.n8
     obtain⟨e1,e2⟩:=zGs (R:=R) hh
     refine⟨_,rfl,_,rfl,_,rfl,_,rfl,sl,R,snN (os.take i),h,rfl,ST.same s2,N,hlt,fun H3 s3=>?_⟩
     refine⟨_,_,rfl,rfl,?_⟩
     refine⟨_,rfl,_,rfl,1,(h:Int),rfl,rfl,⟨by omega,by omega,by decide⟩,_,_,rfl,rfl,?_⟩
     refine⟨some (.int h),?_,s2.trans s3⟩
     rw[zCG,e1,e2]
     rfl
   . obtain⟨v4,rfl,s2⟩:=z
     rw[zB,zB,zY (zI _)]
     exact⟨_,rfl,k H2 s2⟩
end
end K37
namespace K37
open PySem L2 WM
theorem zLW (t h:Nat):(t:Int)/2 ^ ((h:Int)).toNat=((t >>> h:Nat):Int):=by
 rw[zAF,Nat.shiftRight_eq_div_pow,Int.natCast_ediv,Int.natCast_pow];rfl
theorem zJS {t h:Nat}:(t >>> h) &&& 1=0↔t.testBit h=false:=by
 have e:=Nat.testBit_shiftRight (i:=h) (j:=0) t
 rw[Nat.add_zero] at e
 rw[<-e,Nat.testBit_zero,Nat.and_one_is_mod,decide_eq_false_iff_not]
 omega
theorem zG2 (t h:Nat):decide (PySem.Builtin.bitAnd ((t:Int)/2 ^ ((h:Int)).toNat) 1=0) = !t.testBit h:=by
 rw[zLW,show (1:Int)=((1:Nat):Int) from rfl,zDY]
 by_cases e:t.testBit h=false
 . rw[e]
   exact zU (by rw[zJS.mpr e];rfl)
 . rw[Bool.not_eq_false] at e
   rw[e]
   refine zZ fun z=>?_
   have z':(t >>> h) &&& 1=0:=by omega
   rw[zJS.mp z'] at e
   cases e
noncomputable def zKr:Sp:=fun vs H Q _=>∃(sl:Addr)(R:List (List Int)),vs=[.ref sl]/\zBL H sl R/\NN R/\1<=R.length/\∀(nl:Addr)(nu:List Int)(H':Hp),zAy H H'->H' nl=some (.lst (nu.map V.int))->zFx R R.length nu 0->Q (.ref nl) H'
section
variable {P:Program}{w:World}{K:PySem.W.Frag}{mg:Str->Option Value}{base:Heap}
theorem zBL.len {H:Hp}{sl:Addr}{R:List (List Int)}(h:zBL H sl R):∃rs:List Addr,H sl=some (.lst (rs.map V.ref))/\(rs.map V.ref).length=R.length:=by
 obtain⟨rs,a,b,_⟩:=h
 exact⟨rs,a,by rw[zB,b]⟩
theorem zFB:zAB ["_law_masks_here", "_law_n", "_law_least_here", "_law_some", "_law_rest"] ["_law_masks_here"] (defScope zJ0):=⟨rfl,rfl,rfl,by decide +kernel,rfl,by decide +kernel,by decide +kernel⟩
theorem zL3 {f fB:Addr}{fd' fdB:FuncData}(F:Fun K "_law_least" "_law_least" zJ0 f fd') (FB:Fun K "_law_brought" "_law_brought" zLb fB fdB) (bB:zAA K fdB ["_law_masks_here", "_law_some", "_law_hub"] []) (mB:mg "_law_brought" = some (.ref fB)) (mLen:mg "len" = none) (mRange:mg "range" = none) (mMin:mg "min" = none):zAb P w K mg base CX0 2 f fd' ["_law_masks_here"] zKr:=by
 have GB:zAb P w K mg base CX0 1 fB fdB ["_law_masks_here", "_law_some", "_law_hub"] zJq:=zIT FB mLen
 refine F.ok zFB (fun vs H Q E h=>?_) (fun cdv A outer s H vs Q E hr h=>?_)
 . obtain⟨sl,R,rfl,_⟩:=h
   rfl
 . obtain⟨sl,R,rfl,ST,N,n1,k⟩:=h
   obtain⟨rs,hsl,hrl⟩:=ST.len
   obtain⟨n,en⟩:∃n,n=R.length:=⟨_,rfl⟩
   rw[<-en] at n1 k hrl
   have n8:n<=8:=by rw[en];exact N.n8
   have p8:=zDH n8
   have p1:2<=2 ^ n:=zAE (by decide:2<=2 ^ 1) (zBf (by decide) n1)
   refine⟨_,zT (zAP (i:=1) zFB.nd rfl (Or.inl rfl) (zAL zAX (by rfl) mLen PySem.boot_len (zE (pv 0) zO)))
    (zT (zAP (i:=2) zFB.nd rfl (Or.inr rfl) (zAc zIO (zB9 (zE zj zO)) (zAc zCN zj (pv 1))))
    (zT (zBY PassesOwn.never rfl (zFF rfl mRange (zE (zAc zEM (zAc zCN zj (pv 1)) zj) (zE (zEm (zFH zDM zj) (fun σ H Q q=>⟨1,rfl,q⟩)) (zE (zEm (zFH zDM zj) (fun σ H Q q=>⟨1,rfl,q⟩)) zO)))) (zw (i:=3) zFB.nd rfl (Or.inr rfl))
     (zT (zDe (i:=4) (own:=["_law_hub"]) (cn:=["_law_some"]) (ci:=[3]) zFB.nd rfl (Or.inl rfl) rfl (csc rfl rfl) ⟨rfl,rfl,rfl,trivial⟩ rfl (zAZ rfl mRange (zE (pv 1) zO)) (fun _ _ _ _=>zw (i:=0) (zBn rfl) rfl (Or.inl rfl))
      (fun _ _ _ _=>zCH (zAQ zCU (zAc zFK (zAc zKz (pv 1) (pv 0)) zj) zj (zAa _))) (fun _ _ _ _=>pv 0))
     (zf (zCM (zAL (zFi rfl) (by rfl) mMin (by decide +kernel) (zE (zA8 (own:=["_law_hub"]) (cn:=["_law_masks_here", "_law_some", "_law_least_here"]) (ci:=[0,3,2]) rfl (csc rfl rfl) ⟨rfl,rfl,rfl,rfl,rfl,rfl,rfl,rfl,rfl,trivial⟩ rfl (zBv (pv 4)) (fun _ _ _ _=>zw (i:=0) (zBn rfl) rfl (Or.inl rfl)) (fun _ _ _ _=>zBP)
      (fun _ _ _ _=>zAc zBe (zn GB hr rfl mB FB.kp bB .nil zAS (zE (pv 1) (zE (pv 2) (zE (pv 0) zO)))) (zAK zC7 (pv 3) (zAc zBe (pv 2) (zAc zCN zj (pv 0))) (fun _ _=>rfl)))) zO)) (zCR (pv 2) (pv 3) zBb)))))
    (zf (zAT (pv 2))))),?_⟩
   refine⟨_,rfl,sl,_,rfl,.inl (SqL.of hsl),?_⟩
   rw[hrl]
   refine⟨by show 1<=sizeLine;decide,fun l0 hl0=>?_⟩
   refine⟨_,rfl,1,(n:Int),rfl,rfl,⟨by omega,by omega,by decide⟩,?_⟩
   refine⟨l0,((2 ^ n:Nat):Int),_,rfl,by rw[<-zCG],zH,by omega,by omega,?_,fun nl hnl=>?_⟩
   . have:sizeLine=16777216:=rfl
     show 1*((2 ^ n:Nat):Int).toNat<=sizeLine
     omega
   rw[zAF,zGw]
   have hnl0:H nl=none:=zAy.none (zL hl0) hnl
   have s1:zAy H (upd (upd H l0 (.lst [.int 0])) nl (.lst ((List.replicate (2 ^ n) (0:Int)).map V.int))):=(zL hl0).trans (zL hnl)
   have h1:(upd (upd H l0 (.lst [.int 0])) nl (.lst ((List.replicate (2 ^ n) (0:Int)).map V.int))) nl=some (.lst ((List.replicate (2 ^ n) (0:Int)).map V.int)):=zH
   generalize (upd (upd H l0 (.lst [.int 0])) nl (.lst ((List.replicate (2 ^ n) (0:Int)).map V.int)))=H1 at s1 h1 ⊢
   refine⟨_,rfl,1,(n:Int),rfl,rfl,⟨by omega,by omega,by decide⟩,_,_,rfl,rfl,?_⟩
   refine⟨((2 ^ n:Nat):Int)-2,-1,by rw[<-zCG],⟨by omega,by omega,by omega,by omega⟩,zGv (lo:=((2 ^ n:Nat):Int)-2) (n:=(((2 ^ n:Nat):Int)-2 - -1).toNat) (fun i σ H2=>∃(v3 v4:Option V)(nu:List Int),σ=[some (.ref sl),some (.int n),some (.ref nl),v3,v4]/\zAy H H2/\H2 nl=some (.lst (nu.map V.int))/\zFx R n nu (2 ^ n-1-i))
    ⟨_,_,_,rfl,s1,h1,zFx.start R n⟩ (fun i σ H2 hi z=>?_) (fun σ H2 z=>?_)⟩
   . obtain⟨v3,v4,nu,rfl,s2,h2,dp⟩:=z
     obtain⟨t,et⟩:∃t:Nat,t=2 ^ n-2-i:=⟨_,rfl⟩
     have eI:((2 ^ n:Nat):Int)-2-(i:Int)=(t:Int):=by omega
     rw[eI]
     rw[show 2 ^ n-1-i=t+1 by omega] at dp
     have tlt:t<2 ^ n-1:=by omega
     refine⟨_,rfl,(n:Int),rfl,by omega,by omega,[.int t],rfl,fun D hD=>?_⟩
     refine zA0 (lo:=0) (n:=((n:Int)).toNat) (fun q ys H4=>q<=n/\ys=(zAm t q).map (fun (p:Nat)=>V.int p)/\H4=upd H2 D (.lst ys)) ⟨zh _,rfl,rfl⟩ (fun q ys H4 z=>?_) (fun q ys H4 hq z=>?_) (fun ys H4 z=>?_)
     . obtain⟨hq,rfl,_⟩:=z
       rw[zB]
       refine zAD (zv _ _) ?_
       rw[zu]
       exact zq (by omega)
     . obtain⟨_,rfl,rfl⟩:=z
       rw[zAI]
       have st:zAm t (q+1)=zAm t q++[q].filter fun p=>!t.testBit p:=by unfold zAm;rw[zBR,zAl]
       refine⟨⟨rfl,rfl⟩,?_⟩
       refine⟨_,rfl,_,rfl,(t:Int),(q:Int),rfl,rfl,by omega,_,_,rfl,rfl,rfl,_,rfl,?_⟩
       dsimp only
       rw[zCB,zG2]
       cases c:t.testBit q with
       | false=>
        refine zGq ?_
        refine⟨_,rfl,zH,by omega,?_,zBX⟩
        rw[st,zAV (by rw[c];rfl),zAO,zN];rfl
       | true=>
        refine zD2 ⟨by omega,?_,rfl⟩
        rw[st,zAG (by rw[c];decide),zAO,zo]
     . obtain⟨_,rfl,rfl⟩:=z
       rw[zAF]
       have s3:=zL (o:=.lst ((zAm t n).map fun (p:Nat)=>V.int p)) hD
       have h3:(upd H2 D (.lst ((zAm t n).map fun (p:Nat)=>V.int p))) D=some (.lst ((zAm t n).map fun (p:Nat)=>V.int p)):=zH
       generalize upd H2 D (.lst ((zAm t n).map fun (p:Nat)=>V.int p))=H3 at s3 h3 ⊢
       have h3n:=s3 _ _ h2
       refine⟨_,rfl,D,rfl,⟨_,SqL.of h3⟩,[.ref sl,.int t,.ref nl],rfl,fun D2 hD2=>?_⟩
       refine zBm (a:=D) (xs:=(zAm t n).map fun (p:Nat)=>V.int p) (fun j ys H5=>ys=(((zAm t n).take j).map fun h=>cst R nu t h).map V.int/\zAy H3 H5/\H5 D2=some (.lst ys)) ⟨rfl,zL hD2,zH⟩ (fun j ys H5 z=>?_) (fun j ys H5 z=>?_) (fun j x ys H5 hx z=>?_) (fun ys H5 z=>?_)
       . obtain⟨_,s5,_⟩:=z
         exact SqL.of (s5 _ _ h3)
       . obtain⟨rfl,_⟩:=z
         rw[zB,zB,zr]
         have:(zAm t n).length<=n:=by unfold zAm;exact zAE (zv _ _) (by rw[zu];exact zI _)
         exact zq (by omega)
       . obtain⟨rfl,s5,h5⟩:=z
         obtain⟨h,hh,rfl⟩:∃h:Nat,(zAm t n)[j]? = some h/\V.int h=x:=by
          rw[zJ] at hx
          cases e:(zAm t n)[j]? with
          | none=>rw[e] at hx;cases hx
          | some h=>rw[e] at hx;exact⟨h,rfl,zP hx⟩
         obtain⟨q1,q2⟩:=zBk.mp (zS hh)
         have hlt:=zEW (t:=t) (n:=n) (by omega) q1 q2
         refine⟨⟨rfl,rfl⟩,?_⟩
         refine zEZ ?_
         refine⟨_,rfl,_,rfl,_,rfl,sl,R,t,h,rfl,((ST.same s2).same s3).same s5,N,by omega,fun H6 s6=>?_⟩
         refine⟨_,rfl,_,rfl,_,rfl,1,(h:Int),rfl,rfl,⟨by omega,by omega,by decide⟩,_,_,rfl,rfl,?_⟩
         refine⟨nl,_,((t+2 ^ h:Nat):Int),.int (nu.getD (t+2 ^ h) 0),rfl,by rw[Int.natCast_add,<-zCG],SqL.of (s6 _ _ (s5 _ _ h3n)),zBx (by rw[zJ,zD,zC (by rw[dp.ln];exact hlt)];rfl),?_⟩
         refine⟨_,_,rfl,rfl,s6 _ _ h5,?_,zAr (s5.trans s6) hD2,zH⟩
         rw[zy,hh,zN,zN];rfl
       . obtain⟨rfl,s5,h5⟩:=z
         rw[zB,zY (zI _)] at h5
         refine⟨D2,_,rfl,SqL.of h5,by simpa using zGu tlt,fun M hM hb=>?_⟩
         obtain⟨h,hh,rfl⟩:=zp.mp hM
         refine⟨_,rfl,_,rfl,nl,_,(t:Int),t,rfl,rfl,s5 _ _ h3n,zCp (by omega) (by rw[zB,dp.ln];omega),?_⟩
         have est:(nu.map V.int).set t (V.int (cst R nu t h))=(nu.set t (cst R nu t h)).map V.int:=by rw[List.map_set]
         rw[est]
         refine⟨_,_,nu.set t (cst R nu t h),rfl,zAr ((s2.trans s3).trans s5) hnl0,zH,?_⟩
         rw[show 2 ^ n-1-(i+1)=t by omega]
         exact dp.step tlt hh fun g hg=>hb _ (zp.mpr ⟨g,hg,rfl⟩)
   . obtain⟨v3,v4,nu,rfl,s2,h2,dp⟩:=z
     rw[show 2 ^ n-1-(((2 ^ n:Nat):Int)-2 - -1).toNat=0 by omega] at dp
     exact⟨_,rfl,k nl nu H2 s2 h2 (en ▸ dp)⟩
end
end K37
namespace K37
open PySem L2 WM
noncomputable def zGD (x:Nat)(l:List Nat)(i:Nat):List Nat:=l.take i++x::l.drop i
noncomputable def zCg (x:Nat)(l:List Nat):List (List Nat):=(List.range (l.length+1)).map (zGD x l)
noncomputable def zAv:Nat->List (List Nat)
 | 0=>[[]]
 | n+1=>(zAv n).flatMap (zCg n)
theorem zB1:∀{n:Nat}{l:List Nat},l∈zAv n↔l.Perm (List.range n)
 | 0,l=>by
  rw[zAv,zk,List.range_zero,List.perm_nil]
 | n+1,l=>by
  rw[zAv,List.mem_flatMap]
  constructor
  . rintro ⟨k,hk,hl⟩
    obtain⟨i,hi,rfl⟩:=zp.mp hl
    have hk:=zB1.mp hk
    unfold zGD
    rw[zBR]
    refine List.perm_middle.trans ?_
    rw[List.take_append_drop]
    exact (List.Perm.cons n hk).trans (List.perm_append_singleton n _).symm
  . intro h
    have hm:n∈l:=h.mem_iff.mpr (by rw[zAd];omega)
    obtain⟨a,b,rfl⟩:=List.append_of_mem hm
    have h':(a++b).Perm (List.range n):=by
     have e:(n::(a++b)).Perm (n::List.range n):=(List.perm_middle.symm.trans h).trans (by rw[zBR];exact List.perm_append_singleton n _)
     exact e.cons_inv
    refine⟨a++b,zB1.mpr h',zp.mpr ⟨a.length,by rw[zAd,zM];omega,?_⟩⟩
    unfold zGD
    rw[List.take_left,List.drop_left]
noncomputable def zKg (R:List (List Int))(n:Nat)(nu:List Int):Prop:=∀t,t<2 ^ n->∀h∈zAm t n,nu.getD t 0<=cst R nu t h
theorem zK7 {R:List (List Int)}{n:Nat}{nu:List Int}(d:zKg R n nu):∀{os:List Nat}{t:Nat},t<2 ^ n->os.Nodup->(∀p∈os,p<n/\t.testBit p=false)->nu.getD t 0<=(inA R t os:Nat)+nu.getD (t+snN os) 0
 | [],t,_,_,_=>by simp[inA,snN]
 | h::os,t,ht,nd,hp=>by
  obtain⟨n1,n2⟩:=zAN.mp nd
  obtain⟨h1,h2⟩:=hp h zd
  have e1:=d t ht h (zBk.mpr ⟨h1,h2⟩)
  have e2:=zK7 d (os:=os) (zEW ht h1 h2) n2 fun p hp'=>by
   obtain⟨a,b⟩:=hp p (zb _ hp')
   refine⟨a,?_⟩
   rw[Nat.add_comm,zGQ h t p h2,b,zZ (fun z:p=h=>n1 (z ▸ hp')),Bool.false_or]
  rw[zGY]
  unfold cst at e1
  rw[show t+(2 ^ h+snN os)=t+2 ^ h+snN os by omega]
  show _<=((brg R t h+inA R (t+2 ^ h) os:Nat):Int)+_
  omega
theorem zLT {n:Nat}{os:List Nat}(nd:os.Nodup)(h:∀p,p∈os↔p<n):snN os=2 ^ n-1:=by
 apply Nat.eq_of_testBit_eq
 intro j
 rw[zCd nd,Nat.testBit_two_pow_sub_one]
 exact decide_eq_decide.mpr (h j)
end K37
namespace K37
open PySem L2 WM
theorem zCD (a:Int):decide (oV (some a)=V.non)=false:=zZ (by intro z;cases z)
noncomputable def zLP:Sp:=fun vs H Q _=>∃a b:Option Int,vs=[oV a,oV b]/\Q (oV (oadd a b)) H
noncomputable def spLes:Sp:=fun vs H Q _=>∃a b:Option Int,vs=[oV a,oV b]/\Q (oV (oles a b)) H
noncomputable def zCi (H:Hp)(rs:List Addr)(M:List (List (Option Int))):Prop:=rs.length=M.length/\rs.Nodup/\∀(i:Nat)(r:Addr)(row:List (Option Int)),rs[i]? = some r->M[i]? = some row->H r=some (.lst (row.map oV))
theorem zCi.keep {H H':Hp}{rs:List Addr}{M:List (List (Option Int))}(h:zCi H rs M)(k:∀b ys,H b=some (.lst ys)->b∈rs->H' b=some (.lst ys)):zCi H' rs M:=⟨h.1,h.2.1,fun i r row a b=>k r _ (h.2.2 i r row a b) (zS a)⟩
theorem zCi.get {H:Hp}{rs:List Addr}{M:List (List (Option Int))}{n a:Int}(h:zCi H rs M)(S:Sqm n M)(ha:0<=a)(ha':a<n):∃r row,rs[a.toNat]? = some r/\M[a.toNat]? = some row/\M.getD a.toNat []=row/\row.length=n.toNat/\H r=some (.lst (row.map oV))/\∀y,fnl row y=mat M a y:=by
 obtain⟨row,h1,h2,h3⟩:=S.row ha ha'
 have hl:a.toNat<rs.length:=by rw[h.1,S.ln];omega
 exact⟨rs[a.toNat],row,zC hl,h1,h2,h3,h.2.2 _ _ _ (zC hl) h1,fun y=>by unfold mat;rw[if_pos ha,h2]⟩
theorem zCi.set {H:Hp}{rs:List Addr}{M:List (List (Option Int))}{n a b:Int}{v:Option Int}{r:Addr}{row:List (Option Int)}(h:zCi H rs M)(S:Sqm n M)(ha:0<=a)(ha':a<n)(h1:rs[a.toNat]? = some r)(h2:M[a.toNat]? = some row) :
 zCi (upd H r (.lst ((row.map oV).set b.toNat (oV v)))) rs (zHk M a b v):=by
 refine⟨by unfold zHk;rw[zBh];exact h.1,h.2.1,fun i r' row' a1 a2=>?_⟩
 unfold zHk at a2
 rw[List.getElem?_set] at a2
 have hlt:a.toNat<M.length:=(zK.mp h2).1
 by_cases e:a.toNat=i
 . subst e
   rw[if_pos rfl,if_pos hlt] at a2
   rw[h1] at a1
   cases a1
   cases a2
   rw[zH,zD,h2,Option.getD_some,List.map_set]
 . rw[if_neg e] at a2
   have hne:r'≠r:=fun z=>by
    subst z
    exact e ((List.getElem?_inj ((zK.mp h1).1) h.2.1).mp (h1.trans a1.symm))
   rw[zX hne]
   exact h.2.2 i r' row' a1 a2
theorem zGd {row:List (Option Int)}{n y:Int}(hl:row.length=n.toNat)(h0:0<=y)(h1:y<n):atI (row.map oV) y=some (oV (fnl row y)):=by
 have hlt:y.toNat<row.length:=by omega
 refine zBG h0 ?_
 rw[zJ,zC hlt]
 unfold fnl
 rw[if_pos h0,zD,zC hlt];rfl
noncomputable def zIF (a:Int)(j:Nat):List (Option Int):=(List.range j).map fun (b:Nat)=>if a=(b:Int) then some 0 else none
theorem zFD (a:Int)(j:Nat):zIF a (j+1)=zIF a j++[if a=(j:Int) then some 0 else none]:=by unfold zIF;rw[zBR,zN];rfl
theorem zGe (a:Int)(j:Nat):(zIF a j).length=j:=by unfold zIF;rw[zB,zu]
theorem zJ3 {a:Int}{j:Nat}{y:Int}(h0:0<=y)(h1:y<j):fnl (zIF a j) y=if a=y then some 0 else none:=by
 unfold fnl zIF
 rw[if_pos h0,zD,zJ,zBs (by omega)]
 show (if a=((y.toNat:Nat):Int) then some 0 else none)=_
 rw[show ((y.toNat:Nat):Int)=y by omega]
noncomputable def spFar:Sp:=fun vs H Q _=>∃(wa:Addr)(n:Int)(ts:List T3),vs=[.ref wa]/\zBd H wa n ts /\
 ∀(fl:Addr)(rs:List Addr)(M:List (List (Option Int)))(H':Hp),zAy H H'->H' fl=some (.lst (rs.map V.ref))->zCi H' rs M->Rows ts n M->Q (.ref fl) H'
section
variable {P:Program}{w:World}{K:PySem.W.Frag}{mg:Str->Option Value}{base:Heap}
theorem scAdd:zAB ["_law_one", "_law_other"] ["_law_one", "_law_other"] (defScope sAdd):=⟨rfl,rfl,rfl,by decide +kernel,rfl,by decide +kernel,by decide +kernel⟩
theorem zK3 {f:Addr}{fd':FuncData}(F:Fun K "_law_added" "_law_added" sAdd f fd'):zAb P w K mg base CX0 1 f fd' ["_law_one", "_law_other"] zLP:=by
 refine F.ok scAdd (fun vs H Q E h=>?_) (fun cdv A outer s H vs Q E hr h=>?_)
 . obtain⟨a,b,rfl,_⟩:=h
   rfl
 . obtain⟨a,b,rfl,k⟩:=h
   refine⟨_,zf (zAT (zC2 (PW.pt (zHK (zAQ zC3 (pv 0) zBy (zAa _)) (zEJ (zAQ zC3 (pv 1) zBy (zAa _))))) zBy (zAc zBe (pv 0) (pv 1)))),?_⟩
   cases a with
   | none=>exact⟨_,rfl,rfl,_,rfl,ifT (zU rfl) (ifT rfl k)⟩
   | some a=>
    refine⟨_,rfl,rfl,_,rfl,ifF (zCD a) ?_⟩
    cases b with
    | none=>exact⟨_,rfl,rfl,_,rfl,ifT (zU rfl) k⟩
    | some b=>exact⟨_,rfl,rfl,_,rfl,ifF (zCD b) ⟨_,rfl,_,rfl,a,b,rfl,rfl,k⟩⟩
theorem scLes:zAB ["_law_one", "_law_other"] ["_law_one", "_law_other"] (defScope sLes):=⟨rfl,rfl,rfl,by decide +kernel,rfl,by decide +kernel,by decide +kernel⟩
theorem ok_les {f:Addr}{fd':FuncData}(F:Fun K "_law_lesser" "_law_lesser" sLes f fd') (mMin:mg "min" = none):zAb P w K mg base CX0 1 f fd' ["_law_one", "_law_other"] spLes:=by
 refine F.ok scLes (fun vs H Q E h=>?_) (fun cdv A outer s H vs Q E hr h=>?_)
 . obtain⟨a,b,rfl,_⟩:=h
   rfl
 . obtain⟨a,b,rfl,k⟩:=h
   refine⟨_,zT (zBz (PW.pt (zHK (zAQ zC3 (pv 0) zBy (zAa _)) (zEJ (zAQ zC3 (pv 1) zBy (zAa _))))) (zf (zAT (zC2 (zAQ zC3 (pv 0) zBy (zAa _)) (pv 1) (pv 0)))) zAw)
    (zf (zAT (zAL (zFk rfl) (by rfl) mMin (by decide +kernel) (zE (pv 0) (zE (pv 1) zO))))),?_⟩
   cases a with
   | none=>exact⟨_,rfl,rfl,_,rfl,ifT (zU rfl) (ifT rfl ⟨_,rfl,rfl,_,rfl,ifT (zU rfl) ⟨_,rfl,k⟩⟩)⟩
   | some a=>
    refine⟨_,rfl,rfl,_,rfl,ifF (zCD a) ?_⟩
    cases b with
    | none=>exact⟨_,rfl,rfl,_,rfl,ifT (zU rfl) ⟨_,rfl,rfl,_,rfl,ifF (zCD a) ⟨_,rfl,k⟩⟩⟩
    | some b=>exact⟨_,rfl,rfl,_,rfl,ifF (zCD b) ⟨_,rfl,_,rfl,a,b,rfl,k⟩⟩
theorem zDc:zAB ["_law_web_here", "_law_n", "_law_ties", "_law_far_here", "_law_a", "_law_b", "_law_long", "_law_k", "_law_way"] ["_law_web_here"] (defScope sFar):=⟨rfl,rfl,rfl,by decide +kernel,rfl,by decide +kernel,by decide +kernel⟩
theorem ok_far {f fA fL:Addr}{fd' fdA fdL:FuncData}(F:Fun K "_law_far" "_law_far" sFar f fd') (FA:Fun K "_law_added" "_law_added" sAdd fA fdA) (bA:zAA K fdA ["_law_one", "_law_other"] []) (mA:mg "_law_added" = some (.ref fA))
 (FL:Fun K "_law_lesser" "_law_lesser" sLes fL fdL) (bL:zAA K fdL ["_law_one", "_law_other"] []) (mL:mg "_law_lesser" = some (.ref fL)) (mRange:mg "range" = none) (mMin:mg "min" = none):zAb P w K mg base CX0 2 f fd' ["_law_web_here"] spFar:=by
 have GA:zAb P w K mg base CX0 1 fA fdA ["_law_one", "_law_other"] zLP:=zK3 FA
 have GL:zAb P w K mg base CX0 1 fL fdL ["_law_one", "_law_other"] spLes:=ok_les FL mMin
 refine F.ok zDc (fun vs H Q E h=>?_) (fun cdv A outer s H vs Q E hr h=>?_)
 . obtain⟨wa,n,ts,rfl,_⟩:=h
   rfl
 . obtain⟨wa,n,ts,rfl,W,k⟩:=h
   obtain⟨ta,tys,hwa,hta,TA,G⟩:=id W
   have hn1:=G.n1
   have hn24:=G.n24
   refine⟨_,zT (zCM (pv 0) (zDg rfl (zBI (zw (i:=1) zDc.nd rfl (Or.inr rfl)) (zBI (zw (i:=2) zDc.nd rfl (Or.inl rfl)) zCs))))
    (zT (zJ8 (yc := "_law_a") (i:=3) (own:=["_law_a"]) (cn:=["_law_n"]) (ci:=[1]) zDc.nd rfl (Or.inl rfl) rfl (csc1 rfl (fun _ _=>rfl) rfl rfl) ⟨rfl,rfl,rfl,trivial⟩ rfl
     (zAZ rfl mRange (zE (pv 1) zO)) (fun _ _ _ _=>zw (i:=0) (zBn rfl) rfl (Or.inr rfl)) (fun _ _ _ _=>zBP)
     (fun _ _ _ _=>zA8 (own:=["_law_b"]) (cn:=["_law_a"]) (ci:=[0]) rfl (csc rfl rfl) ⟨rfl,rfl,rfl,trivial⟩ rfl
      (zAZ rfl mRange (zE (pv 1) zO)) (fun _ _ _ _=>zw (i:=0) (zBn rfl) rfl (Or.inl rfl)) (fun _ _ _ _=>zBP)
      (fun _ _ _ _=>zC2 (zAQ zCU (pv 1) (pv 0) (zAa _)) zj zBy)))
    (zT (zBY PassesOwn.never rfl (zC0 (pv 2)) (zDg rfl (zBI (zw (i:=4) zDc.nd rfl (Or.inl rfl)) (zBI (zw (i:=5) zDc.nd rfl (Or.inl rfl)) (zBI (zw (i:=6) zDc.nd rfl (Or.inl rfl)) zCs))))
     (zT (zCM (pv 6) (zCR (zAK zAU (pv 3) (pv 4) (fun _ _=>rfl)) (pv 5) zBb))
     (zf (zCM (pv 6) (zCR (zAK zAU (pv 3) (pv 5) (fun _ _=>rfl)) (pv 4) zBb)))))
    (zT (zBY PassesOwn.never rfl (zAZ rfl mRange (zE (pv 1) zO)) (zw (i:=7) zDc.nd rfl (Or.inl rfl))
     (zf (zBY PassesOwn.never rfl (zAZ rfl mRange (zE (pv 1) zO)) (zw (i:=4) zDc.nd rfl (Or.inl rfl))
      (zf (zBY PassesOwn.never rfl (zAZ rfl mRange (zE (pv 1) zO)) (zw (i:=5) zDc.nd rfl (Or.inl rfl))
       (zT (zAP (i:=8) zDc.nd rfl (Or.inl rfl) (zn GA hr rfl mA FA.kp bA .nil zAS (zE (zAK zAU (zAK zAU (pv 3) (pv 4) (fun _ _=>rfl)) (pv 7) (fun _ _=>rfl)) (zE (zAK zAU (zAK zAU (pv 3) (pv 7) (fun _ _=>rfl)) (pv 5) (fun _ _=>rfl)) zO))))
       (zf (zCM (zn GL hr rfl mL FL.kp bL .nil zAS (zE (zAK zAU (zAK zAU (pv 3) (pv 4) (fun _ _=>rfl)) (pv 5) (fun _ _=>rfl)) (zE (pv 8) zO))) (zCR (zAK zAU (pv 3) (pv 4) (fun _ _=>rfl)) (pv 5) zBb)))))))))
    (zf (zAT (pv 3)))))),?_⟩
   refine⟨_,rfl,wa,_,rfl,SqT.of hwa,rfl,_,_,rfl,_,_,rfl,rfl,?_⟩
   refine⟨_,rfl,n,rfl,by omega,by omega,[.int n],rfl,fun D hD=>?_⟩
   refine zA0 (lo:=0) (n:=n.toNat) (fun q ys H1=>q<=n.toNat/\∃(rs:List Addr)(M:List (List (Option Int))),ys=rs.map V.ref/\rs.length=q/\zCi H1 rs M/\(∀x:Nat,x<q->M[x]? = some (zIF x n.toNat))/\(∀r∈rs,H r=none/\r≠D)/\zAy H H1/\H1 D=some (.lst ys))
    ⟨zh _,[],[],rfl,rfl,⟨rfl,List.nodup_nil,fun i r row h=>by simp at h⟩,fun x hx=>absurd hx (Nat.not_lt_zero _),fun r h=>by simp at h,zL hD,zH⟩ (fun q ys H1 h=>?_) (fun q ys H1 hq h=>?_) (fun ys H1 h=>?_)
   . obtain⟨hq,rs,M,rfl,hl,_⟩:=h
     rw[zB,hl]
     exact zq (by omega)
   . obtain⟨_,rs,M,rfl,hl,R,L,fr,sm,hD1⟩:=h
     rw[zAI]
     refine⟨⟨rfl,rfl⟩,?_⟩
     refine zEZ ?_
     refine⟨_,rfl,n,rfl,by omega,by omega,[.int q],rfl,fun D2 hD2=>?_⟩
     have nD2:D2≠D:=fun z=>by rw[z,hD1] at hD2;cases hD2
     refine zA0 (lo:=0) (n:=n.toNat) (fun j ys H2=>j<=n.toNat/\ys=(zIF q j).map oV/\zAy H1 H2/\H2 D2=some (.lst ys))
      ⟨zh _,rfl,zL hD2,zH⟩ (fun j ys H2 h=>?_) (fun j ys H2 hj h=>?_) (fun ys H2 h=>?_)
     . obtain⟨hj,rfl,_⟩:=h
       rw[zB,zGe]
       exact zq (by omega)
     . obtain⟨_,rfl,s2,h2⟩:=h
       rw[zAI]
       refine⟨⟨rfl,rfl⟩,?_⟩
       refine zEZ ?_
       refine⟨_,rfl,_,rfl,rfl,_,rfl,?_⟩
       by_cases e:(q:Int)=(j:Int)
       . refine ifT (zU (congrArg V.int e)) ?_
         refine⟨h2,hj,?_,zAr s2 hD2,zH⟩
         rw[zFD,if_pos e,zN];rfl
       . refine ifF (zZ fun z=>e (V.int.inj z)) ?_
         refine⟨h2,hj,?_,zAr s2 hD2,zH⟩
         rw[zFD,if_neg e,zN];rfl
     . obtain⟨_,rfl,s2,h2⟩:=h
       have hD22:H2 D=some (.lst (rs.map V.ref)):=s2 _ _ hD1
       have frD2:H D2=none:=by
        cases z:H D2 with
        | none=>rfl
        | some o=>rw[sm _ _ z] at hD2;cases hD2
       have nin:D2∉rs:=fun z=>by
        obtain⟨i,hi,e⟩:=zx z
        have hM:i<M.length:=by rw[<-R.1];exact hi
        have:=R.2.2 i D2 M[i] (by rw[zC hi,e]) (zC hM)
        rw[hD2] at this;cases this
       refine⟨hD22,hq,rs++[D2],M++[zIF q n.toNat],by rw[zN];rfl,by rw[zM,hl];rfl,⟨by rw[zM,zM,R.1];rfl,?_,fun i r row h1 h3=>?_⟩,fun x hx=>?_,fun r hr'=>?_,zAr (sm.trans s2) hD,zH⟩
       . exact List.nodup_append.mpr ⟨R.2.1,by simp,fun a ha b hb=>by
          have e:b=D2:=by simpa using hb
          rw[e];exact fun z=>nin (z ▸ ha)⟩
       . have key:H2 r=some (.lst (row.map oV))/\r≠D:=by
          by_cases hi:i<rs.length
          . rw[zW hi] at h1
            rw[zW (by rw[<-R.1];exact hi)] at h3
            exact⟨s2 _ _ (R.2.2 i r row h1 h3),(fr r (zS h1)).2⟩
          . rw[zR (by omega)] at h1
            rw[zR (by rw[<-R.1];omega),<-R.1] at h3
            cases hz:i-rs.length with
            | zero=>
             rw[hz] at h1 h3
             have e1:D2=r:=by simpa using h1
             have e2:zIF q n.toNat=row:=by simpa using h3
             subst e1 e2
             exact⟨h2,nD2⟩
            | succ k=>rw[hz] at h1;simp at h1
         rw[zX key.2]
         exact key.1
       . by_cases hx':x<q
         . rw[zW (by rw[<-R.1,hl];exact hx')]
           exact L x hx'
         . have e:x=q:=by omega
           subst e
           rw[zR (by rw[<-R.1,hl];exact zI _),<-R.1,hl]
           simp
       . rcases zAC.mp hr' with z | z
         . exact fr r z
         . have e:r=D2:=by simpa using z
           rw[e];exact⟨frD2,nD2⟩
   . obtain⟨_,rs,M,rfl,hl,R,L,fr,sm,hD1⟩:=h
     have hML:M.length=n.toNat:=by rw[<-R.1,hl]
     have S0:Sqm n M:=⟨hML,fun r hr'=>by
      obtain⟨i,hi,e⟩:=zx hr'
      have:=L i (by omega)
      rw[zC hi,e] at this
      rw[zP this,zGe]⟩
     have M0:∀x y,0<=x->x<n->0<=y->y<n->mat M x y=if x=y then some 0 else none:=fun x y hx hx' hy hy'=>by
      unfold mat
      rw[if_pos hx,zD,L x.toNat (by omega),Option.getD_some,zJ3 hy (by omega),show ((x.toNat:Nat):Int)=x by omega]
     have wr:∀{H2:Hp}{r:Addr}{o:HO},r∈rs->zAy H H2->zAy H (upd H2 r o):=fun {H2 r o} hr' s2=>zAr s2 (fr r hr').1
     have wD:∀{H2:Hp}{r:Addr}{o:HO},r∈rs->H2 D=some (.lst (rs.map V.ref))->(upd H2 r o) D=some (.lst (rs.map V.ref)):=fun {H2 r o} hr' e=>by rw[zX (fr r hr').2.symm];exact e
     refine⟨_,rfl,ta,rfl,⟨_,SqT.of (sm _ _ hta)⟩,zGE (K:=K) (a:=ta) (xs:=tys)
      (fun i σ H2=>∃(v4 v5 v6 v7 v8:Option V)(M:List (List (Option Int))),σ=[some (.ref wa),some (.int n),some (.ref ta),some (.ref D),v4,v5,v6,v7,v8]/\zAy H H2/\H2 D=some (.lst (rs.map V.ref))/\zCi H2 rs M/\Sqm n M/\Ft (ts.take i) n (mat M))
      ⟨_,_,_,_,_,M,rfl,sm,hD1,R,S0,by rw[List.take_zero];exact Ft.nil n M0⟩ (fun i σ H2 _ ⟨_,_,_,_,_,_,_,s,_⟩=>SqT.of (s _ _ hta)) ?turn1 ?after1⟩
     case turn1=>
      rintro i y σ H2 hi ⟨v4,v5,v6,v7,v8,M2,rfl,s2,hD2,R2,S2,T2⟩
      obtain⟨ya,ky,rfl,hky,hya,_⟩:=TA.get hi
      rw[zJ] at hky
      obtain⟨⟨a,b,c⟩,hti,rfl⟩:∃t:T3,ts[i]? = some t/\tl t=ky:=by
       cases e:ts[i]? with
       | none=>rw[e] at hky;cases hky
       | some t=>rw[e] at hky;exact⟨t,rfl,zP hky⟩
      have hm:=zS hti
      have hr3:=G.rng _ hm
      simp only at hr3
      obtain⟨ra,rowa,a1,a2,a3,a4,a5,_⟩:=R2.get S2 (a:=a) (by omega) (by omega)
      have ma:=zS a1
      refine⟨ya,_,rfl,SqT.of (s2 _ _ hya),rfl,_,_,rfl,_,_,rfl,_,_,rfl,rfl,?_⟩
      refine⟨_,rfl,_,rfl,_,rfl,D,_,_,.ref ra,rfl,rfl,SqL.of hD2,zBG (by omega) (by rw[zJ,a1];rfl),_,rfl,ra,_,b,b.toNat,rfl,rfl,a5,zCp (by omega) (by rw[zB,a4];omega),?_⟩
      have R3:zCi (upd H2 ra (.lst ((rowa.map oV).set b.toNat (.int c)))) rs (zHk M2 a b (some c)):=R2.set S2 (v:=some c) (by omega) (by omega) a1 a2
      have S3:Sqm n (zHk M2 a b (some c)):=S2.set (by omega) (by omega)
      have s3:=wr (o:=.lst ((rowa.map oV).set b.toNat (.int c))) ma s2
      have hD3:=wD (o:=.lst ((rowa.map oV).set b.toNat (.int c))) ma hD2
      generalize upd H2 ra (.lst ((rowa.map oV).set b.toNat (.int c)))=H3 at R3 s3 hD3 ⊢
      obtain⟨rb,rowb,b1,b2,b3,b4,b5,_⟩:=R3.get S3 (a:=b) (by omega) (by omega)
      have mb:=zS b1
      refine⟨_,rfl,_,rfl,_,rfl,D,_,_,.ref rb,rfl,rfl,SqL.of hD3,zBG (show 0<=b by omega) (by rw[zJ,b1];rfl),_,rfl,rb,_,a,a.toNat,rfl,rfl,b5,zCp (by omega) (by rw[zB,b4];omega),?_⟩
      have R4:zCi (upd H3 rb (.lst ((rowb.map oV).set a.toNat (.int c)))) rs (zHk (zHk M2 a b (some c)) b a (some c)):=R3.set S3 (v:=some c) (by omega) (by omega) b1 b2
      refine⟨_,_,_,_,_,_,rfl,wr mb s3,wD mb hD3,R4,S3.set (by omega) (by omega),?_⟩
      have hsp:ts=ts.take i++(a,b,c)::ts.drop (i+1):=by
       have hil:=(zK.mp hti)
       conv=>lhs;rw[<-List.take_append_drop i ts,List.drop_eq_getElem_cons hil.1,hil.2]
      have htk:ts.take (i+1)=ts.take i++[(a,b,c)]:=by rw[zy,hti];rfl
      rw[htk]
      refine (Ft.put (post:=ts.drop (i+1)) (by rw[<-hsp];exact G) T2).congr fun x y hx hx' hy hy'=>?_
      rw[zGA S3 (by omega) (by omega) (by omega) (by omega) hx hx',zGA S2 (by omega) (by omega) (by omega) (by omega) hx hx']
     case after1=>
      rintro σ H2 ⟨v4,v5,v6,v7,v8,M2,rfl,s2,hD2,R2,S2,T2⟩
      have hlt:tys.length=ts.length:=by rw[TA.length,zB]
      rw[hlt,List.take_length] at T2
      have FC:=T2.fw G
      refine⟨_,rfl,n,rfl,by omega,by omega,zBK (lo:=0) (n:=n.toNat)
       (fun kk σ H3=>∃(v4 v5 v6 v7 v8:Option V)(M:List (List (Option Int))),σ=[some (.ref wa),some (.int n),some (.ref ta),some (.ref D),v4,v5,v6,v7,v8]/\zAy H H3/\H3 D=some (.lst (rs.map V.ref))/\zCi H3 rs M/\Sqm n M/\Fw ts n (mat M)/\Cov ts n (kk:Int) (mat M))
       ⟨_,_,_,_,_,M2,rfl,s2,hD2,R2,S2,FC.1,FC.2⟩ ?turn2 ?after2⟩
      case after2=>
       rintro σ H3 ⟨v4,v5,v6,v7,v8,M3,rfl,s3,hD3,R3,S3,f3,c3⟩
       rw[show ((n.toNat:Nat):Int)=n by omega] at c3
       exact⟨_,rfl,k D rs M3 H3 s3 hD3 R3 (zLd G S3 f3 c3)⟩
      case turn2=>
       rintro kk σ H3 hkk ⟨v4,v5,v6,v7,v8,M3,rfl,s3,hD3,R3,S3,f3,c3⟩
       rw[zAI]
       refine⟨_,rfl,n,rfl,by omega,by omega,zBK (lo:=0) (n:=n.toNat)
        (fun aa σ H4=>∃(v4 v5 v6 v8:Option V)(M:List (List (Option Int))),σ=[some (.ref wa),some (.int n),some (.ref ta),some (.ref D),v4,v5,v6,some (.int (kk:Int)),v8]/\zAy H H4/\H4 D=some (.lst (rs.map V.ref))/\zCi H4 rs M/\Sqm n M/\Fm ts n (kk:Int) (mat M) (fun x _=>x<(aa:Int)))
        ⟨_,_,_,_,M3,rfl,s3,hD3,R3,S3,(Fm.enter f3 c3).congr (fun _ _ _ _ _ _=>rfl) fun x y hx _ _ _ z=>by omega⟩ ?turn3 ?after3⟩
       case after3=>
        rintro σ H4 ⟨v4,v5,v6,v8,M4,rfl,s4,hD4,R4,S4,F4⟩
        have fc:=F4.leave fun x y _ hx' _ _=>by omega
        exact⟨_,_,_,_,_,M4,rfl,s4,hD4,R4,S4,fc.1,fc.2⟩
       case turn3=>
        rintro aa σ H4 haa ⟨v4,v5,v6,v8,M4,rfl,s4,hD4,R4,S4,F4⟩
        rw[zAI]
        refine⟨_,rfl,n,rfl,by omega,by omega,zBK (lo:=0) (n:=n.toNat)
         (fun bb σ H5=>∃(v5 v6 v8:Option V)(M:List (List (Option Int))),σ=[some (.ref wa),some (.int n),some (.ref ta),some (.ref D),some (.int (aa:Int)),v5,v6,some (.int (kk:Int)),v8]/\zAy H H5/\H5 D=some (.lst (rs.map V.ref))/\zCi H5 rs M/\Sqm n M/\Fm ts n (kk:Int) (mat M) (fun x y=>x<(aa:Int)\/(x=(aa:Int)/\y<(bb:Int))))
         ⟨_,_,_,M4,rfl,s4,hD4,R4,S4,F4.congr (fun _ _ _ _ _ _=>rfl) fun x y _ _ hy _ z=>by omega⟩ ?turn4 ?after4⟩
        case after4=>
         rintro σ H5 ⟨v5,v6,v8,M5,rfl,s5,hD5,R5,S5,F5⟩
         exact⟨_,_,_,_,M5,rfl,s5,hD5,R5,S5,F5.congr (fun _ _ _ _ _ _=>rfl) fun x y _ _ _ hy' z=>by omega⟩
        case turn4=>
         rintro bb σ H5 hbb ⟨v5,v6,v8,M5,rfl,s5,hD5,R5,S5,F5⟩
         rw[zAI]
         obtain⟨ra,rowa,a1,a2,a3,a4,a5,a6⟩:=R5.get S5 (a:=(aa:Int)) (by omega) (by omega)
         obtain⟨rk,rowk,k1,k2,k3,k4,k5,k6⟩:=R5.get S5 (a:=(kk:Int)) (by omega) (by omega)
         have ma:=zS a1
         refine⟨_,rfl,_,rfl,D,_,_,.ref ra,rfl,rfl,SqL.of hD5,zBG (by omega) (by rw[zJ,a1];rfl),_,rfl,ra,_,_,_,rfl,rfl,SqL.of a5,zGd a4 (by omega) (by omega),?_⟩
         refine⟨_,rfl,_,rfl,D,_,_,.ref rk,rfl,rfl,SqL.of hD5,zBG (by omega) (by rw[zJ,k1];rfl),_,rfl,rk,_,_,_,rfl,rfl,SqL.of k5,zGd k4 (by omega) (by omega),?_⟩
         refine⟨_,_,rfl,?_⟩
         refine⟨_,rfl,_,rfl,D,_,_,.ref ra,rfl,rfl,SqL.of hD5,zBG (by omega) (by rw[zJ,a1];rfl),_,rfl,ra,_,_,_,rfl,rfl,SqL.of a5,zGd a4 (by omega) (by omega),?_⟩
         refine⟨_,rfl,_,_,rfl,?_⟩
         refine⟨_,rfl,_,rfl,D,_,_,.ref ra,rfl,rfl,SqL.of hD5,zBG (by omega) (by rw[zJ,a1];rfl),_,rfl,ra,_,_,(bb:Int).toNat,rfl,rfl,a5,zCp (by omega) (by rw[zB,a4];omega),?_⟩
         refine⟨_,_,_,_,rfl,wr ma s5,wD ma hD5,R5.set S5 (by omega) (by omega) a1 a2,S5.set (by omega) (by omega),?_⟩
         refine (Fm.step G F5 (a:=(aa:Int)) (b:=(bb:Int)) (by omega) (by omega) (by omega) (by omega) (by omega) (by omega)).congr (fun x y hx hx' hy hy'=>?_) fun x y _ _ _ _ z=>by omega
         rw[zGA S5 (by omega) (by omega) (by omega) (by omega) hx hx',a6,a6,k6]
end
theorem zLY (a b:Option Int):scal (oV a) (oV b)=true:=by cases a <;> cases b <;> rfl
theorem zHP:decide (oV none=V.non)=true:=zU rfl
theorem dec_oV (a b:Option Int):decide (oV a=oV b)=decide (a=b):=decide_eq_decide.mpr ⟨fun h=>by
 cases a with
 | none=>
  cases b with
  | none=>rfl
  | some b=>cases h
 | some a=>
  cases b with
  | none=>cases h
  | some b=>rw[V.int.inj h],fun h=>by rw[h]⟩
noncomputable def zFt (H:Hp)(fl:Addr)(n:Int)(ts:List T3)(M:List (List (Option Int))):Prop:=∃rs:List Addr,H fl=some (.lst (rs.map V.ref))/\zCi H rs M/\Rows ts n M
theorem zLc {n:Int}{ts:List T3}{M:List (List (Option Int))}(R:Rows ts n M):Sqm n M:=⟨R.1,fun r hr=>by
 obtain⟨i,hi,e⟩:=zx hr
 have h1:=R.1
 have:=(R.2 (i:Int) (by omega) (by omega)).ln
 rw[zAF,zD,zC hi,Option.getD_some,e] at this
 exact this⟩
theorem zFt.keep {H H':Hp}{fl:Addr}{n:Int}{ts:List T3}{M:List (List (Option Int))}(h:zFt H fl n ts M)(k:∀b ys,H b=some (.lst ys)->H' b=some (.lst ys)):zFt H' fl n ts M:=by
 obtain⟨rs,a,b,c⟩:=h
 exact⟨rs,k _ _ a,b.keep fun b ys e _=>k b ys e,c⟩
theorem zFt.get {H:Hp}{fl:Addr}{n:Int}{ts:List T3}{M:List (List (Option Int))}(h:zFt H fl n ts M){x y:Int}(hx:0<=x)(hx':x<n)(hy:0<=y)(hy':y<n) :
 ∃(rs:List V)(r:Addr)(row:List V),H fl=some (.lst rs)/\atI rs x=some (.ref r)/\H r=some (.lst row)/\atI row y=some (oV (mat M x y))/\Len ts x y (mat M x y):=by
 obtain⟨rs,a,b,c⟩:=h
 obtain⟨r,row,e1,e2,e3,e4,e5,e6⟩:=b.get (zLc c) hx hx'
 have L:=c.2 x hx hx'
 rw[e3] at L
 refine⟨_,r,_,a,zBG hx (by rw[zJ,e1];rfl),e5,?_,?_⟩
 . rw[<-e6];exact zGd e4 hy hy'
 . rw[<-e6];exact L.len y hy hy'
noncomputable def onB (M:List (List (Option Int)))(p x y:Int):Bool:=match mat M x y with
 | none=>false
 | some d=>decide (oadd (mat M x p) (mat M p y)=some d)
theorem zIQ {H:Hp}{fl:Addr}{n:Int}{ts:List T3}{M:List (List (Option Int))}(h:zFt H fl n ts M){p x y:Int}(hp:0<=p)(hp':p<n)(hx:0<=x)(hx':x<n)(hy:0<=y)(hy':y<n):onB M p x y=true↔Btw ts x y p:=by
 obtain⟨_,_,_,_,_,_,_,l1⟩:=h.get hx hx' hy hy'
 obtain⟨_,_,_,_,_,_,_,l2⟩:=h.get hx hx' hp hp'
 obtain⟨_,_,_,_,_,_,_,l3⟩:=h.get hp hp' hy hy'
 unfold onB
 constructor
 . intro z
   cases e:mat M x y with
   | none=>rw[e] at z;cases z
   | some d=>
    rw[e] at z l1
    obtain⟨a,b,e1,e2,e3⟩:=zFL (of_decide_eq_true z)
    rw[e1] at l2
    rw[e2] at l3
    exact⟨a,b,l2,l3,by rw[e3];exact l1⟩
 . rintro ⟨a,b,h1,h2,h3⟩
   have e1:=Len.uniq l1 (show Len ts x y (some (a+b)) from h3)
   have e2:=Len.uniq l2 (show Len ts x p (some a) from h1)
   have e3:=Len.uniq l3 (show Len ts p y (some b) from h2)
   rw[e1,e2,e3]
   exact zU rfl
noncomputable def spOn:Sp:=fun vs H Q _=>∃(fl:Addr)(n:Int)(ts:List T3)(M:List (List (Option Int)))(p x y:Int),vs=[.ref fl,.int p,.int x,.int y]/\zFt H fl n ts M/\0<=p/\p<n/\0<=x/\x<n/\0<=y/\y<n/\Q (.bl (onB M p x y)) H
section
variable {P:Program}{w:World}{K:PySem.W.Frag}{mg:Str->Option Value}{base:Heap}
theorem scOn:zAB ["_law_far_here", "_law_place", "_law_one", "_law_other", "_law_due"] ["_law_far_here", "_law_place", "_law_one", "_law_other"] (defScope sOn):=⟨rfl,rfl,rfl,by decide +kernel,rfl,by decide +kernel,by decide +kernel⟩
theorem ok_on {f fA:Addr}{fd' fdA:FuncData}(F:Fun K "_law_on" "_law_on" sOn f fd') (FA:Fun K "_law_added" "_law_added" sAdd fA fdA) (bA:zAA K fdA ["_law_one", "_law_other"] []) (mA:mg "_law_added" = some (.ref fA)):zAb P w K mg base CX0 2 f fd' ["_law_far_here", "_law_place", "_law_one", "_law_other"] spOn:=by
 have GA:zAb P w K mg base CX0 1 fA fdA ["_law_one", "_law_other"] zLP:=zK3 FA
 refine F.ok scOn (fun vs H Q E h=>?_) (fun cdv A outer s H vs Q E hr h=>?_)
 . obtain⟨fl,n,ts,M,p,x,y,rfl,_⟩:=h
   rfl
 . obtain⟨fl,n,ts,M,p,x,y,rfl,FR,hp,hp',hx,hx',hy,hy',k⟩:=h
   refine⟨_,zT (zAP (i:=4) scOn.nd rfl (Or.inl rfl) (zAK zAU (zAK zAU (pv 0) (pv 2) (fun _ _=>rfl)) (pv 3) (fun _ _=>rfl)))
    (zf (zAT (zEL (zCt zF5 (pv 4) zBy (zAa _)) (zFI (zCt zCU (zn GA hr rfl mA FA.kp bA .nil zAS (zE (zAK zAU (zAK zAU (pv 0) (pv 2) (fun _ _=>rfl)) (pv 1) (fun _ _=>rfl)) (zE (zAK zAU (zAK zAU (pv 0) (pv 1) (fun _ _=>rfl)) (pv 3) (fun _ _=>rfl)) zO))) (pv 4) (zAa _)))))),?_⟩
   obtain⟨r1,a1,w1,f1,g1,i1,j1,_⟩:=FR.get hx hx' hy hy'
   obtain⟨r2,a2,w2,f2,g2,i2,j2,_⟩:=FR.get hx hx' hp hp'
   obtain⟨r3,a3,w3,f3,g3,i3,j3,_⟩:=FR.get hp hp' hy hy'
   refine⟨_,rfl,_,rfl,fl,_,_,.ref a1,rfl,rfl,SqL.of f1,g1,_,rfl,a1,_,_,_,rfl,rfl,SqL.of i1,j1,?_⟩
   refine⟨_,rfl,rfl,_,rfl,?_⟩
   unfold onB at k
   cases e:mat M x y with
   | none=>
    rw[e] at k
    exact ifF (by rw[zHP];rfl) k
   | some d=>
    rw[e] at k
    refine ifT (by rw[zCD];rfl) ?_
    refine⟨_,rfl,_,rfl,fl,_,_,.ref a2,rfl,rfl,SqL.of f2,g2,_,rfl,a2,_,_,_,rfl,rfl,SqL.of i2,j2,?_⟩
    refine⟨_,rfl,_,rfl,fl,_,_,.ref a3,rfl,rfl,SqL.of f3,g3,_,rfl,a3,_,_,_,rfl,rfl,SqL.of i3,j3,?_⟩
    refine⟨_,_,rfl,_,rfl,zLY _ (some d),?_⟩
    rw[dec_oV]
    exact k
end
noncomputable def zKp:Sp:=fun vs H Q _=>∃(wa:Addr)(n:Int)(ts:List T3),vs=[.ref wa]/\zBd H wa n ts/\n<=8/\∀(sl:Addr)(R:List (List Int))(H':Hp),zAy H H'->zBL H' sl R->zDR ts n R->Q (.ref sl) H'
theorem sn_nn (xs:List Int):0<=sn xs:=by rw[zEE];exact Int.natCast_nonneg _
theorem zDR.nn {ts:List T3}{n:Int}{R:List (List Int)}(h:zDR ts n R)(n8:n<=8):NN R:=by
 refine⟨fun row hr m hm=>?_,fun row hr=>?_,by rw[h.rl];omega⟩
 . obtain⟨i,hi,e⟩:=zx hr
   obtain⟨l,r⟩:=h.ro i row (by rw[zC hi,e])
   obtain⟨j,hj,e2⟩:=zx hm
   obtain⟨xs,e3,_⟩:=r j (by omega)
   rw[zC hj,e2] at e3
   cases e3
   exact sn_nn xs
 . obtain⟨i,hi,e⟩:=zx hr
   have:=(h.ro i row (by rw[zC hi,e])).1
   omega
theorem zDR.uniq {ts:List T3}{n:Int}{R R':List (List Int)}(a:zDR ts n R)(b:zDR ts n R'):R=R':=by
 refine List.ext_getElem (by rw[a.rl,b.rl]) fun i h1 h2=>?_
 obtain⟨l1,r1⟩:=a.ro i R[i] (zC h1)
 obtain⟨l2,r2⟩:=b.ro i R'[i] (zC h2)
 refine List.ext_getElem (by rw[l1,l2]) fun j g1 g2=>?_
 obtain⟨xs,e1,p1,m1⟩:=r1 j (by omega)
 obtain⟨ys,e2,p2,m2⟩:=r2 j (by omega)
 rw[zC g1] at e1
 rw[zC g2] at e2
 rw[zP e1,zP e2,zFE p1 p2 fun x=>(m1 x).trans (m2 x).symm]
section
variable {P:Program}{w:World}{K:PySem.W.Frag}{mg:Str->Option Value}{base:Heap}
theorem zEG:zAB ["_law_web_here", "_law_far_here", "_law_found", "_law_one", "_law_row", "_law_other"] ["_law_web_here"] (defScope zJy):=⟨rfl,rfl,rfl,by decide +kernel,rfl,by decide +kernel,by decide +kernel⟩
theorem zL0 {f fF fO:Addr}{fd' fdF fdO:FuncData}(F:Fun K "_law_masks" "_law_masks" zJy f fd') (FF:Fun K "_law_far" "_law_far" sFar fF fdF) (bF:zAA K fdF ["_law_web_here"] []) (mF:mg "_law_far" = some (.ref fF)) (GF:zAb P w K mg base CX0 3 fF fdF ["_law_web_here"] spFar)
 (FO:Fun K "_law_on" "_law_on" sOn fO fdO) (bO:zAA K fdO ["_law_far_here", "_law_place", "_law_one", "_law_other"] []) (mO:mg "_law_on" = some (.ref fO)) (GO:zAb P w K mg base CX0 3 fO fdO ["_law_far_here", "_law_place", "_law_one", "_law_other"] spOn) (mRange:mg "range" = none) (mSum:mg "sum" = none):zAb P w K mg base CX0 4 f fd' ["_law_web_here"] zKp:=by
 refine F.ok zEG (fun vs H Q E h=>?_) (fun cdv A outer s H vs Q E hr h=>?_)
 . obtain⟨wa,n,ts,rfl,_⟩:=h
   rfl
 . obtain⟨wa,n,ts,rfl,W,n8,k⟩:=h
   obtain⟨ta,tys,hwa,_,_,G⟩:=id W
   have hn1:=G.n1
   refine⟨_,zT (zAP (i:=1) zEG.nd rfl (Or.inr rfl) (zn GF hr rfl mF FF.kp bF .nil zAS (zE (pv 0) zO)))
    (zT (zAP (i:=2) zEG.nd rfl (Or.inl rfl) (zB9 zO))
    (zT (zBY PassesOwn.never rfl (zAZ rfl mRange (zE (zAK zAp (pv 0) zj (fun _ _=>rfl)) zO)) (zw (i:=3) zEG.nd rfl (Or.inr rfl))
     (zT (zAP (i:=4) zEG.nd rfl (Or.inl rfl) (zB9 zO))
     (zT (zBY PassesOwn.never rfl (zAZ rfl mRange (zE (zAK zAp (pv 0) zj (fun _ _=>rfl)) zO)) (zw (i:=5) zEG.nd rfl (Or.inr rfl))
      (zf (zCI (zD4 PySem.F.plainAttrs_list PySem.F.slot_list_append PySem.F.type_list_append zBi (pv 4) (zE (zAL (zCh rfl) (by rfl) mSum (by decide +kernel) (zE (zA8 (own:=["_law_place"]) (cn:=["_law_far_here", "_law_one", "_law_other"]) (ci:=[1,3,5]) rfl (csc rfl rfl) ⟨rfl,rfl,rfl,rfl,rfl,rfl,rfl,rfl,rfl,trivial⟩ rfl (zAZ rfl mRange (zE (zAK zAp (pv 0) zj (fun _ _=>rfl)) zO)) (fun _ _ _ _=>zw (i:=0) (zBn rfl) rfl (Or.inl rfl))
       (fun _ _ _ _=>zCH (zCe (zn GO hr rfl mO FO.kp bO .nil zAS (zE (pv 1) (zE (pv 0) (zE (pv 2) (zE (pv 3) zO))))))) (fun _ _ _ _=>zAc zCN zj (pv 0))) zO)) zO)))))
     (zf (zCI (zD4 PySem.F.plainAttrs_list PySem.F.slot_list_append PySem.F.type_list_append zBi (pv 2) (zE (pv 4) zO)))))))
    (zf (zAT (pv 2))))),?_⟩
   refine⟨_,rfl,wa,n,ts,rfl,W,fun fl rs M H1 s1 hfl LR RR=>?_⟩
   have FR:zFt H1 fl n ts M:=⟨rs,hfl,LR,RR⟩
   have hwa1:=s1 _ _ hwa
   refine⟨by show 0<=sizeLine;decide,fun fo hfo=>?_⟩
   have s2:=zL (o:=.lst []) hfo
   refine⟨_,rfl,wa,_,_,_,rfl,rfl,SqT.of (s2 _ _ hwa1),rfl,n,rfl,by omega,by omega,zBK (lo:=0) (n:=n.toNat) (fun q σ H2=>∃(v3 v4 v5:Option V)(ls:List Addr)(R:List (List Int)),σ=[some (.ref wa),some (.ref fl),some (.ref fo),v3,v4,v5]/\zAy H1 H2/\H2 fo=some (.lst (ls.map V.ref))/\ls.length=q/\zHj H2 ls R/\(∀l∈ls,l≠fo)/\∀(h:Nat)(row:List Int),R[h]? = some row->row.length=n.toNat/\∀i,i<n.toNat->∃xs:List Int,row[i]? = some (sn xs)/\xs.Pairwise (· < ·)/\∀p,p∈xs↔Btw ts h i p)
    ⟨_,_,_,[],[],rfl,s2,zH,rfl,⟨rfl,fun i r row e=>by simp at e⟩,fun l hl=>by simp at hl,fun h row e=>by simp at e⟩ (fun q σ H2 hq z=>?_) (fun σ H2 z=>?_)⟩
   . obtain⟨v3,v4,v5,ls,R,rfl,s12,h2,hl,RI,fr,ro⟩:=z
     rw[zAI]
     refine⟨by show 0<=sizeLine;decide,fun ra hra=>?_⟩
     have s23:=zL (o:=.lst []) hra
     refine⟨_,rfl,wa,_,_,_,rfl,rfl,SqT.of (s23 _ _ (s12 _ _ hwa1)),rfl,n,rfl,by omega,by omega,zBK (lo:=0) (n:=n.toNat) (fun j σ H4=>∃(v5:Option V)(bs:List (List Int)),σ=[some (.ref wa),some (.ref fl),some (.ref fo),some (.int q),some (.ref ra),v5]/\zAy H2 H4/\H4 ra=some (.lst ((bs.map sn).map V.int))/\bs.length=j/\∀(i:Nat)(xs:List Int),bs[i]? = some xs->xs.Pairwise (· < ·)/\∀p,p∈xs↔Btw ts q i p)
      ⟨_,[],rfl,s23,zH,rfl,fun i xs e=>by simp at e⟩ (fun j σ H4 hj z=>?_) (fun σ H4 z=>?_)⟩
     . obtain⟨v5',bs,rfl,s24,h4,hbl,hbs⟩:=z
       rw[zAI]
       have s14:=s12.trans s24
       have hra4:H2 ra=none:=hra
       refine⟨_,rfl,.inl ⟨rfl,_,SqL.of h4⟩,_,rfl,wa,_,_,_,rfl,rfl,SqT.of (s14 _ _ hwa1),rfl,n,rfl,by omega,by omega,[.ref fl,.int q,.int j],rfl,fun D hD=>?_⟩
       refine zA0 (lo:=0) (n:=n.toNat) (fun m ys H5=>m<=n.toNat/\ys=(((lowTo m).filter fun p=>onB M p q j).map fun x=>(1:Int)*2 ^ x.toNat).map V.int/\zAy H4 H5/\H5 D=some (.lst ys)) ⟨zh _,rfl,zL hD,zH⟩ (fun m ys H5 z=>?_) (fun m ys H5 hm z=>?_) (fun ys H5 z=>?_)
       . obtain⟨hm,rfl,_⟩:=z
         rw[zB,zB]
         refine zAD (zv _ _) ?_
         rw[zCW]
         exact zq (by omega)
       . obtain⟨_,rfl,s45,h5⟩:=z
         rw[zAI]
         have st:(lowTo (m+1)).filter (fun p=>onB M p q j)=(lowTo m).filter (fun p=>onB M p q j)++[(m:Int)].filter (fun p=>onB M p q j):=by rw[zDr,zAl]
         refine⟨⟨rfl,rfl⟩,?_⟩
         refine⟨_,rfl,_,rfl,_,rfl,_,rfl,fl,n,ts,M,(m:Int),(q:Int),(j:Int),rfl,FR.keep fun b ys e=>s45 _ _ (s14 _ _ e),by omega,by omega,by omega,by omega,by omega,by omega,_,rfl,?_⟩
         by_cases c:onB M m q j=true
         . refine ifT c ?_
           refine⟨_,rfl,1,(m:Int),rfl,rfl,⟨by omega,by omega,by decide⟩,h5,by omega,?_,zAr s45 hD,zH⟩
           rw[st,zAV (p:=fun p=>onB M p q j) c,zAO,zN,zN];rfl
         . refine ifF (by simpa using c) ⟨by omega,?_,s45,h5⟩
           rw[st,zAG (p:=fun p=>onB M p q j) c,zAO,zo]
       . obtain⟨_,rfl,s45,h5⟩:=z
         refine⟨D,_,rfl,SqL.of h5,?_⟩
         have h5r:=s45 _ _ h4
         refine⟨ra,_,_,rfl,rfl,h5r,by rw[zB,zB];exact zq (by omega),?_⟩
         refine⟨_,bs++[(lowTo n.toNat).filter fun p=>onB M p q j],rfl,zAr (s24.trans s45) hra4,by rw[zH,zN,zN];rfl,by rw[zM,hbl];rfl,fun i xs e=>?_⟩
         by_cases c:i<bs.length
         . rw[zW c] at e
           exact hbs i xs e
         . rw[zR (by omega)] at e
           have hi:i=j:=by
            have:=(zK.mp e).1
            rw[zAz] at this
            omega
           subst hi
           rw[show i-bs.length=0 by omega] at e
           cases e
           refine⟨(zC8 _).sublist List.filter_sublist,fun p=>?_⟩
           rw[zAu,zCA]
           constructor
           . rintro ⟨⟨p0,p1⟩,c⟩
             exact (zIQ FR p0 (by omega) (by omega) (by omega) (by omega) (by omega)).mp c
           . intro hb
             obtain⟨a,b,ia,_⟩:=id hb
             have hp:=ia.1.in_ G (by omega:(0:Int)<=q) (by omega)
             exact⟨⟨hp.1,by omega⟩,(zIQ FR hp.1 hp.2 (by omega) (by omega) (by omega) (by omega)).mpr hb⟩
     . obtain⟨v5',bs,rfl,s24,h4,hbl,hbs⟩:=z
       have h4f:=s24 _ _ h2
       have nra:ra≠fo:=fun z=>by rw[z,h2] at hra;cases hra
       refine⟨_,rfl,.inl ⟨rfl,_,SqL.of h4f⟩,_,rfl,fo,_,_,rfl,rfl,h4f,by rw[zB];exact zq (by omega),?_⟩
       have hRl:R.length=q:=by rw[<-RI.1,hl]
       have hfo1:H1 fo=none:=hfo
       refine⟨_,_,_,ls++[ra],R++[bs.map sn],rfl,zAr (s12.trans s24) hfo1,by rw[zH,zN];rfl,by rw[zM,hl];rfl,⟨by rw[zM,zM,RI.1];rfl,fun i r row e1 e2=>?_⟩,fun y hy=>?_,fun h row e=>?_⟩
       . by_cases c:i<q
         . rw[zW (by omega)] at e1 e2
           rw[zX (fr r (zS e1))]
           exact s24 _ _ (RI.2 i r row e1 e2)
         . rw[zR (by omega)] at e1 e2
           have hi:i-ls.length=0:=by
            have:=(zK.mp e1).1
            rw[zAz] at this
            omega
           rw[hi] at e1
           rw[show i-R.length=0 by omega] at e2
           cases e1
           cases e2
           rw[zX nra];exact h4
       . rcases zAC.mp hy with hy | hy
         . exact fr y hy
         . rw[zk.mp hy];exact nra
       . by_cases c:h<q
         . rw[zW (by omega)] at e
           exact ro h row e
         . rw[zR (by omega)] at e
           have hi:h=q:=by
            have:=(zK.mp e).1
            rw[zAz] at this
            omega
           subst hi
           rw[show h-R.length=0 by omega] at e
           cases e
           refine⟨by rw[zB,hbl],fun i hi=>?_⟩
           obtain⟨xs,hx⟩:∃xs,bs[i]? = some xs:=⟨_,zC (by omega)⟩
           exact⟨xs,by rw[zJ,hx];rfl,hbs i xs hx⟩
   . obtain⟨v3,v4,v5,ls,R,rfl,s12,h2,hl,RI,fr,ro⟩:=z
     exact⟨_,rfl,k fo R H2 (s1.trans s12) ⟨ls,h2,RI⟩ ⟨by rw[<-RI.1,hl],ro⟩⟩
end
end K37
namespace K37
open PySem L2 WM
section
variable {X:Cx}
noncomputable def rCatV:R2:=fun x y H Q=>∃(a b:Addr)(xs ys:List V),x = .ref a/\y = .ref b/\H a=some (.tup xs)/\H b=some (.tup ys)/\xs.length+ys.length<=sizeLine/\∀(p:Addr)(H':Hp),zAy H H'->H' p=some (.tup (xs++ys))->Q (.ref p) H'
theorem zIP:OpR X (binaryOp .Add) rCatV:=fun pins s σ H x y v u Q I rx ry h=>by
 obtain⟨a,b,xs,ys,rfl,rfl,ha,hb,hz,q⟩:=h
 refine zLt pins s σ H _ _ v u Q I rx ry ⟨a,b,xs,ys,rfl,rfl,SqT.of ha,SqT.of hb,hz,fun e=>?_,fun _ e=>?_,fun _ _ p hp=>q p _ (zL hp) zH⟩
 . subst e;exact q b H (zAy.refl _) hb
 . subst e;exact q a H (zAy.refl _) (by rw[zo];exact ha)
noncomputable def rSlV:V->Option Int->Option Int->Hp->VK->Prop:=fun x lo hi H Q=>∃(a:Addr)(xs:List V),x = .ref a/\H a=some (.tup xs)/\∀(p:Addr)(H':Hp),zAy H H'->H' p=some (.tup (zFv xs lo hi))->Q (.ref p) H'
theorem zH6:SlR X rSlV:=fun pins s σ H x v vl vu lo hi sl Q I rx hs pl pu h=>by
 obtain⟨a,xs,rfl,ha,q⟩:=h
 refine zLU pins s σ H _ v vl vu lo hi sl Q I rx hs pl pu ⟨a,xs,rfl,SqT.of ha,fun e=>?_,fun _ p hp=>q p _ (zL hp) zH⟩
 refine q a H (zAy.refl _) ?_
 have:zFv xs lo hi=xs:=by
  unfold zFv
  rw[e.1,e.2,List.drop_zero,Nat.sub_zero,zY (zI _)]
 rw[this]
 exact ha
end
theorem zJD (xs:List V)(m:Nat):zFv xs none (some (m:Int))=xs.take m:=by
 unfold zFv
 rw[HT.sIx_none,HT.sIx_nat,List.drop_zero,Nat.sub_zero]
 by_cases h:m<=xs.length
 . rw[Nat.min_eq_left h]
 . rw[Nat.min_eq_right (by omega),zY (zI _),zY (by omega)]
theorem zJE (xs:List V)(m:Nat):zFv xs (some (m:Int)) none=xs.drop m:=by
 unfold zFv
 rw[HT.sIx_none,HT.sIx_nat]
 by_cases h:m<=xs.length
 . rw[Nat.min_eq_left h,zY (by rw[List.length_drop];exact zI _)]
 . rw[Nat.min_eq_right (by omega),Nat.sub_self,List.take_zero,List.drop_of_length_le (by omega)]
noncomputable abbrev oV2 (os:List Nat):List V:=(os.map fun (p:Nat)=>(p:Int)).map V.int
noncomputable def zE1 (H:Hp)(as:List Addr)(L:List (List Nat)):Prop:=as.length=L.length/\∀(i:Nat)(a:Addr)(os:List Nat),as[i]? = some a->L[i]? = some os->H a=some (.tup (oV2 os))
theorem zE1.same {H H':Hp}{as:List Addr}{L:List (List Nat)}(h:zE1 H as L)(k:zAy H H'):zE1 H' as L:=⟨h.1,fun i a os x y=>k _ _ (h.2 i a os x y)⟩
theorem zE1.chg {H:Hp}{as:List Addr}{L:List (List Nat)}{l:Addr}{xs ys:List V}(h:zE1 H as L)(hl:H l=some (.lst xs)):zE1 (upd H l (.lst ys)) as L:=⟨h.1,fun i a os x y=>by
 have e:=h.2 i a os x y
 rw[zX (zBw e hl (by intro z;cases z))];exact e⟩
theorem zE1.app {H:Hp}{as bs:List Addr}{L M:List (List Nat)}(h:zE1 H as L)(g:zE1 H bs M):zE1 H (as++bs) (L++M):=by
 refine⟨by rw[zM,zM,h.1,g.1],fun i a os x y=>?_⟩
 by_cases c:i<as.length
 . rw[zW c] at x
   rw[zW (by rw[<-h.1];exact c)] at y
   exact h.2 i a os x y
 . rw[zR (by omega)] at x
   rw[zR (by rw[<-h.1];omega),<-h.1] at y
   exact g.2 _ a os x y
theorem zE1.one {H:Hp}{a:Addr}{os:List Nat}(h:H a=some (.tup (oV2 os))):zE1 H [a] [os]:=⟨rfl,fun i b o x y=>by
 have hi:i=0:=by
  have:=(zK.mp x).1
  rw[zAz] at this
  omega
 subst hi
 cases x
 cases y
 exact h⟩
noncomputable def zG4 (H:Hp)(l:Addr)(L:List (List Nat)):Prop:=∃as:List Addr,H l=some (.lst (as.map V.ref))/\zE1 H as L
noncomputable def zKt:Sp:=fun vs H Q _=>∃n:Nat,vs=[.int n]/\n<=6/\∀(l:Addr)(H':Hp),zAy H H'->zG4 H' l (zAv n)->Q (.ref l) H'
theorem zES (x:Nat)(l:List Nat):(zCg x l).length=l.length+1:=by unfold zCg;rw[zB,zu]
theorem zDK {n:Nat}{l:List Nat}(h:l∈zAv n):l.length=n:=by rw[(zB1.mp h).length_eq,zu]
theorem zEt {x m:Nat}:∀{L:List (List Nat)},(∀l∈L,l.length=m)->(L.flatMap (zCg x)).length=L.length*(m+1)
 | [],_=>by simp
 | l::L,h=>by
  rw[List.flatMap_cons,zM,zES,zEt fun k hk=>h k (zb _ hk),h l zd,zt,Nat.succ_mul,Nat.add_comm]
theorem zDy:∀n,n<=6->(zAv n).length<=720:=by
 have st:∀n,(zAv (n+1)).length=(zAv n).length*(n+1):=fun n=>by
  rw[zAv];exact zEt fun l hl=>zDK hl
 intro n hn
 have e0:(zAv 0).length=1:=rfl
 have e1:(zAv 1).length=(zAv 0).length*1:=st 0
 have e2:(zAv 2).length=(zAv 1).length*2:=st 1
 have e3:(zAv 3).length=(zAv 2).length*3:=st 2
 have e4:(zAv 4).length=(zAv 3).length*4:=st 3
 have e5:(zAv 5).length=(zAv 4).length*5:=st 4
 have e6:(zAv 6).length=(zAv 5).length*6:=st 5
 obtain rfl | rfl | rfl | rfl | rfl | rfl | rfl:n=0\/n=1\/n=2\/n=3\/n=4\/n=5\/n=6:=by omega
 all_goals omega
section
variable {P:Program}{w:World}{K:PySem.W.Frag}{mg:Str->Option Value}{base:Heap}
theorem zEI:zAB ["_law_n", "_law_found", "_law_place", "_law_wider", "_law_order_here"] ["_law_n"] (defScope zJ2):=⟨rfl,rfl,rfl,by decide +kernel,rfl,by decide +kernel,by decide +kernel⟩
theorem zMC {f:Addr}{fd':FuncData}(F:Fun K "_law_all_orders" "_law_all_orders" zJ2 f fd') (mRange:mg "range" = none) (mLen:mg "len" = none):zAb P w K mg base CX0 1 f fd' ["_law_n"] zKt:=by
 refine F.ok zEI (fun vs H Q E h=>?_) (fun cdv A outer s H vs Q E hr h=>?_)
 . obtain⟨n,rfl,_⟩:=h
   rfl
 . obtain⟨n,rfl,n6,k⟩:=h
   refine⟨_,zT (zAP (i:=1) zEI.nd rfl (Or.inl rfl) (zB9 (zE (zB8 zO) zO)))
    (zT (zBY PassesOwn.never rfl (zAZ rfl mRange (zE (pv 0) zO)) (zw (i:=2) zEI.nd rfl (Or.inr rfl))
     (zT (zAP (i:=3) zEI.nd rfl (Or.inl rfl) (zB9 zO))
     (zT (zBY PassesOwn.never rfl (zBv (pv 1)) (zw (i:=4) zEI.nd rfl (Or.inr rfl))
      (zf (zCI (zD4 PySem.F.plainAttrs_list PySem.F.slot_list_extend PySem.F.type_list_extend zIY (pv 3) (zE (zA8 (own:=["_law_at"]) (cn:=["_law_order_here", "_law_place"]) (ci:=[4,2]) rfl (csc rfl rfl) ⟨rfl,rfl,rfl,rfl,rfl,rfl,trivial⟩ rfl
       (zAZ rfl mRange (zE (zAc zBe (zAL zAX (by rfl) mLen PySem.boot_len (zE (pv 4) zO)) zj) zO)) (fun _ _ _ _=>zw (i:=0) (zBn rfl) rfl (Or.inl rfl)) (fun _ _ _ _=>zBP)
       (fun _ _ _ _=>zAc zIP (zAc zIP (zEl zH6 (pv 1) zF3 (zF2 (pv 0))) (zB8 (zE (pv 2) zO))) (zEl zH6 (pv 1) (zF2 (pv 0)) zF3))) zO)))))
     (zf (zAP (i:=1) zEI.nd rfl (Or.inl rfl) (pv 3))))))
    (zf (zAT (pv 1)))),?_⟩
   refine⟨by show 0<=sizeLine;decide,fun e he=>⟨by show 1<=sizeLine;decide,fun l0 hl0=>?_⟩⟩
   have s0:=(zL (o:=.tup []) he).trans (zL (o:=.lst [.ref e]) hl0)
   have O0:zG4 (upd (upd H e (.tup [])) l0 (.lst [.ref e])) l0 (zAv 0):=⟨[e],zH,zE1.one (os:=[]) (zL hl0 _ _ zH)⟩
   refine⟨_,rfl,(n:Int),rfl,by omega,by omega,zBK (lo:=0) (n:=((n:Int)).toNat) (fun q σ H2=>∃(l:Addr)(v2 v3 v4:Option V),σ=[some (.int n),some (.ref l),v2,v3,v4]/\zAy H H2/\zG4 H2 l (zAv q)) ⟨l0,_,_,_,rfl,s0,O0⟩ (fun q σ H2 hq z=>?_) (fun σ H2 z=>?_)⟩
   . obtain⟨l,v2,v3,v4,rfl,s2,as,hl,TI⟩:=z
     rw[zAI]
     have hq6:q<6:=by omega
     refine⟨by show 0<=sizeLine;decide,fun wl hwl=>?_⟩
     have s3:=zL (o:=.lst []) hwl
     refine⟨_,rfl,l,rfl,⟨_,SqL.of (s3 _ _ hl)⟩,zDV (K:=K) (a:=l) (xs:=as.map V.ref) (fun i σ H3=>∃v4:Option V,σ=[some (.int n),some (.ref l),some (.int q),some (.ref wl),v4]/\zAy H2 H3/\zG4 H3 wl (((zAv q).take i).flatMap (zCg q))) ⟨_,rfl,s3,[],zH,rfl,fun i a os e=>by simp at e⟩ (fun i σ H3 _ z=>?_) (fun i x σ H3 hx z=>?_) (fun σ H3 z=>?_)⟩
     . obtain⟨_,_,s23,_⟩:=z
       exact SqL.of (s23 _ _ hl)
     . obtain⟨v4',rfl,s23,bs,hwl3,TB⟩:=z
       rw[zJ] at hx
       obtain⟨a,ha,rfl⟩:∃a,as[i]? = some a/\V.ref a=x:=by
        cases e:as[i]? with
        | none=>rw[e] at hx;cases hx
        | some a=>rw[e] at hx;exact⟨a,rfl,zP hx⟩
       have hiL:i<(zAv q).length:=by rw[<-TI.1];exact (zK.mp ha).1
       obtain⟨os,hos⟩:∃os,(zAv q)[i]? = some os:=⟨_,zC hiL⟩
       have hol:=zDK (zS hos)
       have ha3:H3 a=some (.tup (oV2 os)):=s23 _ _ (TI.2 i a os ha hos)
       have hvl:(oV2 os).length=q:=by rw[zB,zB,hol]
       refine⟨_,rfl,.inl ⟨rfl,_,SqL.of hwl3⟩,_,rfl,a,_,rfl,.inr (SqT.of ha3),_,_,rfl,rfl,?_⟩
       rw[hvl]
       refine⟨(q:Int)+1,rfl,by omega,by omega,[.ref a,.int q],rfl,fun D hD=>?_⟩
       refine zA0 (lo:=0) (n:=((q:Int)+1).toNat) (fun j ys H4=>j<=q+1/\∃cs:List Addr,ys=cs.map V.ref/\zAy H3 H4/\H4 D=some (.lst ys)/\zE1 H4 cs ((List.range j).map (zGD q os))) ⟨zh _,[],rfl,zL hD,zH,rfl,fun i a os e=>by simp at e⟩ (fun j ys H4 z=>?_) (fun j ys H4 hj z=>?_) (fun ys H4 z=>?_)
       . obtain⟨hj,cs,rfl,_,_,TC⟩:=z
         rw[zB,TC.1,zB,zu]
         exact zq (by omega)
       . obtain⟨_,cs,rfl,s34,h4,TC⟩:=z
         rw[zAI]
         have ha4:=s34 _ _ ha3
         refine⟨⟨rfl,rfl⟩,?_⟩
         refine zEZ ?_
         refine⟨_,rfl,_,rfl,_,rfl,a,_,rfl,ha4,fun p1 H5 s45 h5=>?_⟩
         rw[zJD] at h5
         refine⟨_,rfl,by show 1<=sizeLine;decide,fun p2 hp2=>?_⟩
         have s56:=zL (o:=.tup [.int q]) hp2
         have lz:∀m:Nat,m<=100->m<=sizeLine:=fun m hm=>zBo (zq (by omega))
         refine⟨p1,p2,_,_,rfl,rfl,s56 _ _ h5,zH,lz _ (by rw[zr];show min _ _+1<=100;omega),fun p3 H7 s67 h7=>?_⟩
         have s47:=(s45.trans s56).trans s67
         refine⟨_,rfl,_,rfl,_,rfl,a,_,rfl,s47 _ _ ha4,fun p4 H8 s78 h8=>?_⟩
         rw[zJE] at h8
         refine⟨p3,p4,_,_,rfl,rfl,s78 _ _ h7,h8,lz _ (by rw[zM,zr,List.length_drop];show min _ _+1+_<=100;omega),fun p5 H9 s89 h9=>?_⟩
         have s49:=(s47.trans s78).trans s89
         refine⟨s49 _ _ h4,by omega,cs++[p5],by rw[zN];rfl,zAr (s34.trans s49) hD,zH,?_⟩
         rw[zBR,zN]
         refine (zE1.chg ((TC.same s49).app (zE1.one (os:=zGD q os j) ?_)) (s49 _ _ h4))
         rw[h9]
         unfold zGD oV2
         rw[zN,zN,zz,zz,List.map_take,List.map_take,List.map_drop,List.map_drop,List.append_assoc]
         rfl
       . obtain⟨_,cs,rfl,s34,h4,TC⟩:=z
         have hw4:=s34 _ _ hwl3
         have nDw:D≠wl:=fun z=>by rw[z,hwl3] at hD;cases hD
         have eR:((List.range ((q:Int)+1).toNat).map (zGD q os))=zCg q os:=by
          unfold zCg
          rw[hol,show ((q:Int)+1).toNat=q+1 by omega]
         rw[eR] at TC
         have eT:((zAv q).take (i+1)).flatMap (zCg q)=((zAv q).take i).flatMap (zCg q)++zCg q os:=by rw[zy,hos,List.flatMap_append];show _++([os].flatMap _)=_;rw[List.flatMap_cons,List.flatMap_nil,zo]
         refine⟨wl,D,_,_,rfl,rfl,hw4,h4,?_,?_⟩
         . rw[zB,zB,TB.1,TC.1,zES,hol]
           have b1:(((zAv q).take i).flatMap (zCg q)).length=((zAv q).take i).length*(q+1):=zEt fun l hl=>zDK (List.mem_of_mem_take hl)
           have b2:=zDy q (by omega)
           rw[b1,zr]
           have b3:min i (zAv q).length*(q+1)<=720*7:=Nat.mul_le_mul (by omega) (by omega)
           exact zBo (zq (by omega))
         . refine⟨_,rfl,zAr (s23.trans s34) hwl,bs++cs,by rw[zH,zN],?_⟩
           rw[eT]
           exact zE1.chg ((TB.same s34).app TC) hw4
     . obtain⟨v4',rfl,s23,O3⟩:=z
       rw[zB,TI.1,zY (zI _)] at O3
       exact⟨_,rfl,wl,_,_,_,rfl,s2.trans s23,O3⟩
   . obtain⟨l,v2,v3,v4,rfl,s2,O2⟩:=z
     rw[zAF] at O2
     exact⟨_,rfl,k l H2 s2 O2⟩
end
end K37
namespace K37
open PySem L2 WM
theorem zAY.smT {H H':Hp}{t:Addr}{N:Nat}(h:zAY H t N)(k:SmT H H'):zAY H' t N:=by
 obtain⟨p,ns,spot,rest,a,b,c⟩:=h
 exact⟨p,ns,spot,rest,k.get a (by intro ps z;cases z),k.get b (by intro ps z;cases z),c⟩
theorem zBL.smT {H H':Hp}{sl:Addr}{R:List (List Int)}(h:zBL H sl R)(k:SmT H H'):zBL H' sl R:=by
 obtain⟨rs,a,b,c⟩:=h
 exact⟨rs,k.get a (by intro ps z;cases z),b,fun i r row x y=>k.get (c i r row x y) (by intro ps z;cases z)⟩
theorem zCk {H H':Hp}{t PT:Addr}{N:Nat}{pos:Pos}{q:Str}(T:zAY H t N)(k:Sm t H H')(h:zB7 H PT pos q):zB7 H' PT pos q:=by
 obtain⟨p,ns,spot,rest,a,_⟩:=T
 obtain⟨ps,hp,_⟩:=id h
 exact h.keep (fun o e=>k _ _ (zBw hp a (by intro z;cases z)) e) fun c φ e=>k _ _ (zBw e a (by intro z;cases z)) e
theorem at0 {nu:List Int}(h:0<nu.length):atI (nu.map V.int) 0=some (V.int (nu.getD 0 0)):=
 zBx (j:=0) (by rw[zJ,zD,zC h];rfl)
theorem zGN.perm {R:List (List Int)}{n:Nat}{nu:List Int}{os:List Nat}(o:zGN R n nu os)(h:os.length=n):os.Perm (List.range n):=by
 refine (List.perm_ext_iff_of_nodup o.nd List.nodup_range).mpr fun x=>?_
 rw[zAd]
 constructor
 . exact o.lt x
 . intro hx
   refine zBa fun c=>?_
   have:=zEo (l:=x::os) (l':=List.range n) (zAN.mpr ⟨c,o.nd⟩) fun y hy=>by
    rcases ze.mp hy with rfl | hy
    . exact zAd.mpr hx
    . exact zAd.mpr (o.lt y hy)
   rw[zt,zu] at this
   omega
theorem zMI {nu:List Int}(h:0<nu.length):atI (nu.map V.int) (-1)=some (V.int (nu.getD (nu.length-1) 0)):=by
 have e:nu=nu.dropLast++[nu.getLast (List.ne_nil_of_length_pos h)]:=(List.dropLast_concat_getLast _).symm
 have g:nu.getD (nu.length-1) 0=nu.getLast (List.ne_nil_of_length_pos h):=by
  rw[zD,zC (by omega),List.getLast_eq_getElem];rfl
 rw[g]
 generalize nu.getLast (List.ne_nil_of_length_pos h)=z at e
 rw[e,zN]
 exact zG3 _ _
theorem upd_3 {H:Hp}{dx e:Addr}{o1 o2 x:HO}(n:dx≠e):upd (upd (upd H dx o1) e x) dx o2=upd (upd H dx o2) e x:=by
 funext b
 by_cases h1:b=dx
 . subst h1;rw[zH,zX n,zH]
 . by_cases h2:b=e
   . subst h2;rw[zX h1,zH,zH]
   . rw[zX h1,zX h2,zX h1,zX h2,zX h1]
section
variable {P:Program}{w:World}{K:PySem.W.Frag}{mg:Str->Option Value}{base:Heap}
theorem scI1:zAB ["self", "word", "at"] ["self", "word", "at"] (defScope sI1):=⟨rfl,rfl,rfl,by decide +kernel,rfl,by decide +kernel,by decide +kernel⟩
theorem ok_I1 {C f:Addr}{fd':FuncData}(F:Fun K "__init__" "NoLeast.__init__" sI1 f fd') (EI:zG5 K C f)(mo:PySem.W.mroIn K C (.type "object")=some true) (n1:PySem.W.findIn K (.ref C) "word" = some none) (n2:PySem.W.findIn K (.ref C) "at" = some none):zAb P w K mg base CX0 1 f fd' ["self", "word", "at"] (spXI C "word" "at"):=by
 refine F.ok scI1 (fun vs H Q E h=>?_) (fun cdv A outer s H vs Q E hr h=>?_)
 . obtain⟨e,t,v1,v2,rfl,_⟩:=h
   rfl
 . obtain⟨e,t,v1,v2,rfl,he,k⟩:=h
   refine⟨_,zT (zIH EI mo n1 (pv 0) (pv 1)) (zf (zIH EI mo n2 (pv 0) (pv 2))),?_⟩
   refine⟨_,rfl,_,rfl,e,t,rfl,.inl ⟨he,fun dx hdx=>?_⟩⟩
   have ne:dx≠e:=fun z=>by rw[z,he] at hdx;cases hdx
   refine⟨_,rfl,_,rfl,e,t,rfl,.inr ⟨dx,_,zH,by rw[zX ne,zH],by show 1<900;decide,?_⟩⟩
   show Q _ _
   rw[upd_3 ne]
   exact k dx hdx ne
end
noncomputable abbrev nI (os:List Nat):List Int:=os.map fun (p:Nat)=>(p:Int)
theorem zFx.leOk {R:List (List Int)}{n:Nat}{nu:List Int}(d:zFx R n nu 0):zKg R n nu:=fun t ht h hh=>d.le t (zh _) ht h hh
theorem zCT {n:Nat}{os:List Nat}(pm:os.Perm (List.range n)):os.Nodup/\(∀p∈os,p<n)/\os.length=n/\snN os=2 ^ n-1:=by
 have nd:=pm.nodup_iff.mpr List.nodup_range
 have mm:∀p,p∈os↔p<n:=fun p=>by rw[pm.mem_iff,zAd]
 exact⟨nd,fun p hp=>(mm p).mp hp,by rw[pm.length_eq,zu],zLT nd mm⟩
theorem zKg.min {R:List (List Int)}{n:Nat}{nu:List Int}{os:List Nat}(d:zKg R n nu)(last:nu.getD (2 ^ n-1) 0=0)(pm:os.Perm (List.range n)):nu.getD 0 0<=(inA R 0 os:Nat):=by
 obtain⟨nd,lt,_,e⟩:=zCT pm
 have:=zK7 d (os:=os) (t:=0) (zDZ _) nd fun p hp=>⟨lt p hp,Nat.zero_testBit _⟩
 rw[Nat.zero_add,e,last] at this
 omega
theorem zC1 {n:Nat}{os:List Nat}(pm:os.Perm (List.range n)):zHm (n:Int) (nI os):=by
 obtain⟨nd,lt,ln,_⟩:=zCT pm
 refine⟨by rw[zB,ln];omega,?_,fun p hp=>?_⟩
 . rw[zAM,zAt]
   exact (zAM.mp nd).imp fun h=>by omega
 . obtain⟨q,hq,rfl⟩:=zp.mp hp
   have:=lt q hq
   omega
theorem zIN {n:Nat}{os:List Int}(O:zHm (n:Int) os):∃ps:List Nat,os=nI ps/\ps.Perm (List.range n):=by
 have e:os=nI (os.map Int.toNat):=by
  unfold nI
  rw[zBp]
  conv=>lhs;rw[<-List.map_id os]
  refine zBS fun x hx=>?_
  have:=O.rng x hx
  show x=((x.toNat:Nat):Int)
  omega
 refine⟨os.map Int.toNat,e,?_⟩
 have nd:(os.map Int.toNat).Nodup:=by
  rw[zAM,zAt]
  refine (zAM.mp O.nd).imp_of_mem fun ha hb h=>?_
  have:=O.rng _ ha
  have:=O.rng _ hb
  omega
 refine (List.perm_ext_iff_of_nodup nd List.nodup_range).mpr fun x=>?_
 rw[zAd]
 constructor
 . intro hx
   obtain⟨y,hy,rfl⟩:=zp.mp hx
   have:=O.rng y hy
   omega
 . intro hx
   exact zp.mpr ⟨(x:Int),O.mem (by omega) (by omega),by omega⟩
theorem zMb {ts:List T3}{n:Nat}{R:List (List Int)}(G:GW (n:Int) ts)(S:zDR ts n R){os:List Nat}(nd:os.Nodup)(lt:∀p∈os,p<n){h:Nat}(hh:h<n):brg R (snN os) h=cntF ts n (nI os) h:=by
 have hR:h<R.length:=by rw[S.rl];omega
 obtain⟨l,ro⟩:=S.ro h R[h] (zC hR)
 unfold brg cntF
 rw[zD,zC hR]
 show (R[h].filter _).length=_
 have key:=zEA (l:=R[h]) (f:=fun x=>x) (k:=lowTo ((n:Int)).toNat) (p:=cfB ((snN os:Nat):Int)) (q:=zIx ts (nI os) h) (by rw[l,zCW]) (fun i a b h1 h2=>by
  have hi:i<((n:Int)).toNat:=by
   have:=(zK.mp h2).1
   rw[zCW] at this
   exact this
  obtain⟨xs,e1,p1,m1⟩:=ro i hi
  rw[e1] at h1
  cases h1
  have eb:b=(i:Int):=by
   rw[lowTo,zJ,zBs hi] at h2
   exact (zP h2).symm
  subst eb
  rw[<-zGX]
  refine zMX G (by omega) (by omega) ?_ (fun x hx=>?_) p1 m1
  . rw[zAM,zAt]
    exact (zAM.mp nd).imp fun h=>by omega
  . obtain⟨q,hq,rfl⟩:=zp.mp hx
    have:=lt q hq
    omega)
 rw[List.map_id'] at key
 exact key
theorem zIq {R:List (List Int)}{os:List Nat}:∀m,m<=os.length->inA R 0 (os.take m)=((List.range m).map fun k=>brg R (snN (os.take k)) (os.getD k 0)).sum
 | 0,_=>rfl
 | m+1,hm=>by
  have e:os[m]? = some (os.getD m 0):=by rw[zD,zC (by omega)];rfl
  rw[(zGs (R:=R) e).1,zIq m (by omega),zBR,zN,List.sum_append]
  simp
theorem zFU {ts:List T3}{n:Nat}{R:List (List Int)}{os:List Nat}{rk:Int->Int}{ess:List (List En)}(G:GW (n:Int) ts)(S:zDR ts n R)(pm:os.Perm (List.range n))(Rk:zMc n (nI os) rk)(L:zJW ts n rk ess):((ess.map List.length).map fun k:Nat=>(k:Int)).sum=((inA R 0 os:Nat):Int):=by
 obtain⟨nd,lt,ln,_⟩:=zCT pm
 have h1:=zIq (R:=R) (os:=os) os.length (zI _)
 rw[zY (zI _)] at h1
 have h2:=zMa (bs:=(List.range os.length).map fun k=>brg R (snN (os.take k)) (os.getD k 0)) G (zC1 pm) Rk L (by rw[zB,zu,ln];omega) fun k h hk=>by
  rw[zJ] at hk
  obtain⟨q,hq,rfl⟩:∃q:Nat,os[k]? = some q/\(q:Int)=h:=by
   cases e:os[k]? with
   | none=>rw[e] at hk;cases hk
   | some q=>rw[e] at hk;exact⟨q,rfl,zP hk⟩
  have hkl:=(zK.mp hq).1
  rw[zJ,zBs hkl]
  show some (brg R (snN (os.take k)) (os.getD k 0))=_
  have eg:os.getD k 0=q:=by rw[zD,hq];rfl
  rw[eg,zMb G S (os:=os.take k) (nd.sublist (List.take_sublist _ _)) (fun p hp=>lt p (List.mem_of_mem_take hp)) (lt q (zS hq)),<-List.map_take]
 have h3:=zDa id (ess.map List.length)
 rw[List.map_id] at h3
 rw[h1,h2]
 exact h3
structure Thg (R:List (List Int))(n:Nat)(os:List Nat)(nu:List Int):Prop where
 pm:os.Perm (List.range n)
 ln:nu.length=2 ^ n
 last:nu.getD (2 ^ n-1) 0=0
 at0:nu.getD 0 0=(inA R 0 os:Nat)
noncomputable def zD3 (H:Hp)(th:Addr)(os:List Nat)(nu:List Int):Prop:=∃oa na:Addr,H th=some (.tup [.ref oa,.ref na])/\H oa=some (.tup ((nI os).map V.int))/\H na=some (.tup (nu.map V.int))
theorem zD3.keep {H H':Hp}{th:Addr}{os:List Nat}{nu:List Int}(h:zD3 H th os nu)(k:∀b ys,H b=some (.tup ys)->H' b=some (.tup ys)):zD3 H' th os nu:=by
 obtain⟨oa,na,a,b,c⟩:=h
 exact⟨oa,na,k _ _ a,k _ _ b,k _ _ c⟩
theorem zD3.same {H H':Hp}{th:Addr}{os:List Nat}{nu:List Int}(h:zD3 H th os nu)(k:zAy H H'):zD3 H' th os nu:=h.keep fun b ys e=>k _ _ e
end K37
namespace K37
open PySem L2 WM
noncomputable def zKm (PT:Addr):Sp:=fun vs H Q _=>∃(wa na:Addr)(n:Nat)(ts:List T3)(R:List (List Int))(nu:List Int),vs=[.ref wa,.ref na]/\zBd H wa n ts/\n<=8/\zDR ts n R/\H na=some (.tup (nu.map V.int))/\nu.length=2 ^ n/\Tb H PT /\
 (zKg R n nu->∀H',SmP PT H H'->Tb H' PT->Q .non H')/\(¬ zKg R n nu->∀(p:Addr)(t h:Int)(H':Hp),SmP PT H H'->Tb H' PT->H' p=some (.tup [.int t,.int h])->Q (.ref p) H')
section
variable {P:Program}{w:World}{K:PySem.W.Frag}{mg:Str->Option Value}{base:Heap}{PT:Addr}
theorem zE9:zAB ["web", "numbers", "sets", "taken", "number", "hub"] ["web", "numbers"] (defScope zH9):=⟨rfl,rfl,rfl,by decide +kernel,rfl,by decide +kernel,by decide +kernel⟩
theorem zLx {f fA fL fB:Addr}{fd' fdA fdL fdB:FuncData}(F:Fun K "step_fault" "step_fault" zH9 f fd')
 (FA:Fun K "all_sets" "all_sets" zHI fA fdA) (bA:zAA K fdA ["web"] []) (mA:mg "all_sets" = some (.ref fA)) (GA:zAb P w K mg base CX0 6 fA fdA ["web"] (zGV PT))
 (FL:Fun K "left_places" "left_places" sLpl fL fdL) (bL:zAA K fdL ["web", "taken"] []) (mL:mg "left_places" = some (.ref fL)) (GL:zAb P w K mg base CX0 6 fL fdL ["web", "taken"] zJm)
 (FB:Fun K "by_way_of" "by_way_of" zKx fB fdB) (bB:zAA K fdB ["sets", "numbers", "taken", "hub"] []) (mB:mg "by_way_of" = some (.ref fB)) (GB:zAb P w K mg base CX0 6 fB fdB ["sets", "numbers", "taken", "hub"] zH4) (mEnum:mg "enumerate" = none) :
 zAb P w K mg base CX0 7 f fd' ["web", "numbers"] (zKm PT):=by
 refine F.ok zE9 (fun vs H Q E h=>?_) (fun cdv A outer s H vs Q E hr h=>?_)
 . obtain⟨wa,na,n,ts,R,nu,rfl,_⟩:=h
   rfl
 . obtain⟨wa,na,n,ts,R,nu,rfl,W,n8,SR,hna,hnl,T,kY,kN⟩:=h
   obtain⟨ta,tys,hwa,_,_,G⟩:=id W
   have p8:=zDH n8
   have hRl:R.length=n:=by rw[SR.rl];omega
   have h24:∀row∈R,row.length<=24:=(SR.nn (by omega)).r24
   refine⟨_,zT (zAP (i:=2) zE9.nd rfl (Or.inl rfl) (zn GA hr rfl mA FA.kp bA .nil zAS (zE (pv 0) zO)))
    (zT (zBY PassesOwn.never rfl (zKB (by rfl) mEnum (zE (pv 1) zO)) (zDg rfl (zBI (zw (i:=3) zE9.nd rfl (Or.inl rfl)) (zBI (zw (i:=4) zE9.nd rfl (Or.inl rfl)) zCs)))
     (zf (zBY PassesOwn.never rfl (zBv (zn GL hr rfl mL FL.kp bL .nil zAS (zE (pv 0) (zE (pv 3) zO)))) (zw (i:=5) zE9.nd rfl (Or.inl rfl))
      (zf (zBz (zAQ zHO (pv 4) (zn GB hr rfl mB FB.kp bB .nil zAS (zE (pv 2) (zE (pv 1) (zE (pv 3) (zE (pv 5) zO))))) (zAa _)) (zf (zAT (zB8 (zE (pv 3) (zE (pv 5) zO))))) zAw)))))
    (zf (zAT zBy))),?_⟩
   refine⟨_,rfl,wa,(n:Int),ts,rfl,W,T,fun sl R' H1 sm1 T1 ST1 SR'=>?_⟩
   obtain rfl:=SR.uniq SR'
   have hna1:H1 na=some (.tup (nu.map V.int)):=sm1.get hna (by intro ps z;cases z)
   have hwa1:H1 wa=some (.tup [.int n,.ref ta]):=sm1.get hwa (by intro ps z;cases z)
   refine⟨_,rfl,na,rfl,⟨_,SqT.of hna1⟩,zIy (K:=K) (a:=na) (xs:=nu.map V.int) (fun i σ H2=>∃(v3 v4 v5:Option V),σ=[some (.ref wa),some (.ref na),some (.ref sl),v3,v4,v5]/\zAy H1 H2/\∀t,t<i->∀h∈zAm t n,nu.getD t 0<=cst R nu t h)
    ⟨_,_,_,rfl,zAy.refl _,fun t ht=>absurd ht (Nat.not_lt_zero _)⟩ (fun i σ H2 _ ⟨_,_,_,_,s2,_⟩=>SqT.of (s2 _ _ hna1)) ?turn ?after⟩
   case after=>
    rintro σ H2 ⟨v3,v4,v5,rfl,s2,le⟩
    rw[zB,hnl] at le
    exact kY le H2 (sm1.trans (SmP.of s2)) (T1.same s2)
   case turn=>
    rintro i x σ H2 Tp hx ⟨v3,v4,v5,rfl,s2,le⟩ hTp
    obtain⟨y,hy,rfl⟩:=int_at hx
    have hi:i<2 ^ n:=by rw[<-hnl];exact (zK.mp hy).1
    have ey:nu.getD i 0=y:=by rw[zD,hy];rfl
    have s3:=s2.trans (zL (o:=.tup [.int (i:Int),.int y]) hTp)
    refine⟨Tp,_,rfl,SqT.of zH,rfl,_,_,rfl,_,_,rfl,rfl,?_⟩
    generalize upd H2 Tp (.tup [.int (i:Int),.int y])=H3 at s3 ⊢
    refine⟨_,rfl,_,rfl,wa,ta,n,i,rfl,s3 _ _ hwa1,by omega,fun l H4 _ s4 hl=>?_⟩
    have s14:=s3.trans s4
    refine⟨l,rfl,⟨_,SqL.of hl⟩,zDV (K:=K) (a:=l) (xs:=(zAm i n).map fun (p:Nat)=>V.int p) (fun j σ H5=>∃(v5:Option V),σ=[some (.ref wa),some (.ref na),some (.ref sl),some (.int i),some (.int y),v5]/\zAy H4 H5/\∀h∈(zAm i n).take j,nu.getD i 0<=cst R nu i h) ⟨_,rfl,zAy.refl _,fun h hh=>by simp at hh⟩ (fun j σ H5 _ z=>?_) (fun j v σ H5 hv z=>?_) (fun σ H5 z=>?_)⟩
    . obtain⟨_,_,s5,_⟩:=z
      exact SqL.of (s5 _ _ hl)
    . obtain⟨v5',rfl,s5,le'⟩:=z
      obtain⟨h,hh,rfl⟩:∃h:Nat,(zAm i n)[j]? = some h/\V.int h=v:=by
       rw[zJ] at hv
       cases e:(zAm i n)[j]? with
       | none=>rw[e] at hv;cases hv
       | some h=>rw[e] at hv;exact⟨h,rfl,zP hv⟩
      have hm:=zS hh
      obtain⟨q1,q2⟩:=zBk.mp hm
      have hlt:=zEW hi q1 q2
      have s15:=s14.trans s5
      refine⟨_,rfl,_,rfl,_,rfl,_,rfl,_,rfl,sl,na,R,nu,i,h,rfl,ST1.same s15,s15 _ _ hna1,by rw[hRl];exact q1,q2,by rw[hnl];exact hlt,h24,by omega,fun H6 s6=>?_⟩
      refine⟨_,_,rfl,rfl,_,rfl,zFT (fun c=>?_) (fun c=>?_)⟩
      . have c:=of_decide_eq_true c
        refine⟨_,rfl,_,rfl,by show 2<=sizeLine;decide,fun p hp=>?_⟩
        have s17:=(s15.trans s6).trans (zL (o:=.tup [.int (i:Int),.int (h:Int)]) hp)
        refine kN (fun z=>?_) p i h _ (sm1.trans (SmP.of s17)) (T1.same s17) zH
        have:=z i hi h hm
        unfold cst at this
        omega
      . have c:¬ _:=fun z=>c (zU z)
        refine⟨_,rfl,s5.trans s6,fun g hg=>?_⟩
        rw[zy,hh] at hg
        rcases zAC.mp hg with hg | hg
        . exact le' g hg
        . obtain rfl:g=h:=by simpa using hg
          unfold cst
          omega
    . obtain⟨v5',rfl,s5,le'⟩:=z
      rw[zB,zY (zI _)] at le'
      refine⟨_,_,_,rfl,s14.trans s5,fun t ht h hh=>?_⟩
      by_cases c:t=i
      . subst c;exact le' h hh
      . exact le t (by omega) h hh
end
end K37
namespace K37
open PySem L2 WM
noncomputable def zH1:Sp:=fun vs H Q _=>∃(wa th:Addr)(n:Nat)(ts:List T3)(os:List Nat)(nu:List Int),vs=[.ref wa,.ref th]/\zBd H wa n ts/\n<=8/\zD3 H th os nu/\os.Perm (List.range n)/\nu.length=2 ^ n/\∀H',zAy H H'->Q (.bl true) H'
structure zKf (PT:Addr)(H:Hp)(wa th:Addr)(n:Nat)(ts:List T3)(R:List (List Int))(os:List Nat)(nu:List Int):Prop where
 wb:zBd H wa n ts
 n8:n<=8
 th:zD3 H th os nu
 sr:zDR ts n R
 tg:Thg R n os nu
 tb:Tb H PT
noncomputable def zH0 (PT C:Addr):Sp:=fun vs H Q E=>∃(wa th:Addr)(n:Nat)(ts:List T3)(R:List (List Int))(os:List Nat)(nu:List Int),vs=[.ref wa,.ref th]/\zKf PT H wa th n ts R os nu /\
 (zKg R n nu->∀H',SmP PT H H'->Tb H' PT->Q (.bl true) H')/\(¬ zKg R n nu->∀od H',SmP PT H H'->Tb H' PT->E (.ref C) od H')
noncomputable def spLet (PT:Addr):Sp:=fun vs H Q _=>∃(wa th:Addr)(n:Nat)(ts:List T3)(R:List (List Int))(os:List Nat)(nu:List Int),vs=[.ref wa,.ref th]/\zKf PT H wa th n ts R os nu /\
 ∀(b:Bool)(H':Hp),(b=true↔zKg R n nu)->SmP PT H H'->Tb H' PT->Q (.bl b) H'
theorem zD3.smP {PT:Addr}{H H':Hp}{th:Addr}{os:List Nat}{nu:List Int}(h:zD3 H th os nu)(k:SmP PT H H'):zD3 H' th os nu:=h.keep fun b ys e=>k.get e (by intro ps z;cases z)
theorem zBd.smP {PT:Addr}{H H':Hp}{wa:Addr}{n:Int}{ts:List T3}(h:zBd H wa n ts)(k:SmP PT H H'):zBd H' wa n ts:=h.keepT fun b ys e=>k.get e (by intro ps z;cases z)
section
variable {P:Program}{w:World}{K:PySem.W.Frag}{mg:Str->Option Value}{base:Heap}{PT:Addr}
theorem scIown:zAB ["web", "thing"] ["web", "thing"] (defScope zID):=⟨rfl,rfl,rfl,by decide +kernel,rfl,by decide +kernel,by decide +kernel⟩
theorem zL6 {f fT fO fN:Addr}{fd' fdT fdO fdN:FuncData}(F:Fun K "is_order_with_numbers" "is_order_with_numbers" zID f fd') (FT:Fun K "is_tuple_of" "is_tuple_of" sTof fT fdT) (bT:zAA K fdT ["thing", "count"] []) (mT:mg "is_tuple_of" = some (.ref fT)) (GT:zAb P w K mg base CX0 4 fT fdT ["thing", "count"] zLL)
 (FO:Fun K "is_order" "is_order" sOrd fO fdO) (bO:zAA K fdO ["web", "thing"] []) (mO:mg "is_order" = some (.ref fO)) (GO:zAb P w K mg base CX0 4 fO fdO ["web", "thing"] zJl)
 (FN:Fun K "is_number" "is_number" zKw fN fdN) (bN:zAA K fdN ["thing"] []) (mN:mg "is_number" = some (.ref fN)) (GN:zAb P w K mg base CX0 4 fN fdN ["thing"] zLM) (mAll:mg "all" = none):zAb P w K mg base CX0 5 f fd' ["web", "thing"] zH1:=by
 refine F.ok scIown (fun vs H Q E h=>?_) (fun cdv A outer s H vs Q E hr h=>?_)
 . obtain⟨wa,th,n,ts,os,nu,rfl,_⟩:=h
   rfl
 . obtain⟨wa,th,n,ts,os,nu,rfl,W,n8,⟨oa,na,hth,hoa,hna⟩,pm,hnl,k⟩:=h
   obtain⟨ta,tys,hwa,_,_,G⟩:=id W
   have p8:=zDH n8
   refine⟨_,zT (zBz (PW.pt (zHK (zDN (zCe (zn GT hr rfl mT FT.kp bT .nil zAS (zE (pv 1) (zE zj zO)))))
    (zEJ (zDN (zCe (zn GO hr rfl mO FO.kp bO .nil zAS (zE (pv 0) (zE (zAK zAp (pv 1) zj (fun _ _=>rfl)) zO)))))))) zDO zAw)
    (zf (zAT (zEL (zn GT hr rfl mT FT.kp bT .nil zAS (zE (zAK zAp (pv 1) zj (fun _ _=>rfl)) (zE (zAc zCN zj (zAK zAp (pv 0) zj (fun _ _=>rfl))) zO)))
     (zFI (zAL (zEx rfl) (by rfl) mAll (by decide +kernel) (zE (zA8 (own:=["number"]) (cn:=[]) (ci:=[]) rfl (csc rfl rfl) trivial rfl (zC0 (zAK zAp (pv 1) zj (fun _ _=>rfl))) (fun _ _ _ _=>zw (i:=0) (zBn rfl) rfl (Or.inl rfl))
      (fun _ _ _ _=>zBP) (fun _ _ _ _=>zn GN hr rfl mN FN.kp bN .nil zAS (zE (pv 0) zO))) zO)))))),?_⟩
   refine⟨_,rfl,th,[.ref oa,.ref na],rfl,hth,_,rfl,zD2 ?_⟩
   refine⟨_,rfl,_,rfl,th,_,_,.ref oa,rfl,rfl,SqT.of hth,rfl,wa,oa,n,ts,nI os,rfl,W,hoa,zC1 pm,fun H1 s1=>?_⟩
   refine⟨_,rfl,zD2 ?_⟩
   have hna1:=s1 _ _ hna
   refine⟨_,rfl,th,_,_,.ref na,rfl,rfl,SqT.of (s1 _ _ hth),rfl,_,rfl,wa,_,_,_,rfl,rfl,SqT.of (s1 _ _ hwa),rfl,1,(n:Int),rfl,rfl,⟨by omega,by omega,by decide⟩,na,nu.map V.int,?_,hna1,true,rfl,zGq ?_⟩
   . show [V.ref na,V.int (1*2 ^ ((n:Int)).toNat)]=_
     rw[zCG,zB,hnl]
   refine⟨_,rfl,th,_,_,.ref na,rfl,rfl,SqT.of (s1 _ _ hth),rfl,na,rfl,⟨_,SqT.of hna1⟩,[],rfl,fun D hD=>?_⟩
   refine zCl (a:=na) (xs:=nu.map V.int) (fun i ys H4=>i<=nu.length/\ys=(List.replicate i true).map V.bl/\H4=upd H1 D (.lst ys)) ⟨zh _,rfl,rfl⟩ (fun i ys H4 h=>?_) (fun i ys H4 h=>?_) (fun i v ys H4 hv h=>?_) (fun ys H4 h=>?_)
   . obtain⟨_,_,rfl⟩:=h
     exact SqT.of (by rw[zX (zi hna1 hD)];exact hna1)
   . obtain⟨hi,rfl,_⟩:=h
     rw[zB,zAH]
     exact zq (by omega)
   . obtain⟨_,rfl,rfl⟩:=h
     obtain⟨x,hx,rfl⟩:=int_at hv
     refine⟨⟨rfl,rfl⟩,?_⟩
     refine zEZ ?_
     refine⟨_,rfl,x,rfl,?_⟩
     refine⟨zH,(zK.mp hx).1,?_,zBX⟩
     rw[List.replicate_succ',zN];rfl
   . obtain⟨_,rfl,rfl⟩:=h
     refine⟨D,List.replicate (nu.map V.int).length true,rfl,SqL.of zH,?_⟩
     have hall:(List.replicate (nu.map V.int).length true).all id=true:=zBH.mpr fun b hb=>(List.mem_replicate.mp hb).2
     rw[hall]
     exact k _ (s1.trans (zL hD))
theorem zKu:zAB ["web", "thing", "at"] ["web", "thing"] (defScope zIC):=⟨rfl,rfl,rfl,by decide +kernel,rfl,by decide +kernel,by decide +kernel⟩
theorem zL4 {C f fI fR fO fS fB fT:Addr}{fd' fdI fdR fdO fdS fdB fdT:FuncData}(F:Fun K "lets_least" "lets_least" zIC f fd') (mC:mg "NoLeast" = some (.ref C)) (EI:zG5 K C fI)(bI:zAA K fdI ["self", "word", "at"] []) (GI:zAb P w K mg base CX0 6 fI fdI ["self", "word", "at"] (spXI C "word" "at"))
 (FR:Fun K "refuse_too_many" "refuse_too_many" sRtm fR fdR) (bR:zAA K fdR ["web"] []) (mR:mg "refuse_too_many" = some (.ref fR)) (GR:zAb P w K mg base CX0 7 fR fdR ["web"] zJk)
 (FO:Fun K "is_order_with_numbers" "is_order_with_numbers" zID fO fdO) (bO:zAA K fdO ["web", "thing"] []) (mO:mg "is_order_with_numbers" = some (.ref fO)) (GO:zAb P w K mg base CX0 7 fO fdO ["web", "thing"] zH1)
 (FS:Fun K "step_fault" "step_fault" zH9 fS fdS) (bS:zAA K fdS ["web", "numbers"] []) (mS:mg "step_fault" = some (.ref fS)) (GS:zAb P w K mg base CX0 7 fS fdS ["web", "numbers"] (zKm PT))
 (FB:Fun K "by_order" "by_order" sByo fB fdB) (bB:zAA K fdB ["web", "order"] []) (mB:mg "by_order" = some (.ref fB)) (GB:zAb P w K mg base CX0 7 fB fdB ["web", "order"] (zJo PT))
 (FT:Fun K "total" "total" sTot fT fdT) (bT:zAA K fdT ["labels"] []) (mT:mg "total" = some (.ref fT)) (GT:zAb P w K mg base CX0 7 fT fdT ["labels"] spTot):zAb P w K mg base (CXI P w) 8 f fd' ["web", "thing"] (zH0 PT C):=by
 refine F.okI zKu (fun vs H Q E h=>?_) (fun cdv A outer s H vs Q E hr h=>?_)
 . obtain⟨wa,th,n,ts,R,os,nu,rfl,_⟩:=h
   rfl
 . obtain⟨wa,th,n,ts,R,os,nu,rfl,L,kY,kN⟩:=h
   obtain⟨ta,tys,hwa,_,_,G⟩:=id L.wb
   obtain⟨oa,na,hth,hoa,hna⟩:=id L.th
   have hnl:0<nu.length:=by rw[L.tg.ln];exact zDZ _
   have n8:=L.n8
   refine⟨_,zT (zCI (zn GR hr rfl mR FR.kp bR .nil zAS (zE (pv 0) zO)))
    (zT (zBz (zDN (zCe (zn GO hr rfl mO FO.kp bO .nil zAS (zE (pv 0) (zE (pv 1) zO))))) zDO zAw)
    (zT (zBz (zAQ zHN (zAK zAp (zAK zAp (pv 1) zj (fun _ _=>rfl)) (zEm (zFH zDM zj) (fun σ H Q q=>⟨1,rfl,q⟩)) (fun _ _=>rfl)) zj (zAa _)) zDO zAw)
    (zT (zAP (i:=2) zKu.nd rfl (Or.inl rfl) (zn GS hr rfl mS FS.kp bS .nil zAS (zE (pv 0) (zE (zAK zAp (pv 1) zj (fun _ _=>rfl)) zO))))
    (zT (zBz (zAQ zF5 (pv 2) zBy (zAa _)) (zf (zIG (E:=E) rfl mC EI rfl GI hr bI (zE pe_str (zE (pv 2) zO)) (fun pins σ H s ea tt dx I he hn h0 hE=>zLe I he rfl rfl rfl rfl hn h0 hE))) zAw)
    (zT (zBz (zAQ zHN (zAK zAp (zAK zAp (pv 1) zj (fun _ _=>rfl)) zj (fun _ _=>rfl)) (zn GT hr rfl mT FT.kp bT .nil zAS (zE (zn GB hr rfl mB FB.kp bB .nil zAS (zE (pv 0) (zE (zAK zAp (pv 1) zj (fun _ _=>rfl)) zO))) zO)) (zAa _)) zDO zAw)
    (zf (zAT zF4))))))),?_⟩
   refine⟨_,rfl,wa,ta,n,rfl,hwa,n8,?_⟩
   refine⟨_,rfl,_,rfl,wa,th,n,ts,os,nu,rfl,L.wb,n8,L.th,L.tg.pm,L.tg.ln,fun H1 s1=>?_⟩
   refine⟨_,rfl,zD2 ?_⟩
   refine⟨_,rfl,th,_,_,.ref na,rfl,rfl,SqT.of (s1 _ _ hth),rfl,na,_,-1,.int (nu.getD (nu.length-1) 0),rfl,rfl,SqT.of (s1 _ _ hna),zMI hnl,rfl,_,rfl,ifF ?_ ?_⟩
   . rw[L.tg.ln,L.tg.last];rfl
   refine⟨_,rfl,_,rfl,th,_,_,.ref na,rfl,rfl,SqT.of (s1 _ _ hth),rfl,wa,na,n,ts,R,nu,rfl,L.wb.keep s1,n8,L.sr,s1 _ _ hna,L.tg.ln,L.tb.same s1,fun le H2 sm2 T2=>?_,fun nle p t h H2 sm2 T2 _=>?_⟩
   . refine⟨_,rfl,rfl,_,rfl,ifF (by rfl) ?_⟩
     have sm:SmP PT H H2:=(SmP.of s1).trans sm2
     have hth2:H2 th=some (.tup [.ref oa,.ref na]):=sm.get hth (by intro ps z;cases z)
     have hna2:H2 na=some (.tup (nu.map V.int)):=sm.get hna (by intro ps z;cases z)
     have hoa2:H2 oa=some (.tup ((nI os).map V.int)):=sm.get hoa (by intro ps z;cases z)
     refine⟨_,rfl,th,_,_,.ref na,rfl,rfl,SqT.of hth2,rfl,na,_,_,.int (nu.getD 0 0),rfl,rfl,SqT.of hna2,at0 hnl,?_⟩
     refine⟨_,rfl,_,rfl,th,_,_,.ref oa,rfl,rfl,SqT.of hth2,rfl,wa,oa,n,ts,nI os,rfl,L.wb.smP sm,hoa2,zC1 L.tg.pm,T2,fun l ess rk H3 sm3 T3 LA RK LO=>?_⟩
     refine⟨l,_,rfl,LA.tlen,by rw[zB,LO.1];omega,fun H4 s4=>?_⟩
     refine⟨rfl,_,rfl,ifF (by rw[zFU G L.sr L.tg.pm RK LO,L.tg.at0];simp) ?_⟩
     exact kY le H4 ((sm.trans sm3).trans (SmP.of s4)) (T3.same s4)
   . refine⟨_,rfl,rfl,_,rfl,ifT (by rfl) ?_⟩
     refine⟨_,rfl,_,_,rfl,fun tt dx ht hd ne=>?_⟩
     have s3:zAy H2 (upd (upd H2 tt (.tup [.str "step",.ref p])) dx (dO dx [("word",.str "step"),("at",.ref p)])):=(zL ht).trans (zL (by rw[zX (Ne.symm ne)];exact hd))
     exact kN nle _ _ (((SmP.of s1).trans sm2).trans (SmP.of s3)) (T2.same s3)
theorem zJv:zAB ["_law_web_here", "_law_thing", "_law_found"] ["_law_web_here", "_law_thing"] (defScope sLet):=⟨rfl,rfl,rfl,by decide +kernel,rfl,by decide +kernel,by decide +kernel⟩
theorem ok_let {C f fI fL:Addr}{fd' fdL:FuncData}(F:Fun K "_law_let" "_law_let" sLet f fd') (mC:mg "NoLeast" = some (.ref C)) (EI:zG5 K C fI)(sb:L2.subIn K C C=true)
 (FL:Fun K "lets_least" "lets_least" zIC fL fdL) (bL:zAA K fdL ["web", "thing"] []) (mL:mg "lets_least" = some (.ref fL)) (GL:zAb P w K mg base (CXI P w) 8 fL fdL ["web", "thing"] (zH0 PT C)):zAb P w K mg base CX0 9 f fd' ["_law_web_here", "_law_thing"] (spLet PT):=by
 have qC:zLA K C=true:=by unfold zLA;rw[EI.cl];rfl
 refine F.ok zJv (fun vs H Q E h=>?_) (fun cdv A outer s H vs Q E hr h=>?_)
 . obtain⟨wa,th,n,ts,R,os,nu,rfl,_⟩:=h
   rfl
 . obtain⟨wa,th,n,ts,R,os,nu,rfl,L,k⟩:=h
   refine⟨_,zT (zAP (i:=2) zJv.nd rfl (Or.inl rfl) zF4)
    (zT (zLi rfl rfl rfl mC qC (zJ5 (i:=2) zJv.nd rfl (Or.inl rfl) GL hr rfl mL FL.kp bL (zE (pv 0) (zE (pv 1) zO)) zF4)
     (fun ea oe=>zf (zAP (i:=2) zJv.nd rfl (Or.inl rfl) zF4)))
    (zf (zAT (pv 2)))),?_⟩
   refine⟨_,rfl,_,rfl,wa,th,n,ts,R,os,nu,rfl,L,fun le H' sm T'=>?_,fun nle od H' sm T'=>?_⟩
   . exact⟨_,_,rfl,rfl,_,rfl,k true H' ⟨fun _=>le,fun _=>rfl⟩ sm T'⟩
   . exact⟨C,rfl,qC,sb,_,rfl,k false H' ⟨fun z=>(Bool.noConfusion z),fun z=>absurd z nle⟩ sm T'⟩
end
end K37
namespace K37
open PySem L2 WM
theorem zCF {H:Hp}{t a:Addr}{N:Nat}{ns:List Int}(T:zAY H t N)(h:H a=some (.lst (ns.map V.int))):a≠t:=fun z=>by
 obtain⟨p,ms,sp,re,e,_⟩:=T
 rw[z,e] at h
 cases ns with
 | nil=>cases h
 | cons x l=>cases h
theorem zCc {H:Hp}{t a:Addr}{N:Nat}{rs:List Addr}(T:zAY H t N)(h:H a=some (.lst (rs.map V.ref))):a≠t:=fun z=>by
 obtain⟨p,ms,sp,re,e,_⟩:=T
 rw[z,e] at h
 cases rs with
 | nil=>cases h
 | cons x l=>cases l with
  | nil=>cases h
  | cons y l=>cases h
theorem zBL.sm {H H':Hp}{sl t:Addr}{N:Nat}{R:List (List Int)}(h:zBL H sl R)(T:zAY H t N)(k:Sm t H H'):zBL H' sl R:=by
 obtain⟨rs,a,b,c⟩:=h
 exact⟨rs,k _ _ (zCc T a) a,b,fun i r row x y=>k _ _ (zCF T (c i r row x y)) (c i r row x y)⟩
noncomputable def spLeo:Sp:=fun vs H Q _=>∃(t sl nl:Addr)(N:Nat)(R:List (List Int))(nu:List Int),vs=[.ref t,.ref sl,.ref nl]/\zAY H t N/\N<800000/\zBL H sl R/\NN R/\1<=R.length/\H nl=some (.lst (nu.map V.int))/\zFx R R.length nu 0 /\
 ∀(oa:Addr)(os:List Nat)(H':Hp),Sm t H H'->zAY H' t (N+8)->H' oa=some (.tup ((nI os).map V.int))->zGN R R.length nu os->os.length=R.length->Q (.ref oa) H'
theorem zMF (os:List Nat)(h:Nat):(nI (os++[h])).map V.int=(nI os).map V.int++[V.int h]:=by unfold nI;rw[zN,zN];rfl
section
variable {P:Program}{w:World}{K:PySem.W.Frag}{mg:Str->Option Value}{base:Heap}{PT:Addr}
theorem zFz:zAB ["_law_tape_here", "_law_masks_here", "_law_least_here", "_law_some", "_law_found", "_law_turn", "_law_rest", "_law_good"] ["_law_tape_here", "_law_masks_here", "_law_least_here"] (defScope sLeo):=⟨rfl,rfl,rfl,by decide +kernel,rfl,by decide +kernel,by decide +kernel⟩
theorem ok_leo {f fB fD:Addr}{fd' fdB fdD:FuncData}(F:Fun K "_law_least_order" "_law_least_order" sLeo f fd') (FB:Fun K "_law_brought" "_law_brought" zLb fB fdB) (bB:zAA K fdB ["_law_masks_here", "_law_some", "_law_hub"] []) (mB:mg "_law_brought" = some (.ref fB))
 (FD:Fun K "_law_draw" "_law_draw" zEh fD fdD) (bD:zAA K fdD ["_law_tape_here", "_law_many"] []) (mD:mg "_law_draw" = some (.ref fD)) (mLen:mg "len" = none) (mRange:mg "range" = none) (mTuple:mg "tuple" = none):zAb P w K mg base CX0 2 f fd' ["_law_tape_here", "_law_masks_here", "_law_least_here"] spLeo:=by
 have GB:zAb P w K mg base CX0 1 fB fdB ["_law_masks_here", "_law_some", "_law_hub"] zJq:=zIT FB mLen
 have GD:zAb P w K mg base CX0 1 fD fdD ["_law_tape_here", "_law_many"] zEd:=zDT FD mLen
 refine F.ok zFz (fun vs H Q E h=>?_) (fun cdv A outer s H vs Q E hr h=>?_)
 . obtain⟨t,sl,nl,N,R,nu,rfl,_⟩:=h
   rfl
 . obtain⟨t,sl,nl,N,R,nu,rfl,TT,hN,ST,NR,n1,hnl,dp,k⟩:=h
   obtain⟨rs,hsl,hrl⟩:=ST.len
   have n8:=NR.n8
   have p8:=zDH n8
   have nslt:=zCc TT hsl
   have nnlt:=zCF TT hnl
   obtain⟨tp,TP⟩:=id TT
   refine⟨_,zT (zAP (i:=3) zFz.nd rfl (Or.inr rfl) zj) (zT (zAP (i:=4) zFz.nd rfl (Or.inl rfl) (zB9 zO))
    (zT (zBY PassesOwn.never rfl (zAZ rfl mRange (zE (zAL zAX (by rfl) mLen PySem.boot_len (zE (pv 1) zO)) zO)) (zw (i:=5) zFz.nd rfl (Or.inl rfl))
     (zT (zDe (i:=6) (own:=["_law_hub"]) (cn:=["_law_some"]) (ci:=[3]) zFz.nd rfl (Or.inl rfl) rfl (csc rfl rfl) ⟨rfl,rfl,rfl,trivial⟩ rfl (zAZ rfl mRange (zE (zAL zAX (by rfl) mLen PySem.boot_len (zE (pv 1) zO)) zO)) (fun _ _ _ _=>zw (i:=0) (zBn rfl) rfl (Or.inl rfl))
      (fun _ _ _ _=>zCH (zAQ zCU (zAc zFK (zAc zKz (pv 1) (pv 0)) zj) zj (zAa _))) (fun _ _ _ _=>pv 0))
     (zT (zDe (i:=7) (own:=["_law_hub"]) (cn:=["_law_masks_here", "_law_some", "_law_least_here"]) (ci:=[1,3,2]) zFz.nd rfl (Or.inl rfl) rfl (csc rfl rfl) ⟨rfl,rfl,rfl,rfl,rfl,rfl,rfl,rfl,rfl,trivial⟩ rfl (zBv (pv 6)) (fun _ _ _ _=>zw (i:=0) (zBn rfl) rfl (Or.inl rfl))
      (fun _ _ _ _=>zCH (zAQ zCU (zAc zBe (zn GB hr rfl mB FB.kp bB .nil zAS (zE (pv 1) (zE (pv 2) (zE (pv 0) zO)))) (zAK zC7 (pv 3) (zAc zBe (pv 2) (zAc zCN zj (pv 0))) (fun _ _=>rfl))) (zAK zC7 (pv 3) (pv 2) (fun _ _=>rfl)) (zAa _))) (fun _ _ _ _=>pv 0))
     (zT (zCI (zD4 PySem.F.plainAttrs_list PySem.F.slot_list_append PySem.F.type_list_append zBi (pv 4) (zE (zAK zAU (pv 7) (zn GD hr rfl mD FD.kp bD .nil zAS (zE (pv 0) (zE (zAL zAX (by rfl) mLen PySem.boot_len (zE (pv 7) zO)) zO))) (fun _ _=>rfl)) zO)))
     (zf (zAP (i:=3) zFz.nd rfl (Or.inr rfl) (zAc zBe (pv 3) (zAc zCN zj (zAK zAU (pv 4) (zEm (zFH zDM zj) (fun σ H Q q=>⟨1,rfl,q⟩)) (fun _ _=>rfl))))))))))
    (zf (zAT (zBD zAf (by rfl) mTuple (by decide +kernel) (zE (pv 4) zO)))))),?_⟩
   obtain⟨n,en⟩:∃n,n=R.length:=⟨_,rfl⟩
   rw[<-en] at n1 k hrl dp n8 p8
   refine⟨by show 0<=sizeLine;decide,fun fo hfo=>?_⟩
   have nfot:=TT.ne hfo
   have nfop:fo≠tp:=fun z=>by
    obtain⟨_,_,_,_,e,_⟩:=TP
    rw[z,e] at hfo;cases hfo
   have s0:=zL (o:=.lst []) hfo
   refine⟨_,rfl,sl,_,rfl,.inl (SqL.of (s0 _ _ hsl)),?_⟩
   rw[hrl]
   refine⟨(n:Int),rfl,by omega,by omega,zBK (lo:=0) (n:=((n:Int)).toNat) (fun q σ H2=>∃(v5 v6 v7:Option V)(os:List Nat),σ=[some (.ref t),some (.ref sl),some (.ref nl),some (.int (snN os:Nat)),some (.ref fo),v5,v6,v7]/\os.length=q/\zGN R n nu os/\Sm t H H2/\zD0 H2 t tp (N+q)/\H2 fo=some (.lst ((nI os).map V.int)))
    ⟨_,_,_,[],rfl,rfl,zGN.nil,Sm.of s0,TP.keepF (fun o e=>s0 _ _ e) (fun o e=>s0 _ _ e) (zI _),zH⟩ (fun q σ H2 hq z=>?_) (fun σ H2 z=>?_)⟩
   . obtain⟨v5,v6,v7,os,rfl,hol,O,s2,T2,h2⟩:=z
     rw[zAI]
     obtain⟨tt,et⟩:∃tt,tt=snN os:=⟨_,rfl⟩
     rw[<-et]
     have hlt:=zH5 O.nd O.lt
     have hsl2:=s2 _ _ nslt hsl
     have hnl2:=s2 _ _ nnlt hnl
     refine⟨_,rfl,sl,_,rfl,.inl (SqL.of hsl2),?_⟩
     rw[hrl]
     refine⟨(n:Int),rfl,by omega,by omega,[.int tt],rfl,fun D hD=>?_⟩
     refine zA0 (lo:=0) (n:=((n:Int)).toNat) (fun q ys H4=>q<=n/\ys=(zAm tt q).map (fun (p:Nat)=>V.int p)/\H4=upd H2 D (.lst ys)) ⟨zh _,rfl,rfl⟩ (fun q ys H4 z=>?_) (fun q ys H4 hq z=>?_) (fun ys H4 z=>?_)
     . obtain⟨hq,rfl,_⟩:=z
       rw[zB]
       refine zAD (zv _ _) ?_
       rw[zu]
       exact zq (by omega)
     . obtain⟨_,rfl,rfl⟩:=z
       rw[zAI]
       have st:zAm tt (q+1)=zAm tt q++[q].filter fun p=>!tt.testBit p:=by unfold zAm;rw[zBR,zAl]
       refine⟨⟨rfl,rfl⟩,?_⟩
       refine⟨_,rfl,_,rfl,(tt:Int),(q:Int),rfl,rfl,by omega,_,_,rfl,rfl,rfl,_,rfl,?_⟩
       dsimp only
       rw[zCB,zG2]
       cases c:tt.testBit q with
       | false=>
        refine zGq ?_
        refine⟨_,rfl,zH,by omega,?_,zBX⟩
        rw[st,zAV (by rw[c];rfl),zAO,zN];rfl
       | true=>
        refine zD2 ⟨by omega,?_,rfl⟩
        rw[st,zAG (by rw[c];decide),zAO,zo]
     . obtain⟨_,rfl,rfl⟩:=z
       rw[zAF]
       have s3:=zL (o:=.lst ((zAm tt n).map fun (p:Nat)=>V.int p)) hD
       have h3:(upd H2 D (.lst ((zAm tt n).map fun (p:Nat)=>V.int p))) D=some (.lst ((zAm tt n).map fun (p:Nat)=>V.int p)):=zH
       generalize upd H2 D (.lst ((zAm tt n).map fun (p:Nat)=>V.int p))=H3 at s3 h3 ⊢
       have ST2:=ST.sm TT s2
       refine⟨_,rfl,D,rfl,⟨_,SqL.of h3⟩,[.ref sl,.int tt,.ref nl],rfl,fun D2 hD2=>?_⟩
       refine zBm (a:=D) (xs:=(zAm tt n).map fun (p:Nat)=>V.int p) (fun j ys H5=>ys=(((zAm tt n).take j).filter fun h=>decide (cst R nu tt h=nu.getD tt 0)).map (fun (p:Nat)=>V.int p)/\zAy H3 H5/\H5 D2=some (.lst ys)) ⟨rfl,zL hD2,zH⟩ (fun j ys H5 z=>?_) (fun j ys H5 z=>?_) (fun j x ys H5 hx z=>?_) (fun ys H5 z=>?_)
       . obtain⟨_,s5,_⟩:=z
         exact SqL.of (s5 _ _ h3)
       . obtain⟨rfl,_⟩:=z
         rw[zB]
         have:(zAm tt n).length<=n:=by unfold zAm;exact zAE (zv _ _) (by rw[zu];exact zI _)
         refine zAD (zv _ _) ?_
         rw[zr]
         exact zq (by omega)
       . obtain⟨rfl,s5,h5⟩:=z
         obtain⟨h,hh,rfl⟩:∃h:Nat,(zAm tt n)[j]? = some h/\V.int h=x:=by
          rw[zJ] at hx
          cases e:(zAm tt n)[j]? with
          | none=>rw[e] at hx;cases hx
          | some h=>rw[e] at hx;exact⟨h,rfl,zP hx⟩
         obtain⟨q1,q2⟩:=zBk.mp (zS hh)
         have hlt':=zEW (t:=tt) (n:=n) (by omega) q1 q2
         have st:((zAm tt n).take (j+1)).filter (fun h=>decide (cst R nu tt h=nu.getD tt 0))=((zAm tt n).take j).filter (fun h=>decide (cst R nu tt h=nu.getD tt 0))++[h].filter (fun h=>decide (cst R nu tt h=nu.getD tt 0)):=by rw[zy,hh,zAl];rfl
         refine⟨⟨rfl,rfl⟩,?_⟩
         refine⟨_,rfl,_,rfl,_,rfl,sl,R,tt,h,rfl,(ST2.same s3).same s5,NR,by omega,fun H6 s6=>?_⟩
         have hn6:=s6 _ _ (s5 _ _ (s3 _ _ hnl2))
         refine⟨_,rfl,_,rfl,_,rfl,1,(h:Int),rfl,rfl,⟨by omega,by omega,by decide⟩,_,_,rfl,rfl,?_⟩
         refine⟨nl,_,((tt+2 ^ h:Nat):Int),.int (nu.getD (tt+2 ^ h) 0),rfl,by rw[Int.natCast_add,<-zCG],SqL.of hn6,zBx (by rw[zJ,zD,zC (by rw[dp.ln];exact hlt')];rfl),?_⟩
         refine⟨_,_,rfl,rfl,_,rfl,_,rfl,nl,_,(tt:Int),.int (nu.getD tt 0),rfl,rfl,SqL.of hn6,zBx (by rw[zJ,zD,zC (by rw[dp.ln];omega)];rfl),rfl,_,rfl,?_⟩
         dsimp only
         rw[zCB]
         by_cases c:cst R nu tt h=nu.getD tt 0
         . refine ifT (zU c) ?_
           refine⟨_,rfl,s6 _ _ h5,?_,zAr (s5.trans s6) hD2,zH⟩
           rw[st,zAV (by exact zU c),zAO,zN];rfl
         . refine ifF (zZ c) ⟨?_,s5.trans s6,s6 _ _ h5⟩
           rw[st,zAG (by rw[zZ c];decide),zAO,zo]
       . obtain⟨rfl,s5,h5⟩:=z
         rw[zB,zY (zI _)] at h5
         have s25:=s3.trans s5
         obtain⟨gs,eg⟩:∃gs,gs=(zAm tt n).filter fun h=>decide (cst R nu tt h=nu.getD tt 0):=⟨_,rfl⟩
         rw[<-eg] at h5
         have gne:gs≠[]:=by
          obtain⟨g,hg,e⟩:=dp.ex tt (zh _) (by omega) (by rw[et];exact zIv O.nd (by omega))
          intro z
          have:g∈gs:=by rw[eg];exact zAu.mpr ⟨hg,zU e.symm⟩
          rw[z] at this;cases this
         have gl:gs.length<=24:=by
          rw[eg]
          refine zAE (zv _ _) ?_
          unfold zAm
          exact zAE (zv _ _) (by rw[zu];omega)
         have gl0:0<gs.length:=List.length_pos_iff.mpr gne
         have T5:zD0 H5 t tp (N+q):=T2.keepF (fun o e=>s25 _ _ e) (fun o e=>s25 _ _ e) (zI _)
         refine⟨_,rfl,.inl ⟨rfl,_,SqL.of (s25 _ _ h2)⟩,_,rfl,_,rfl,_,rfl,D2,_,rfl,.inl (SqL.of h5),?_⟩
         refine⟨t,tp,N+q,(gs.length:Int),by rw[zB];rfl,T5,by omega,by omega,by omega,fun r H6 r0 r1 T6 e6=>?_⟩
         have nD2:D2≠t:=zCF (ns:=nI gs) ⟨tp,T5⟩ (by rw[h5];unfold nI;rw[zBp];rfl)
         have h6:H6 D2=some (.lst (gs.map fun (p:Nat)=>V.int p)):=by rw[e6 _ nD2];exact h5
         obtain⟨j,rfl⟩:∃j:Nat,r=j:=⟨r.toNat,by omega⟩
         have hj:j<gs.length:=by omega
         have hg:gs[j]∈gs:=zBA hj
         obtain⟨hf,hc⟩:=zAu.mp ((congrArg (fun l=>gs[j]∈l) eg).mp hg)
         have hc:=of_decide_eq_true hc
         refine⟨D2,_,_,.int (gs[j]:Nat),rfl,rfl,SqL.of h6,zBx (by rw[zJ,zC hj];rfl),?_⟩
         generalize gs[j]=h at hf hc ⊢
         have hfo6:H6 fo=some (.lst ((nI os).map V.int)):=by rw[e6 _ nfot];exact s25 _ _ h2
         refine⟨fo,_,.int h,rfl,rfl,hfo6,by rw[zB,zB];exact zq (by omega),?_⟩
         have sm6:Sm t H H6:=(s2.trans (Sm.of s25)).trans fun b o nb e=>by rw[e6 b nb];exact e
         have q1:=(zBk.mp hf).1
         refine⟨_,rfl,_,rfl,fo,(nI os).map V.int++[.int h],-1,.int h,rfl,rfl,SqL.of (by rw[zH]),zG3 _ _,1,(h:Int),rfl,rfl,⟨by omega,by omega,by decide⟩,_,_,rfl,rfl,?_⟩
         have O':zGN R n nu (os++[h]):=O.step dp (by rw[<-et];exact hf) fun g hg=>by
          rw[<-et] at hg ⊢
          have:=dp.le tt (zh _) (by omega) g hg
          omega
         refine⟨some (.int q),some (.ref D),some (.ref D2),os++[h],?_,by rw[zM,hol];rfl,O',sm6.chg hfo,T6.keepF (fun o e=>by rw[zX nfot.symm];exact e) (fun o e=>by rw[zX nfop.symm];exact e) (by omega),by rw[zH,zMF]⟩
         rw[zCG,zEe,et]
         rfl
   . obtain⟨v5,v6,v7,os,rfl,hol,O,s2,T2,h2⟩:=z
     refine⟨_,rfl,fo,_,rfl,.inl ⟨SqL.of h2,fun oa hoa=>?_⟩⟩
     have s3:=zL (o:=.tup ((nI os).map V.int)) hoa
     exact k oa os _ (s2.trans (Sm.of s3)) ⟨tp,T2.keepF (fun o e=>s3 _ _ e) (fun o e=>s3 _ _ e) (by omega)⟩ zH (en ▸ O) (by omega)
end
end K37
namespace K37
open PySem L2 WM
theorem zLj {X:Cx}{st:Stmt}{u u':TS}(h:PS X st u)(m:∀D σ H,u' D σ H->u D σ H):PS X st u':=fun pins s σ H D I q=>h pins s σ H D I (m D σ H q)
noncomputable def zKn:Sp:=fun vs H Q _=>∃(t nl:Addr)(N:Nat)(nu:List Int)(first:Int),vs=[.ref t,.ref nl,.int first]/\zAY H t N/\N<800000/\H nl=some (.lst (nu.map V.int))/\2<=nu.length/\nu.length<=256 /\
 ∀(na:Addr)(nu':List Int)(H':Hp),Sm t H H'->zAY H' t (N+2000)->H' na=some (.tup (nu'.map V.int))->nu'.length=nu.length->nu'.getD (nu.length-1) 0=nu.getD (nu.length-1) 0->nu'.getD 0 0=first->Q (.ref na) H'
structure zFw (H0:Hp)(t tp nl fl:Addr)(nu:List Int)(N:Nat)(xs:List Int)(H:Hp):Prop where
 tape:zD0 H t tp N
 nl:H nl=some (.lst (nu.map V.int))
 fl:H fl=some (.lst (xs.map V.int))
 ln:xs.length=nu.length
 last:xs.getD (nu.length-1) 0=nu.getD (nu.length-1) 0
 sm:Sm t H0 H
structure NumN (H0:Hp)(t tp nl fl:Addr):Prop where
 z:H0 fl=none
 ft:fl≠t
 fp:fl≠tp
 fn:fl≠nl
 nt:nl≠t
theorem zFw.draw {H0 H H':Hp}{t tp nl fl:Addr}{nu xs:List Int}{N:Nat}(h:zFw H0 t tp nl fl nu N xs H)(n:NumN H0 t tp nl fl)(T:zD0 H' t tp (N+1))(e:∀b,b≠t->H' b=H b):zFw H0 t tp nl fl nu (N+1) xs H':=
 ⟨T,by rw[e _ n.nt];exact h.nl,by rw[e _ n.ft];exact h.fl,h.ln,h.last,h.sm.trans fun b o nb z=>by rw[e b nb];exact z⟩
theorem zFw.same {H0 H H':Hp}{t tp nl fl:Addr}{nu xs:List Int}{N:Nat}(h:zFw H0 t tp nl fl nu N xs H)(s:zAy H H'):zFw H0 t tp nl fl nu N xs H':=
 ⟨h.tape.keepF (fun o e=>s _ _ e) (fun o e=>s _ _ e) (zI _),s _ _ h.nl,s _ _ h.fl,h.ln,h.last,h.sm.trans (Sm.of s)⟩
theorem zFw.mono {H0 H:Hp}{t tp nl fl:Addr}{nu xs:List Int}{N M:Nat}(h:zFw H0 t tp nl fl nu N xs H)(l:N<=M):zFw H0 t tp nl fl nu M xs H:=
 ⟨h.tape.keepF (fun o e=>e) (fun o e=>e) l,h.nl,h.fl,h.ln,h.last,h.sm⟩
theorem zFw.put {H0 H:Hp}{t tp nl fl:Addr}{nu xs:List Int}{N a:Nat}{x:Int}(h:zFw H0 t tp nl fl nu N xs H)(n:NumN H0 t tp nl fl)(ha:a+1<nu.length):zFw H0 t tp nl fl nu N (xs.set a x) (upd H fl (.lst ((xs.map V.int).set a (.int x)))):=
 ⟨h.tape.keepF (fun o e=>by rw[zX n.ft.symm];exact e) (fun o e=>by rw[zX n.fp.symm];exact e) (zI _),by rw[zX n.fn.symm];exact h.nl,by rw[zH,List.map_set],by rw[zBh];exact h.ln,
  by rw[zCK (by omega)];exact h.last,h.sm.chg n.z⟩
noncomputable def tNi:TS:=fun D σ H=>∃(H0:Hp)(t tp nl fl:Addr)(nu xs:List Int)(N a:Nat)(w first:Int),σ=[some (.ref t),some (.ref nl),some (.int first),some (.int w),some (.ref fl),some (.int a)]/\NumN H0 t tp nl fl/\zFw H0 t tp nl fl nu N xs H/\1<=a/\a+1<nu.length/\N<900000/\∀xs' H',zFw H0 t tp nl fl nu (N+2) xs' H'->D.nx σ H'
theorem at_nu {nu:List Int}{a:Nat}(h:a<nu.length):atI (nu.map V.int) (a:Int)=some (.int (nu.getD a 0)):=zBx (by rw[zJ,zD,zC h];rfl)
section
variable {P:Program}{w:World}{K:PySem.W.Frag}{mg:Str->Option Value}{base:Heap}{PT:Addr}
theorem zGa:zAB ["_law_tape_here", "_law_least_here", "_law_first", "_law_way", "_law_found", "_law_at"] ["_law_tape_here", "_law_least_here", "_law_first"] (defScope zJx):=⟨rfl,rfl,rfl,by decide +kernel,rfl,by decide +kernel,by decide +kernel⟩
theorem zLy {f fD:Addr}{fd' fdD:FuncData}(F:Fun K "_law_numbers" "_law_numbers" zJx f fd')
 (FD:Fun K "_law_draw" "_law_draw" zEh fD fdD) (bD:zAA K fdD ["_law_tape_here", "_law_many"] []) (mD:mg "_law_draw" = some (.ref fD)) (mLen:mg "len" = none) (mRange:mg "range" = none) (mTuple:mg "tuple" = none) (mList:mg "list" = none):zAb P w K mg base CX0 2 f fd' ["_law_tape_here", "_law_least_here", "_law_first"] zKn:=by
 have GD:zAb P w K mg base CX0 1 fD fdD ["_law_tape_here", "_law_many"] zEd:=zDT FD mLen
 refine F.ok zGa (fun vs H Q E h=>?_) (fun cdv A outer s H vs Q E hr h=>?_)
 . obtain⟨t,nl,N,nu,first,rfl,_⟩:=h
   rfl
 . obtain⟨t,nl,N,nu,first,rfl,TT,hN,hnl,l2,l256,k⟩:=h
   obtain⟨tp,TP⟩:=id TT
   have nnt:=zCF TT hnl
   refine⟨_,zT (zAP (i:=3) zGa.nd rfl (Or.inl rfl) (zn GD hr rfl mD FD.kp bD .nil zAS (zE (pv 0) (zB6 zO))))
    (zT (zAP (i:=4) zGa.nd rfl (Or.inl rfl) (zBD zFl (by rfl) mList (by decide +kernel) (zE (pv 1) zO)))
    (zT (zBY PassesOwn.never rfl (zFG rfl mRange (zB6 (zE (zAc zEM (zAL zAX (by rfl) mLen PySem.boot_len (zE (pv 1) zO)) zj) zO))) (zw (i:=5) zGa.nd rfl (Or.inl rfl))
     (zT (zLj (u':=tNi) (zBz (zAQ zCU (pv 3) zj (zAa _)) (zf (zCM (zAc zEM (zAK zAU (pv 1) (pv 5) (fun _ _=>rfl)) (zn GD hr rfl mD FD.kp bD .nil zAS (zE (pv 0) (zB6 zO)))) (zCR (pv 4) (pv 5) zBb))) zAw) ?i1)
     (zT (zLj (u':=tNi) (zBz (PW.pt (zGg (zAQ zCU (pv 3) zj (zAa _)) (zEj (zAQ zCU (zn GD hr rfl mD FD.kp bD .nil zAS (zE (pv 0) (zB6 zO))) zj (zAa _)))))
      (zf (zCM (zAc zBe (zAK zAU (pv 1) (pv 5) (fun _ _=>rfl)) (zAK zAU (zB9 (zE (zEm (zFH zDM zj) (fun σ H Q q=>⟨100,rfl,q⟩)) (zB6 (zE (zEm (zFH zDM zj) (fun σ H Q q=>⟨1,rfl,q⟩)) zO)))) (zn GD hr rfl mD FD.kp bD .nil zAS (zE (pv 0) (zB6 zO))) (fun _ _=>rfl))) (zCR (pv 4) (pv 5) zBb))) zAw) ?i2)
     (zf (zLj (u':=tNi) (zBz (zAQ zCU (pv 3) zj (zAa _)) (zf (zCM (zAc zEM (zn GD hr rfl mD FD.kp bD .nil zAS (zE (pv 0) (zB6 zO))) zj) (zCR (pv 4) (pv 5) zBb))) zAw) ?i3)))))
    (zT (zCM (pv 2) (zCR (pv 4) zj zBb))
    (zf (zAT (zBD zAf (by rfl) mTuple (by decide +kernel) (zE (pv 4) zO))))))),?_⟩
   case i1=>
    rintro D σ H1 ⟨H0,t,tp,nl,fl,nu,xs,N,a,w,first,rfl,NN,NI,a1,a2,hN,kk⟩
    refine⟨_,rfl,rfl,_,rfl,zFT (fun c=>?_) (fun c=>?_)⟩
    . refine⟨_,rfl,_,rfl,nl,_,_,.int (nu.getD a 0),rfl,rfl,SqL.of NI.nl,at_nu (by omega),?_⟩
      refine⟨_,rfl,t,tp,N,3,rfl,NI.tape,by omega,by decide,by decide,fun r H2 r0 r1 T2 e2=>?_⟩
      have I2:=NI.draw NN T2 e2
      refine⟨_,_,rfl,rfl,_,rfl,_,rfl,fl,_,(a:Int),a,rfl,rfl,I2.fl,zCp (by omega) (by rw[zB,I2.ln];omega),?_⟩
      exact kk _ _ ((I2.put NN a2).mono (by omega))
    . exact kk _ _ (NI.mono (by omega))
   case i2=>
    rintro D σ H1 ⟨H0,t,tp,nl,fl,nu,xs,N,a,w,first,rfl,NN,NI,a1,a2,hN,kk⟩
    refine⟨_,rfl,rfl,_,rfl,zFT (fun c=>?_) (fun c=>?_)⟩
    . refine⟨_,rfl,t,tp,N,3,rfl,NI.tape,by omega,by decide,by decide,fun r H2 r0 r1 T2 e2=>?_⟩
      have I2:=NI.draw NN T2 e2
      refine⟨rfl,_,rfl,zFT (fun c=>?_) (fun c=>?_)⟩
      . refine⟨_,rfl,_,rfl,nl,_,_,.int (nu.getD a 0),rfl,rfl,SqL.of I2.nl,at_nu (by omega),?_⟩
        refine⟨by show 3<=sizeLine;decide,fun l hl=>?_⟩
        have I3:=I2.same (zL (o:=.lst [.int (-100),.int 1,.int (-1)]) hl)
        refine⟨_,rfl,t,tp,N+1,3,rfl,I3.tape,by omega,by decide,by decide,fun r' H4 q0 q1 T4 e4=>?_⟩
        have I4:=I3.draw NN T4 e4
        have nlt:l≠t:=zAY.ne ⟨tp,I2.tape⟩ hl
        obtain⟨x,_,hx⟩:=zIc (L:=[-100,1,-1]) q0 q1
        refine⟨l,_,_,_,rfl,rfl,SqL.of (by rw[e4 _ nlt];exact zH),hx,?_⟩
        refine⟨_,_,rfl,rfl,_,rfl,_,rfl,fl,_,(a:Int),a,rfl,rfl,I4.fl,zCp (by omega) (by rw[zB,I4.ln];omega),?_⟩
        exact kk _ _ ((I4.put NN a2).mono (by omega))
      . exact kk _ _ (I2.mono (by omega))
    . exact zD2 (kk _ _ (NI.mono (by omega)))
   case i3=>
    rintro D σ H1 ⟨H0,t,tp,nl,fl,nu,xs,N,a,w,first,rfl,NN,NI,a1,a2,hN,kk⟩
    refine⟨_,rfl,rfl,_,rfl,zFT (fun c=>?_) (fun c=>?_)⟩
    . refine⟨_,rfl,t,tp,N,12,rfl,NI.tape,by omega,by decide,by decide,fun r H2 r0 r1 T2 e2=>?_⟩
      have I2:=NI.draw NN T2 e2
      refine⟨_,_,rfl,rfl,_,rfl,_,rfl,fl,_,(a:Int),a,rfl,rfl,I2.fl,zCp (by omega) (by rw[zB,I2.ln];omega),?_⟩
      exact kk _ _ ((I2.put NN a2).mono (by omega))
    . exact kk _ _ (NI.mono (by omega))
   refine⟨_,rfl,t,tp,N,4,rfl,TP,by omega,by decide,by decide,fun way H1 w0 w4 T1 e1=>?_⟩
   have hnl1:H1 nl=some (.lst (nu.map V.int)):=by rw[e1 _ nnt];exact hnl
   refine⟨_,rfl,nl,_,rfl,.inl (SqL.of hnl1),fun fl hfl=>?_⟩
   have nft:fl≠t:=zAY.ne ⟨tp,T1⟩ hfl
   have hfl0:H fl=none:=by rw[<-e1 _ nft];exact hfl
   have NQ:NumN H t tp nl fl:=⟨hfl0,nft,(fun z=>by obtain⟨_,_,_,_,e,_⟩:=T1;rw[z,e] at hfl;cases hfl),(fun z=>by rw[z,hnl1] at hfl;cases hfl),nnt⟩
   have sm1:Sm t H H1:=fun b o nb e=>by rw[e1 b nb];exact e
   have sl:=zL (o:=.lst (nu.map V.int)) hfl
   have NI0:zFw H t tp nl fl nu (N+1) nu (upd H1 fl (.lst (nu.map V.int))):=⟨T1.keepF (fun o e=>sl _ _ e) (fun o e=>sl _ _ e) (zI _),sl _ _ hnl1,zH,rfl,rfl,sm1.trans (Sm.of sl)⟩
   refine⟨_,rfl,nl,_,rfl,.inl (SqL.of NI0.nl),_,_,rfl,rfl,?_⟩
   rw[zB]
   refine⟨1,(nu.length:Int)-1,rfl,⟨by omega,by omega,by omega⟩,zBK (lo:=1) (n:=((nu.length:Int)-1-1).toNat) (fun i σ H2=>∃(v5:Option V)(xs:List Int),σ=[some (.ref t),some (.ref nl),some (.int first),some (.int way),some (.ref fl),v5]/\zFw H t tp nl fl nu (N+1+6*i) xs H2) ⟨_,_,rfl,NI0⟩ (fun i σ H2 hi z=>?_) (fun σ H2 z=>?_)⟩
   . obtain⟨v5,xs,rfl,NI⟩:=z
     have e5:(1:Int)+(i:Int)=((i+1:Nat):Int):=by omega
     rw[e5]
     refine⟨H,t,tp,nl,fl,nu,xs,N+1+6*i,i+1,way,first,rfl,NQ,NI,by omega,by omega,by omega,fun xs1 H3 I3=>?_⟩
     refine⟨H,t,tp,nl,fl,nu,xs1,_,i+1,way,first,rfl,NQ,I3,by omega,by omega,by omega,fun xs2 H4 I4=>?_⟩
     refine⟨H,t,tp,nl,fl,nu,xs2,_,i+1,way,first,rfl,NQ,I4,by omega,by omega,by omega,fun xs3 H5 I5=>?_⟩
     exact⟨_,xs3,rfl,I5.mono (by omega)⟩
   . obtain⟨v5,xs,rfl,NI⟩:=z
     refine⟨_,rfl,_,rfl,fl,_,(0:Int),0,rfl,rfl,NI.fl,zCp (by omega) (by rw[zB,NI.ln];omega),?_⟩
     have I6:=NI.put (x:=first) NQ (a:=0) (by omega)
     refine⟨_,rfl,fl,_,rfl,.inl ⟨SqL.of I6.fl,fun na hna=>?_⟩⟩
     have I7:=I6.same (zL (o:=.tup ((xs.set 0 first).map V.int)) hna)
     refine k na (xs.set 0 first) _ I7.sm ⟨tp,I7.tape.keepF (fun o e=>e) (fun o e=>e) (by omega)⟩ zH I7.ln I7.last (zCw (by rw[NI.ln];omega))
end
end K37
namespace K37
open PySem L2 WM
theorem zJi {H:Hp}{t th:Addr}{N:Nat}{as:List Addr}{o:HO}(T:zAY H t N)(h:H th=some (.lst (as.map V.ref)))(hne:as≠[]):zAY (upd H th o) t N:=by
 have n1:=zCc T h
 obtain⟨p,ns,sp,re,e1,e2,r⟩:=T
 have n2:th≠p:=fun z=>by
  rw[z,e2] at h
  cases as with
  | nil=>exact hne rfl
  | cons x l=>cases ns with
   | nil=>cases h
   | cons y l=>cases h
 exact⟨p,ns,sp,re,by rw[zX n1.symm];exact e1,by rw[zX n2.symm];exact e2,r⟩
theorem zCj {H:Hp}{t b:Addr}{N:Nat}{ys:List V}(T:zAY H t N)(h:H b=some (.tup ys)):b≠t:=by
 obtain⟨p,ns,sp,re,e1,_⟩:=T
 exact zBw h e1 (by intro z;cases z)
theorem zD3.sm {H H':Hp}{th t:Addr}{N:Nat}{os:List Nat}{nu:List Int}(h:zD3 H th os nu)(T:zAY H t N)(k:Sm t H H'):zD3 H' th os nu:=h.keep fun b ys e=>k _ _ (zCj T e) e
theorem zD3.put {H:Hp}{th l:Addr}{os:List Nat}{nu:List Int}{xs:List V}{o:HO}(h:zD3 H th os nu)(hl:H l=some (.lst xs)):zD3 (upd H l o) th os nu:=h.keep fun b ys e=>by rw[zX (zBw e hl (by intro z;cases z))];exact e
structure zFr (H:Hp)(th:Addr)(R:List (List Int))(m:Nat)(as:List Addr):Prop where
 at':H th=some (.lst (as.map V.ref))
 ne:as≠[]
 ok:∀a∈as,∃os nu,zD3 H a os nu/\Thg R m os nu
theorem zFr.sm {H H':Hp}{th t:Addr}{N:Nat}{R:List (List Int)}{m:Nat}{as:List Addr}(h:zFr H th R m as)(T:zAY H t N)(k:Sm t H H'):zFr H' th R m as:=
 ⟨k _ _ (zCc T h.at') h.at',h.ne,fun a ha=>let ⟨os,nu,x,y⟩:=h.ok a ha;⟨os,nu,x.sm T k,y⟩⟩
theorem zFr.add {H:Hp}{th a:Addr}{R:List (List Int)}{m:Nat}{as:List Addr}{os:List Nat}{nu:List Int}(h:zFr H th R m as)(x:zD3 H a os nu)(y:Thg R m os nu):zFr (upd H th (.lst (as.map V.ref++[.ref a]))) th R m (as++[a]):=
 ⟨by rw[zH,zN];rfl,by simp,fun b hb=>by
  rcases zAC.mp hb with hb | hb
  . obtain⟨os,nu,x,y⟩:=h.ok b hb
    exact⟨os,nu,x.put h.at',y⟩
  . rw[zk.mp hb]
    exact⟨os,nu,x.put h.at',y⟩⟩
noncomputable def SmA (PT t:Addr)(H H':Hp):Prop:=∀b o,H b=some o->(b=PT/\∃ps,o = .tbl ps)\/b=t\/H' b=some o
theorem SmP.smA {PT t:Addr}{H H':Hp}(h:SmP PT H H'):SmA PT t H H':=fun b o e=>(h b o e).imp id .inr
theorem SmA.sm {PT t:Addr}{H H1 H2:Hp}(h:SmA PT t H H1)(k:Sm t H1 H2):SmA PT t H H2:=fun b o e=>(h b o e).imp id fun z=>z.elim .inl fun z=>(Classical.em (b=t)).imp id fun n=>k b o n z
theorem SmA.put {PT t th:Addr}{H H1:Hp}{o:HO}(h:SmA PT t H H1)(z:H th=none):SmA PT t H (upd H1 th o):=fun b u e=>(h b u e).imp id fun y=>y.imp id fun y=>by rw[zX (zi e z)];exact y
theorem SmA.get {PT t b:Addr}{H H1:Hp}{o:HO}(h:SmA PT t H H1)(e:H b=some o)(n:b≠t)(nt:∀ps,o ≠ .tbl ps):H1 b=some o:=by
 rcases h b o e with ⟨_,ps,z⟩ | z | z
 . exact absurd z (nt ps)
 . exact absurd z n
 . exact z
theorem SmA.tup {PT t b:Addr}{H H1:Hp}{N:Nat}{ys:List V}(h:SmA PT t H H1)(T:zAY H t N)(e:H b=some (.tup ys)):H1 b=some (.tup ys):=h.get e (zCj T e) (by intro ps z;cases z)
theorem zBL.smA {PT t sl:Addr}{H H':Hp}{N:Nat}{R:List (List Int)}(h:zBL H sl R)(T:zAY H t N)(k:SmA PT t H H'):zBL H' sl R:=by
 obtain⟨rs,a,b,c⟩:=h
 exact⟨rs,k.get a (zCc T a) (by intro ps z;cases z),b,fun i r row x y=>k.get (c i r row x y) (zCF T (c i r row x y)) (by intro ps z;cases z)⟩
theorem zHr {H:Hp}{PT th:Addr}{pos:Pos}{q:Str}{xs:List V}{o:HO}(T:zB7 H PT pos q)(h:H th=some (.lst xs)):zB7 (upd H th o) PT pos q:=by
 obtain⟨ps,hp,_⟩:=id T
 exact T.keep (fun o e=>by rw[zX (fun z=>by rw[z,h] at hp;cases hp)];exact e) (fun c φ e=>by rw[zX (fun z=>by rw[z,h] at e;cases e)];exact e)
noncomputable def zJn (K:PySem.W.Frag)(PT P2:Addr):Sp:=fun vs H Q _=>∃(a:Addr)(ns:List Int),vs=[.ref a]/\SqL K H a (ns.map V.int)/\ns.length<=63/\H PT=some (.tbl #[])/\H P2=some (.tbl #[])/\∀H',Q (.bl true) H'
noncomputable def tPick:TE:=fun σ H Q=>∃(t wa ta g oa na:Addr)(N n:Nat)(os:List Nat),σ[1]? = some (some (.ref t))/\σ[3]? = some (some (.ref wa))/\σ[7]? = some (some (.ref g))/\zAY H t N/\N<800000/\1<=n/\n<=24/\H wa=some (.tup [.int n,.ref ta])/\H g=some (.tup [.ref oa,.ref na])/\H oa=some (.tup ((nI os).map V.int))/\os.Perm (List.range n) /\
 ∀(oa:Addr)(os:List Nat)(H':Hp),zAY H' t (N+25)->Sm t H H'->H' oa=some (.tup ((nI os).map V.int))->os.Perm (List.range n)->Q (.ref oa) H'
section
variable {P:Program}{w:World}{K:PySem.W.Frag}{mg:Str->Option Value}{base:Heap}
theorem zDG:zAB ["_law_script", "_law_tape_here", "_law_k", "_law_web_here", "_law_masks_here", "_law_least_here", "_law_best", "_law_good", "_law_things", "_law_turn", "_law_order_here", "_law_numbers_here"] ["_law_script"] (defScope sLaw):=⟨rfl,rfl,rfl,by decide +kernel,rfl,by decide +kernel,by decide +kernel⟩
theorem ok_law {PT P2 c cB C fI f fTa fD fW fT fNe fF fLe fBw fNb fNu fWi fPl fTo fIo fBy fLb fIh fEb fTt fCf fSf fSn fLt fRt fOw fSx fAs fLp fBo fLo fLn fBn fA fLs fFr fO fOr fMa fBr fIn fLl fLz fAo fLv fNm:Addr}{tk:Tok}{fdI fd' fdTa fdD fdW fdT fdNe fdF fdLe fdBw fdNb fdNu fdWi fdPl fdTo fdIo fdBy fdLb fdIh fdEb fdTt fdCf fdSf fdSn fdLt fdRt fdOw fdSx fdAs fdLp fdBo fdLo fdLn fdBn fdA fdLs fdFr fdO fdOr fdMa fdBr fdIn fdLl fdLz fdAo fdLv fdNm:FuncData}(F:Fun K "law" "law" sLaw f fd') (CH:PySem.W.CodeHd base c PT)(CH2:PySem.W.CodeHd base cB P2)(hbm:zG7 mg base)(ne:PT≠P2)
 (mC:mg "NoLeast" = some (.ref C)) (EI:zG5 K C fI)(sb:L2.subIn K C C=true)(FI:Fun K "__init__" "NoLeast.__init__" sI1 fI fdI) (bI:zAA K fdI ["self", "word", "at"] []) (mo:PySem.W.mroIn K C (.type "object")=some true) (i1:PySem.W.findIn K (.ref C) "word" = some none) (i2:PySem.W.findIn K (.ref C) "at" = some none) (mMT:mg "MOST_PLACES_OF_LEASTS" = some (.int 8 tk))
 (FTa:Fun K "_law_tape" "_law_tape" zJw fTa fdTa) (bTa:zAA K fdTa ["_law_script"] []) (mTa:mg "_law_tape" = some (.ref fTa))
 (FD:Fun K "_law_draw" "_law_draw" zEh fD fdD) (bD:zAA K fdD ["_law_tape_here", "_law_many"] []) (mD:mg "_law_draw" = some (.ref fD))
 (FW:Fun K "_law_web" "_law_web" sWeb fW fdW) (bW:zAA K fdW ["_law_tape_here", "_law_n"] []) (mW:mg "_law_web" = some (.ref fW))
 (FT:Fun K "ties_at" "ties_at" zF0 fT fdT) (bT:zAA K fdT ["web", "place"] []) (mT:mg "ties_at" = some (.ref fT))
 (FNe:zJY K "nearest" "nearest" zIA fNe fdNe c) (bNe:zAA K fdNe ["waiting"] []) (mNe:mg "nearest" = some (.ref fNe))
 (FF:Fun K "lengths_from" "lengths_from" zIE fF fdF) (bF:zAA K fdF ["web", "start"] []) (mF:mg "lengths_from" = some (.ref fF))
 (FLe:Fun K "lengths" "lengths" zHG fLe fdLe) (bLe:zAA K fdLe ["web"] []) (mLe:mg "lengths" = some (.ref fLe))
 (FBw:Fun K "between_rows" "between_rows" sBwr fBw fdBw) (bBw:zAA K fdBw ["here", "there", "other"] []) (mBw:mg "between_rows" = some (.ref fBw))
 (FNb:Fun K "next_by_row" "next_by_row" sNbr fNb fdNb) (bNb:zAA K fdNb ["web", "one", "there"] []) (mNb:mg "next_by_row" = some (.ref fNb))
 (FNu:Fun K "is_number" "is_number" zKw fNu fdNu) (bNu:zAA K fdNu ["thing"] []) (mNu:mg "is_number" = some (.ref fNu))
 (FWi:Fun K "is_within" "is_within" sWi fWi fdWi) (bWi:zAA K fdWi ["thing", "least", "most"] []) (mWi:mg "is_within" = some (.ref fWi))
 (FPl:Fun K "is_place" "is_place" sPl fPl fdPl) (bPl:zAA K fdPl ["n", "thing"] []) (mPl:mg "is_place" = some (.ref fPl))
 (FTo:Fun K "is_tuple_of" "is_tuple_of" sTof fTo fdTo) (bTo:zAA K fdTo ["thing", "count"] []) (mTo:mg "is_tuple_of" = some (.ref fTo))
 (FIo:Fun K "is_order" "is_order" sOrd fIo fdIo) (bIo:zAA K fdIo ["web", "thing"] []) (mIo:mg "is_order" = some (.ref fIo))
 (FBy:Fun K "by_order" "by_order" sByo fBy fdBy) (bBy:zAA K fdBy ["web", "order"] []) (mBy:mg "by_order" = some (.ref fBy))
 (FLb:Fun K "label_by_ranks" "label_by_ranks" sLbr fLb fdLb) (bLb:zAA K fdLb ["web", "rows", "ranks", "place"] []) (mLb:mg "label_by_ranks" = some (.ref fLb))
 (FIh:Fun K "is_hub" "is_hub" sIsh fIh fdIh) (bIh:zAA K fdIh ["rows", "ranks", "hub", "place"] []) (mIh:mg "is_hub" = some (.ref fIh))
 (FEb:Fun K "entry_by_rows" "entry_by_rows" sEbr fEb fdEb) (bEb:zAA K fdEb ["web", "rows", "place", "hub"] []) (mEb:mg "entry_by_rows" = some (.ref fEb))
 (FTt:Fun K "total" "total" sTot fTt fdTt) (bTt:zAA K fdTt ["labels"] []) (mTt:mg "total" = some (.ref fTt))
 (FCf:Fun K "count_free" "count_free" sCf fCf fdCf) (bCf:zAA K fdCf ["sets", "taken"] []) (mCf:mg "count_free" = some (.ref fCf))
 (FSf:Fun K "sets_from" "sets_from" sSf fSf fdSf) (bSf:zAA K fdSf ["rows", "hub"] []) (mSf:mg "sets_from" = some (.ref fSf))
 (FSn:Fun K "set_number" "set_number" sSn fSn fdSn) (bSn:zAA K fdSn ["places"] []) (mSn:mg "set_number" = some (.ref fSn))
 (FLt:Fun K "lets_least" "lets_least" zIC fLt fdLt) (bLt:zAA K fdLt ["web", "thing"] []) (mLt:mg "lets_least" = some (.ref fLt))
 (FRt:Fun K "refuse_too_many" "refuse_too_many" sRtm fRt fdRt) (bRt:zAA K fdRt ["web"] []) (mRt:mg "refuse_too_many" = some (.ref fRt))
 (FOw:Fun K "is_order_with_numbers" "is_order_with_numbers" zID fOw fdOw) (bOw:zAA K fdOw ["web", "thing"] []) (mOw:mg "is_order_with_numbers" = some (.ref fOw))
 (FSx:Fun K "step_fault" "step_fault" zH9 fSx fdSx) (bSx:zAA K fdSx ["web", "numbers"] []) (mSx:mg "step_fault" = some (.ref fSx))
 (FAs:Fun K "all_sets" "all_sets" zHI fAs fdAs) (bAs:zAA K fdAs ["web"] []) (mAs:mg "all_sets" = some (.ref fAs))
 (FLp:Fun K "left_places" "left_places" sLpl fLp fdLp) (bLp:zAA K fdLp ["web", "taken"] []) (mLp:mg "left_places" = some (.ref fLp))
 (FBo:Fun K "by_way_of" "by_way_of" zKx fBo fdBo) (bBo:zAA K fdBo ["sets", "numbers", "taken", "hub"] []) (mBo:mg "by_way_of" = some (.ref fBo))
 (FLo:Fun K "least_order" "least_order" zJz fLo fdLo) (bLo:zAA K fdLo ["web"] []) (mLo:mg "least_order" = some (.ref fLo))
 (FLn:Fun K "least_numbers" "least_numbers" zIB fLn fdLn) (bLn:zAA K fdLn ["web", "sets"] []) (mLn:mg "least_numbers" = some (.ref fLn))
 (FBn:zJY K "best_next" "best_next" zHH fBn fdBn cB) (bBn:zAA K fdBn ["web", "sets", "numbers", "taken"] []) (mBn:mg "best_next" = some (.ref fBn))
 (FA:Fun K "_law_added" "_law_added" sAdd fA fdA) (bA:zAA K fdA ["_law_one", "_law_other"] []) (mA:mg "_law_added" = some (.ref fA))
 (FLs:Fun K "_law_lesser" "_law_lesser" sLes fLs fdLs) (bLs:zAA K fdLs ["_law_one", "_law_other"] []) (mLs:mg "_law_lesser" = some (.ref fLs))
 (FFr:Fun K "_law_far" "_law_far" sFar fFr fdFr) (bFr:zAA K fdFr ["_law_web_here"] []) (mFr:mg "_law_far" = some (.ref fFr))
 (FO:Fun K "_law_on" "_law_on" sOn fO fdO) (bO:zAA K fdO ["_law_far_here", "_law_place", "_law_one", "_law_other"] []) (mO:mg "_law_on" = some (.ref fO))
 (FOr:Fun K "_law_order" "_law_order" zGc fOr fdOr) (bOr:zAA K fdOr ["_law_tape_here", "_law_n"] []) (mOr:mg "_law_order" = some (.ref fOr))
 (FMa:Fun K "_law_masks" "_law_masks" zJy fMa fdMa) (bMa:zAA K fdMa ["_law_web_here"] []) (mMa:mg "_law_masks" = some (.ref fMa))
 (FBr:Fun K "_law_brought" "_law_brought" zLb fBr fdBr) (bBr:zAA K fdBr ["_law_masks_here", "_law_some", "_law_hub"] []) (mBr:mg "_law_brought" = some (.ref fBr))
 (FIn:Fun K "_law_in_all" "_law_in_all" zJ1 fIn fdIn) (bIn:zAA K fdIn ["_law_masks_here", "_law_order_here"] []) (mIn:mg "_law_in_all" = some (.ref fIn))
 (FLl:Fun K "_law_least" "_law_least" zJ0 fLl fdLl) (bLl:zAA K fdLl ["_law_masks_here"] []) (mLl:mg "_law_least" = some (.ref fLl))
 (FLz:Fun K "_law_least_order" "_law_least_order" sLeo fLz fdLz) (bLz:zAA K fdLz ["_law_tape_here", "_law_masks_here", "_law_least_here"] []) (mLz:mg "_law_least_order" = some (.ref fLz))
 (FAo:Fun K "_law_all_orders" "_law_all_orders" zJ2 fAo fdAo) (bAo:zAA K fdAo ["_law_n"] []) (mAo:mg "_law_all_orders" = some (.ref fAo))
 (FLv:Fun K "_law_let" "_law_let" sLet fLv fdLv) (bLv:zAA K fdLv ["_law_web_here", "_law_thing"] []) (mLv:mg "_law_let" = some (.ref fLv))
 (FNm:Fun K "_law_numbers" "_law_numbers" zJx fNm fdNm) (bNm:zAA K fdNm ["_law_tape_here", "_law_least_here", "_law_first"] []) (mNm:mg "_law_numbers" = some (.ref fNm))
 (mLen:mg "len" = none) (mRange:mg "range" = none) (mTuple:mg "tuple" = none) (mSorted:mg "sorted" = none) (mMin:mg "min" = none) (mList:mg "list" = none) (mIsi:mg "isinstance" = none) (mInt:mg "int" = none) (mBool:mg "bool" = none) (mAll:mg "all" = none) (mSet:mg "set" = none) (mSum:mg "sum" = none) (mEnum:mg "enumerate" = none):zAb P w K mg base CX0 10 f fd' ["_law_script"] (zJn K PT P2):=by
 have GTa:zAb P w K mg base CX0 9 fTa fdTa ["_law_script"] (zKl K):=(zLw FTa).mono (by decide)
 have GD:zAb P w K mg base CX0 9 fD fdD ["_law_tape_here", "_law_many"] zH3:=(zIS FD mLen).mono (by decide)
 have GW':zAb P w K mg base CX0 9 fW fdW ["_law_tape_here", "_law_n"] spWeb:=(ok_web FW FD bD mD mLen mRange mTuple mSorted).mono (by decide)
 have GF:zAb P w K mg base CX0 3 fF fdF ["web", "start"] (zH2 PT):=zL8 FF FNe bNe mNe FT bT mT CH hbm mMin mSorted mTuple
 have GLe:zAb P w K mg base CX0 5 fLe fdLe ["web"] (zGT PT):=(zL5 FLe FF bF mF GF mRange mTuple).mono (by decide)
 have GSf:zAb P w K mg base CX0 5 fSf fdSf ["rows", "hub"] spSf:=(ok_sf FSf FSn bSn mSn FBw bBw mBw mRange mTuple mLen mSum).mono (by decide)
 have GAs:zAb P w K mg base CX0 6 fAs fdAs ["web"] (zGV PT):=zMB FAs FLe bLe mLe GLe FSf bSf mSf GSf mRange
 have GBo:zAb P w K mg base CX0 2 fBo fdBo ["sets", "numbers", "taken", "hub"] zJp:=ok_bwo FBo FCf bCf mCf mLen
 have GBT:zAb P w K mg base CX0 6 fBo fdBo ["sets", "numbers", "taken", "hub"] zH4:=(zL9 FBo FCf bCf mCf mLen).mono (by decide)
 have GLp:zAb P w K mg base CX0 4 fLp fdLp ["web", "taken"] zJm:=(ok_lpl FLp mRange).mono (by decide)
 have GBn:zAb P w K mg base CX0 5 fBn fdBn ["web", "sets", "numbers", "taken"] (zGU P2):=zMA FBn CH2 hbm mMin FLp bLp mLp GLp FBo bBo mBo GBo
 have GLn:zAb P w K mg base CX0 6 fLn fdLn ["web", "sets"] (zHz P2):=zL2 FLn FBn.fn bBn mBn GBn FBo bBo mBo (GBo.mono (by decide)) mRange
 have GRt:zAb P w K mg base CX0 6 fRt fdRt ["web"] zJk:=(ok_rtm FRt mMT).mono (by decide)
 have GLo:zAb P w K mg base CX0 9 fLo fdLo ["web"] (zKq PT P2):=(zL1 FLo FRt bRt mRt GRt FAs bAs mAs GAs FLn bLn mLn GLn FSn bSn mSn ((ok_snL FSn mSum).mono (by decide)) FBn.fn bBn mBn (GBn.mono (by decide)) mLen mTuple).mono (by decide)
 have GMa:zAb P w K mg base CX0 9 fMa fdMa ["_law_web_here"] zKp:=(zL0 FMa FFr bFr mFr ((ok_far FFr FA bA mA FLs bLs mLs mRange mMin).mono (by decide)) FO bO mO ((ok_on FO FA bA mA).mono (by decide)) mRange mSum).mono (by decide)
 have GIn:zAb P w K mg base CX0 9 fIn fdIn ["_law_masks_here", "_law_order_here"] zKs:=(zL7 FIn FBr bBr mBr mLen).mono (by decide)
 have GLl:zAb P w K mg base CX0 9 fLl fdLl ["_law_masks_here"] zKr:=(zL3 FLl FBr bBr mBr mLen mRange mMin).mono (by decide)
 have GAo:zAb P w K mg base CX0 9 fAo fdAo ["_law_n"] zKt:=(zMC FAo mRange mLen).mono (by decide)
 have GLz:zAb P w K mg base CX0 9 fLz fdLz ["_law_tape_here", "_law_masks_here", "_law_least_here"] spLeo:=(ok_leo FLz FBr bBr mBr FD bD mD mLen mRange mTuple).mono (by decide)
 have GNm:zAb P w K mg base CX0 9 fNm fdNm ["_law_tape_here", "_law_least_here", "_law_first"] zKn:=(zLy FNm FD bD mD mLen mRange mTuple mList).mono (by decide)
 have GOr:zAb P w K mg base CX0 9 fOr fdOr ["_law_tape_here", "_law_n"] zHy:=(zKG FOr FD bD mD mLen mRange mTuple mList).mono (by decide)
 have GIo:zAb P w K mg base CX0 4 fIo fdIo ["web", "thing"] zJl:=ok_ord FIo FTo bTo mTo FWi bWi mWi FPl bPl mPl FNu bNu mNu mIsi mInt mBool mTuple mLen mAll mSet
 have GLb:zAb P w K mg base CX0 5 fLb fdLb ["web", "rows", "ranks", "place"] zLN:=ok_lbr FLb FIh bIh mIh ((ok_ish FIh FBw bBw mBw mRange mTuple mLen mAll).mono (by decide)) FEb bEb mEb (ok_ebr FEb FNb bNb mNb FT bT mT mSorted mTuple mMin) mRange mTuple
 have GBy:zAb P w K mg base CX0 6 fBy fdBy ["web", "order"] (zJo PT):=ok_byo FBy FIo bIo mIo (GIo.mono (by decide)) FLe bLe mLe GLe FLb bLb mLb GLb mRange mTuple
 have GOw:zAb P w K mg base CX0 7 fOw fdOw ["web", "thing"] zH1:=(zL6 FOw FTo bTo mTo ((zK0 FTo mIsi mTuple mLen).mono (by decide)) FIo bIo mIo GIo FNu bNu mNu ((zK1 FNu mIsi mInt mBool).mono (by decide)) mAll).mono (by decide)
 have GLt:zAb P w K mg base (CXI P w) 8 fLt fdLt ["web", "thing"] (zH0 PT C):=zL4 FLt mC EI bI ((ok_I1 FI EI mo i1 i2).mono (by decide)) FRt bRt mRt (GRt.mono (by decide)) FOw bOw mOw GOw FSx bSx mSx (zLx FSx FAs bAs mAs GAs FLp bLp mLp (GLp.mono (by decide)) FBo bBo mBo GBT mEnum) FBy bBy mBy (GBy.mono (by decide)) FTt bTt mTt ((ok_tot FTt mLen mSum).mono (by decide))
 have GLv:zAb P w K mg base CX0 9 fLv fdLv ["_law_web_here", "_law_thing"] (spLet PT):=ok_let FLv mC EI sb FLt bLt mLt GLt
 have GBy9:zAb P w K mg base CX0 9 fBy fdBy ["web", "order"] (zJo PT):=GBy.mono (by decide)
 refine F.ok zDG (fun vs H Q E h=>?_) (fun cdv A outer s H vs Q E hr h=>?_)
 . obtain⟨a,ns,rfl,_⟩:=h
   rfl
 . obtain⟨a,ns,rfl,hS,hlen,hPT,hP2,k⟩:=h
   refine⟨_,zT (zAP (i:=1) zDG.nd rfl (Or.inl rfl) (zn GTa hr rfl mTa FTa.kp bTa .nil zAS (zE (pv 0) zO)))
    (zT (zBY PassesOwn.never rfl (zAZ rfl mRange (zB6 zO)) (zw (i:=2) zDG.nd rfl (Or.inl rfl))
     (zT (zAP (i:=3) zDG.nd rfl (Or.inl rfl) (zn GW' hr rfl mW FW.kp bW .nil zAS (zE (pv 1) (zE (zAc zBe zj (zn GD hr rfl mD FD.kp bD .nil zAS (zE (pv 1) (zE zj zO)))) zO))))
     (zT (zAP (i:=4) zDG.nd rfl (Or.inr rfl) (zn GMa hr rfl mMa FMa.kp bMa .nil zAS (zE (pv 3) zO)))
     (zT (zAP (i:=5) zDG.nd rfl (Or.inl rfl) (zn GLl hr rfl mLl FLl.kp bLl .nil zAS (zE (pv 4) zO)))
     (zT (zAP (i:=6) zDG.nd rfl (Or.inl rfl) (zAL (zFi rfl) (by rfl) mMin (by decide +kernel) (zE (zA8 (own:=["_law_order_here"]) (cn:=["_law_masks_here"]) (ci:=[4]) rfl (csc rfl rfl) ⟨rfl,rfl,rfl,trivial⟩ rfl (zBv (zn GAo hr rfl mAo FAo.kp bAo .nil zAS (zE (zAK zAp (pv 3) zj (fun _ _=>rfl)) zO))) (fun _ _ _ _=>zw (i:=0) (zBn rfl) rfl (Or.inl rfl)) (fun _ _ _ _=>zBP)
      (fun _ _ _ _=>zn GIn hr rfl mIn FIn.kp bIn .nil zAS (zE (pv 1) (zE (pv 0) zO)))) zO)))
     (zT (zAP (i:=7) zDG.nd rfl (Or.inl rfl) (zB8 (zE (zn GLz hr rfl mLz FLz.kp bLz .nil zAS (zE (pv 1) (zE (pv 4) (zE (pv 5) zO)))) (zE (zBD zAf (by rfl) mTuple (by decide +kernel) (zE (pv 5) zO)) zO))))
     (zT (zAP (i:=8) zDG.nd rfl (Or.inl rfl) (zB9 (zE (pv 7) (zE (zn GLo hr rfl mLo FLo.kp bLo .nil zAS (zE (pv 3) zO)) zO))))
     (zT (zBz (PW.pt (zHK (zDN (zCe (zn GLv hr rfl mLv FLv.kp bLv .nil zAS (zE (pv 3) (zE (zAK zAU (pv 8) zj (fun _ _=>rfl)) zO))))) (zEJ (zDN (zCe (zn GLv hr rfl mLv FLv.kp bLv .nil zAS (zE (pv 3) (zE (zAK zAU (pv 8) zj (fun _ _=>rfl)) zO)))))))) zDO zAw)
     (zT (zBY PassesOwn.never rfl (zAZ rfl mRange (zB6 zO)) (zw (i:=9) zDG.nd rfl (Or.inl rfl))
      (zT (zAP (i:=10) zDG.nd rfl (Or.inl rfl) (zEm (te':=tPick) (zC2 (zAQ zCU (zn GD hr rfl mD FD.kp bD .nil zAS (zE (pv 1) (zE zj zO))) zj (zAa _)) (zAK zAp (pv 7) zj (fun _ _=>rfl)) (zn GOr hr rfl mOr FOr.kp bOr .nil zAS (zE (pv 1) (zE (zAK zAp (pv 3) zj (fun _ _=>rfl)) zO)))) ?pick))
      (zf (zCI (zD4 PySem.F.plainAttrs_list PySem.F.slot_list_append PySem.F.type_list_append zBi (pv 8) (zE (zB8 (zE (pv 10) (zE (zn GNm hr rfl mNm FNm.kp bNm .nil zAS (zE (pv 1) (zE (pv 5) (zE (zn GIn hr rfl mIn FIn.kp bIn .nil zAS (zE (pv 4) (zE (pv 10) zO))) zO)))) zO))) zO))))))
     (zf (zBY PassesOwn.never rfl (zBv (pv 8)) (zDg rfl (zBI (zw (i:=10) zDG.nd rfl (Or.inl rfl)) (zBI (zw (i:=11) zDG.nd rfl (Or.inl rfl)) zCs)))
      (zf (zBz (zCe (zn GLv hr rfl mLv FLv.kp bLv .nil zAS (zE (pv 3) (zE (zB8 (zE (pv 10) (zE (pv 11) zO))) zO))))
       (zT (zBz (PW.pt (zHK (zAQ zHN (zn GIn hr rfl mIn FIn.kp bIn .nil zAS (zE (pv 4) (zE (pv 10) zO))) (pv 6) (zAa _)) (zEJ (zAQ zHN (zAK zAp (pv 11) zj (fun _ _=>rfl)) (pv 6) (zAa _))))) zDO zAw)
       (zf (zBz (zAQ zHN (zAL (zCh rfl) (by rfl) mSum (by decide +kernel) (zE (zA8 (own:=["_law_label"]) (cn:=[]) (ci:=[]) rfl (csc rfl rfl) trivial rfl (zC0 (zn GBy9 hr rfl mBy FBy.kp bBy .nil zAS (zE (pv 3) (zE (pv 10) zO)))) (fun _ _ _ _=>zw (i:=0) (zBn rfl) rfl (Or.inl rfl)) (fun _ _ _ _=>zBP)
        (fun _ _ _ _=>zAL zDA (by rfl) mLen PySem.boot_len (zE (pv 0) zO))) zO)) (pv 6) (zAa _)) zDO zAw))) zAw)))))))))))))
    (zf (zAT zF4))),?_⟩
   case pick=>
    rintro σ H2 Q2 ⟨t,wa,ta,g,oa,na,N,n,os,e1,e3,e7,T,hN,n1,n24,hwa,hg,hoa,pm,kk⟩
    refine⟨_,e1,t,N,2,rfl,T,by omega,by decide,by decide,fun r H3 r0 r9 T3 x3=>?_⟩
    have s3:Sm t H2 H3:=fun b o n e=>by rw[x3 b n];exact e
    have hoa3:=s3 _ _ (zCj T hoa) hoa
    refine⟨rfl,_,rfl,zFT (fun c=>?_) (fun c=>?_)⟩
    . exact⟨_,e7,g,_,_,.ref oa,rfl,rfl,SqT.of (s3 _ _ (zCj T hg) hg),rfl,kk oa os H3 (T3.mono (by omega)) s3 hoa3 pm⟩
    . refine⟨_,e1,_,e3,wa,_,_,_,rfl,rfl,SqT.of (s3 _ _ (zCj T hwa) hwa),rfl,t,N+1,(n:Int),rfl,T3,by omega,by omega,by omega,fun l os' H4 hl O T4 s4=>?_⟩
      obtain⟨ps,rfl,pm'⟩:=zIN O
      exact kk l ps H4 (T4.mono (by omega)) (s3.trans s4) hl pm'
   refine⟨_,rfl,a,ns,rfl,hS,hlen,fun t H1 ht T1 s1=>?_⟩
   have B1:Tb H1 PT:=⟨#[],s1 _ _ hPT,trivial,.inl rfl⟩
   have C1:Tb2 H1 P2:=⟨#[],s1 _ _ hP2,trivial,.inl rfl⟩
   refine⟨3,rfl,by decide,by decide,zBK (lo:=0) (n:=3) (fun q σ H2=>∃v2 v3 v4 v5 v6 v7 v8 v9 v10 v11:Option V,σ=[some (.ref a),some (.ref t),v2,v3,v4,v5,v6,v7,v8,v9,v10,v11]/\zAY H2 t (20000*q)/\Tb H2 PT/\Tb2 H2 P2) ⟨_,_,_,_,_,_,_,_,_,_,rfl,T1,B1,C1⟩ (fun q σ H2 hq z=>?_) (fun σ H2 z=>?_)⟩
   . obtain⟨v2,v3,v4,v5,v6,v7,v8,v9,v10,v11,rfl,T2,B2,C2⟩:=z
     rw[zAI]
     refine⟨_,rfl,_,rfl,t,20000*q,5,rfl,T2,by omega,by decide,by decide,fun r H3 r0 r5 T3 e3=>?_⟩
     refine⟨_,_,rfl,rfl,t,20000*q+1,1+r,rfl,T3,by omega,by omega,by omega,fun wa ts H4 _ W4 T4 s4=>?_⟩
     obtain⟨m,em⟩:∃m:Nat,1+r=m:=⟨(1+r).toNat,by omega⟩
     rw[em] at W4
     have s24:Sm t H2 H4:=Sm.trans (fun b o n e=>by rw[e3 b n];exact e) s4
     have B4:Tb H4 PT:=zCk T2 s24 B2
     have C4:Tb2 H4 P2:=zCk T2 s24 C2
     have m1:1<=m:=by omega
     have m5:m<=5:=by omega
     clear T2 B2 C2 T3 s24 s4 e3 em r0 r5 r
     obtain⟨ta,tys,hwa,_,_,G⟩:=id W4
     refine⟨_,rfl,wa,_,ts,rfl,W4,by omega,fun sl R H5 s5 ST5 SR=>?_⟩
     have N5:=SR.nn (by omega)
     have hRl:R.length=m:=by rw[SR.rl];omega
     refine⟨_,rfl,sl,R,rfl,ST5,N5,by omega,fun nl nu H6 s6 hnl6 dp=>?_⟩
     rw[hRl] at dp
     have s46:=s5.trans s6
     have p8:=zDH (show m<=8 by omega)
     have p2:2<=2 ^ m:=zAE (by decide:2<=2 ^ 1) (zBf (by decide) m1)
     refine⟨_,rfl,wa,_,_,_,rfl,rfl,SqT.of (s46 _ _ hwa),rfl,m,rfl,by omega,fun l H7 s7 ⟨as,hl,TI⟩=>?_⟩
     refine⟨l,rfl,⟨_,SqL.of hl⟩,[.ref sl],rfl,fun D hD=>?_⟩
     have ST7:=(ST5.same s6).same s7
     refine zBm (a:=l) (xs:=as.map V.ref) (fun i ys Hx=>ys=(((zAv m).take i).map fun os=>((inA R 0 os:Nat):Int)).map V.int/\zAy H7 Hx/\Hx D=some (.lst ys)) ⟨rfl,zL hD,zH⟩ (fun i ys Hx z=>?_) (fun i ys Hx z=>?_) (fun i x ys Hx hx z=>?_) (fun ys H8 z=>?_)
     . obtain⟨_,sx,_⟩:=z
       exact SqL.of (sx _ _ hl)
     . obtain⟨rfl,_⟩:=z
       rw[zB,zB,zr]
       have:=zDy m (by omega)
       exact zq (by omega)
     . obtain⟨rfl,sx,hDx⟩:=z
       rw[zJ] at hx
       obtain⟨b,hb,rfl⟩:∃b,as[i]? = some b/\V.ref b=x:=by
        cases e:as[i]? with
        | none=>rw[e] at hx;cases hx
        | some b=>rw[e] at hx;exact⟨b,rfl,zP hx⟩
       have hiL:i<(zAv m).length:=by rw[<-TI.1];exact (zK.mp hb).1
       obtain⟨os',hos'⟩:∃os',(zAv m)[i]? = some os':=⟨_,zC hiL⟩
       have pm:=zB1.mp (zS hos')
       refine⟨⟨rfl,rfl⟩,?_⟩
       refine zEZ ?_
       refine⟨_,rfl,_,rfl,sl,b,R,os',rfl,ST7.same sx,N5,sx _ _ (TI.2 i b os' hb hos'),fun p' hp'=>by have:=zAd.mp (pm.mem_iff.mp hp');omega,by rw[pm.length_eq,zu];omega,fun Hy sy=>?_⟩
       refine⟨sy _ _ hDx,?_,zAr (sx.trans sy) hD,zH⟩
       rw[zy,hos',zN,zN];rfl
     . obtain⟨rfl,sx,hDx⟩:=z
       rw[zB,TI.1,zY (zI _)] at hDx
       have s48:zAy H4 H8:=(s46.trans s7).trans sx
       refine⟨D,_,rfl,SqL.of hDx,fun z=>?_,fun M hM hb=>?_⟩
       . have h0:List.range m∈zAv m:=zB1.mpr (List.Perm.refl _)
         rw[List.map_eq_nil_iff.mp z] at h0
         cases h0
       have hMle:∀os:List Nat,os.Perm (List.range m)->M<=(inA R 0 os:Nat):=fun os pm=>hb _ (zp.mpr ⟨os,zB1.mpr pm,rfl⟩)
       obtain⟨oM,hoM,rfl⟩:=zp.mp hM
       have pmM:=zB1.mp hoM
       clear hb hM hoM
       have T8:=T4.keep s48
       have W8:=W4.keep s48
       have ST8:=ST7.same sx
       have hnl8:=sx _ _ (s7 _ _ hnl6)
       have B8:=B4.same s48
       have C8:=C4.same s48
       clear hDx sx s7 s46 s6 s5 s48 TI hl hD T4 ST7 ST5 hnl6 B4 C4 W4 hwa
       refine⟨_,rfl,_,rfl,_,rfl,t,sl,nl,_,R,nu,rfl,T8,by omega,ST8,N5,by omega,hnl8,by rw[hRl];exact dp,fun oa os H9 s9 T9 hoa9 O hol=>?_⟩
       rw[hRl] at O hol
       have W9:=W8.sm T8 s9
       have ST9:=ST8.sm T8 s9
       have hnl9:=s9 _ _ (zCF T8 hnl8) hnl8
       have B9:Tb H9 PT:=zCk T8 s9 B8
       have C9:Tb2 H9 P2:=zCk T8 s9 C8
       clear T8 W8 ST8 hnl8 B8 C8 s9
       have pmO:=O.perm hol
       have lst:=dp.last
       have eO:nu.getD 0 0=(inA R 0 os:Nat):=by
        rw[O.eq,(zCT pmO).2.2.2,lst,Int.add_zero]
       have tgG:Thg R m os nu:=⟨pmO,dp.ln,lst,eO⟩
       have eM:((inA R 0 oM:Nat):Int)=nu.getD 0 0:=by
        have:=hMle os pmO
        have:=(dp.leOk).min lst pmM
        omega
       refine⟨_,rfl,nl,_,rfl,.inl ⟨SqL.of hnl9,fun na hna=>⟨by show 2<=sizeLine;decide,fun g hg=>?_⟩⟩⟩
       have s10:=(zL (o:=.tup (nu.map V.int)) hna).trans (zL (o:=.tup [.ref oa,.ref na]) hg)
       have hg10:(upd (upd H9 na (.tup (nu.map V.int))) g (.tup [.ref oa,.ref na])) g=some (.tup [.ref oa,.ref na]):=zH
       have hna10:(upd (upd H9 na (.tup (nu.map V.int))) g (.tup [.ref oa,.ref na])) na=some (.tup (nu.map V.int)):=zL hg _ _ zH
       generalize upd (upd H9 na (.tup (nu.map V.int))) g (.tup [.ref oa,.ref na])=H10 at s10 hg10 hna10 ⊢
       have hoa10:=s10 _ _ hoa9
       have W10:=W9.keep s10
       refine⟨_,rfl,_,rfl,wa,m,ts,rfl,W10,by omega,B9.same s10,C9.same s10,ne,fun r oa2 na2 R2 nu2 os2 H11 sm11 B11 C11 hr11 hoa11 hna11 TD=>?_⟩
       obtain rfl:R2=R:=TD.sr.uniq SR
       refine⟨by show 2<=sizeLine;decide,fun th hth=>?_⟩
       have hg11:H11 g=some (.tup [.ref oa,.ref na]):=sm11.get hg10 (by intro ps z;cases z)
       have A11:zD3 H11 g os nu:=⟨oa,na,hg11,sm11.get hoa10 (by intro ps z;cases z),sm11.get hna10 (by intro ps z;cases z)⟩
       have W11:zBd H11 wa m ts:=W10.keepT fun b ys e=>sm11.get e (by intro ps z;cases z)
       have ST11:=(ST9.same s10).smT sm11
       have T11:=(T9.keep s10).smT sm11
       have hnl11:H11 nl=some (.lst (nu.map V.int)):=sm11.get (s10 _ _ hnl9) (by intro ps z;cases z)
       have tg2:Thg R2 m os2 nu2:=⟨TD.ow.perm TD.ln,TD.dp.ln,TD.dp.last,by rw[TD.ow.eq,(zCT (TD.ow.perm TD.ln)).2.2.2,TD.dp.last,Int.add_zero]⟩
       have le2:=TD.dp.leOk
       have B2':zD3 H11 r os2 nu2:=⟨oa2,na2,hr11,hoa11,hna11⟩
       clear TD hr11 hoa11 hna11 hg10 hna10 hoa10 hg11 sm11 W10 W9 ST9 T9 hnl9 B9 C9 s10 hoa9 hna hg oa2 na2
       have sL:=zL (o:=.lst [.ref g,.ref r]) hth
       have hth12:(upd H11 th (.lst [.ref g,.ref r])) th=some (.lst ([g,r].map V.ref)):=zH
       generalize upd H11 th (.lst [.ref g,.ref r])=H12 at sL hth12 ⊢
       have L1:zKf PT H12 wa g m ts R2 os nu:=⟨W11.keep sL,by omega,A11.same sL,SR,tgG,B11.same sL⟩
       refine⟨_,rfl,_,rfl,th,_,_,.ref g,rfl,rfl,SqL.of hth12,rfl,wa,g,m,ts,R2,os,nu,rfl,L1,fun b H13 hb sm13 B13=>?_⟩
       obtain rfl:b=true:=hb.mpr dp.leOk
       refine⟨_,rfl,zD2 ?_⟩
       have hth13:H13 th=some (.lst ([g,r].map V.ref)):=sm13.get hth12 (by intro ps z;cases z)
       have L2':zKf PT H13 wa r m ts R2 os2 nu2:=⟨L1.wb.smP sm13,by omega,(B2'.same sL).smP sm13,SR,tg2,B13⟩
       refine⟨_,rfl,_,rfl,th,_,_,.ref r,rfl,rfl,SqL.of hth13,rfl,wa,r,m,ts,R2,os2,nu2,rfl,L2',fun b H14 hb sm14 B14=>?_⟩
       obtain rfl:b=true:=hb.mpr le2
       refine⟨_,rfl,zD2 ?_⟩
       have smA:SmP PT H11 H14:=((SmP.of sL).trans sm13).trans sm14
       have hth14:H14 th=some (.lst ([g,r].map V.ref)):=sm14.get hth13 (by intro ps z;cases z)
       have T14:zAY H14 t (20000*q+400):=(T11.smT smA.smT).mono (by omega)
       have C14:Tb2 H14 P2:=smA.tab ne.symm C11
       have TH14:zFr H14 th R2 m [g,r]:=⟨hth14,by simp,fun b hb=>by
        rcases ze.mp hb with rfl | hb
        . exact⟨os,nu,A11.smP smA,tgG⟩
        . rw[zk.mp hb];exact⟨os2,nu2,B2'.smP smA,tg2⟩⟩
       have sA14:SmA PT t H11 H14:=SmP.smA smA
       clear L1 L2' C11 B11 B13 B2' hth13 hth12 sm13 sm14 smA sL le2
       refine⟨8,rfl,by decide,by decide,zBK (lo:=0) (n:=8) (fun i σ H'=>∃(v9 v10 v11:Option V)(as:List Addr),σ=[some (.ref a),some (.ref t),some (.int q),some (.ref wa),some (.ref sl),some (.ref nl),some (.int ((inA R2 0 oM:Nat):Int)),some (.ref g),some (.ref th),v9,v10,v11]/\SmA PT t H11 H'/\zAY H' t (20000*q+400+2100*i)/\Tb H' PT/\Tb2 H' P2/\zFr H' th R2 m as/\as.length<=2+i)
        ⟨_,_,_,[g,r],rfl,sA14,T14,B14,C14,TH14,zI _⟩ (fun i σ H15 hi z=>?_) (fun σ H15 z=>?_)⟩
       . obtain⟨v9',v10',v11',as',rfl,sA,T15,B15,C15,TH,hal⟩:=z
         rw[zAI]
         obtain⟨ta,tys,hwa11,_,_,_⟩:=id W11
         obtain⟨oa',na',g1,g2,g3⟩:=id A11
         refine⟨t,wa,ta,g,oa',na',_,m,os,rfl,rfl,rfl,T15,by omega,m1,by omega,sA.tup T11 hwa11,sA.tup T11 g1,sA.tup T11 g2,pmO,fun ob ob' H16 T16 s16 hob pmb=>?_⟩
         obtain⟨_,ltb,lnb,_⟩:=zCT pmb
         have sA16:=sA.sm s16
         have TH16:=TH.sm T15 s16
         refine⟨_,rfl,.inl ⟨rfl,_,SqL.of TH16.at'⟩,_,rfl,_,rfl,_,rfl,_,rfl,_,rfl,sl,ob,R2,ob',rfl,ST11.smA T11 sA16,N5,hob,fun p hp=>by have:=ltb p hp;omega,by omega,fun H17 s17=>?_⟩
         have T17:=T16.keep s17
         refine⟨t,nl,_,nu,_,rfl,T17,by omega,s17 _ _ (sA16.get hnl11 (zCF T11 hnl11) (by intro ps z;cases z)),by rw[dp.ln];exact p2,by rw[dp.ln];exact p8,fun nb nub H18 s18 T18 hnb l1 l2 l3=>?_⟩
         have s1618:Sm t H16 H18:=(Sm.of s17).trans s18
         refine⟨by show 2<=sizeLine;decide,fun p hp=>?_⟩
         have sp:=zL (o:=.tup [.ref ob,.ref nb]) hp
         have TH19:=(TH16.sm T16 s1618).sm T18 (Sm.of sp)
         have hob18:=s1618 _ _ (zCj T16 hob) hob
         have A19:zD3 (upd H18 p (.tup [.ref ob,.ref nb])) p ob' nub:=⟨ob,nb,zH,sp _ _ hob18,sp _ _ hnb⟩
         have tgB:Thg R2 m ob' nub:=⟨pmb,l1.trans dp.ln,by rw[dp.ln] at l2;rw[l2];exact lst,l3⟩
         refine⟨th,_,.ref p,rfl,rfl,TH19.at',by rw[zB];exact zq (by omega),?_⟩
         have s1519:Sm t H15 (upd H18 p (.tup [.ref ob,.ref nb])):=(s16.trans s1618).trans (Sm.of sp)
         refine⟨_,_,_,as'++[p],rfl,(sA.sm s1519).put hth,(zJi (T18.keep sp) TH19.at' TH19.ne).mono (by omega),zHr (zCk T15 s1519 B15) TH19.at',zHr (zCk T15 s1519 C15) TH19.at',TH19.add A19 tgB,by rw[zM,zAz];omega⟩
       . obtain⟨v9',v10',v11',as',rfl,sA,T15,B15,C15,TH,hal⟩:=z
         have ST15:=ST11.smA T11 sA
         have W15:zBd H15 wa m ts:=W11.keepT fun b ys e=>sA.tup T11 e
         refine⟨_,rfl,th,rfl,⟨_,SqL.of TH.at'⟩,zDV (K:=K) (a:=th) (xs:=as'.map V.ref) (fun i σ H'=>∃v10 v11:Option V,σ=[some (.ref a),some (.ref t),some (.int q),some (.ref wa),some (.ref sl),some (.ref nl),some (.int ((inA R2 0 oM:Nat):Int)),some (.ref g),some (.ref th),v9',v10,v11]/\SmP PT H15 H'/\Tb H' PT) ⟨_,_,rfl,SmP.refl _,B15⟩ (fun i σ H' _ z=>?_) (fun i x σ H' hx z=>?_) (fun σ H' z=>?_)⟩
         . obtain⟨_,_,_,sm',_⟩:=z
           exact SqL.of (sm'.get TH.at' (by intro ps z;cases z))
         . obtain⟨v10,v11,rfl,sm',B'⟩:=z
           rw[zJ] at hx
           obtain⟨b,hb,rfl⟩:∃b,as'[i]? = some b/\V.ref b=x:=by
            cases e:as'[i]? with
            | none=>rw[e] at hx;cases hx
            | some b=>rw[e] at hx;exact⟨b,rfl,zP hx⟩
           obtain⟨ob,nub,A15,tgB⟩:=TH.ok b (zS hb)
           obtain⟨oa',na',g1,g2,g3⟩:=A15.smP sm'
           obtain⟨_,ltb,lnb,_⟩:=zCT tgB.pm
           have hnl0:0<nub.length:=by rw[tgB.ln];exact zDZ _
           refine⟨b,_,rfl,SqT.of g1,rfl,_,_,rfl,_,_,rfl,rfl,?_⟩
           refine⟨_,rfl,_,rfl,_,rfl,by show 2<=sizeLine;decide,fun p hp=>?_⟩
           have sp:=zL (o:=.tup [.ref oa',.ref na']) hp
           have hpp:(upd H' p (.tup [.ref oa',.ref na'])) p=some (.tup [.ref oa',.ref na']):=zH
           generalize upd H' p (.tup [.ref oa',.ref na'])=H16 at sp hpp ⊢
           have sm16:SmP PT H15 H16:=sm'.trans (SmP.of sp)
           refine⟨wa,p,m,ts,R2,ob,nub,rfl,⟨W15.smP sm16,by omega,⟨oa',na',hpp,sp _ _ g2,sp _ _ g3⟩,SR,tgB,B'.same sp⟩,fun bb H17 hbb sm17 B17=>?_⟩
           have smB:SmP PT H15 H17:=sm16.trans sm17
           refine⟨_,rfl,?_⟩
           cases bb with
           | false=>exact zD2 ⟨_,_,rfl,smB,B17⟩
           | true=>
            refine zGq ?_
            have le:=hbb.mp rfl
            have hoa17:H17 oa'=some (.tup ((nI ob).map V.int)):=sm17.get (sp _ _ g2) (by intro ps z;cases z)
            have hna17:H17 na'=some (.tup (nub.map V.int)):=sm17.get (sp _ _ g3) (by intro ps z;cases z)
            have eB:((inA R2 0 ob:Nat):Int)=((inA R2 0 oM:Nat):Int):=by
             have h1:=hMle ob tgB.pm
             have h2:=le.min tgB.last pmM
             have h3:=tgB.at0
             omega
            refine⟨_,rfl,_,rfl,sl,oa',R2,ob,rfl,ST15.smP smB,N5,hoa17,fun p hp=>by have:=ltb p hp;omega,by omega,fun H18 s18=>?_⟩
            refine⟨_,rfl,rfl,_,rfl,ifF (by rw[zU (by rw[eB])];rfl) ?_⟩
            refine⟨_,rfl,na',_,_,.int (nub.getD 0 0),rfl,rfl,SqT.of (s18 _ _ hna17),at0 hnl0,_,rfl,rfl,_,rfl,ifF (by rw[zU (by rw[tgB.at0,eB])];rfl) ?_⟩
            have smC:SmP PT H15 H18:=smB.trans (SmP.of s18)
            refine⟨_,rfl,_,rfl,wa,oa',m,ts,nI ob,rfl,W15.smP smC,s18 _ _ hoa17,zC1 tgB.pm,B17.same s18,fun l ess rk H19 sm19 B19 LA RK LO=>?_⟩
            obtain⟨bs,hl,hbl,hk⟩:=LA.tlen
            refine⟨l,rfl,⟨_,SqT.of hl⟩,[],rfl,fun D hD=>?_⟩
            refine zCl (a:=l) (xs:=bs.map V.ref) (fun i ys H4=>ys=(((ess.map List.length).take i).map fun k:Nat=>(k:Int)).map V.int/\H4=upd H19 D (.lst ys)) ⟨rfl,rfl⟩ (fun i ys H4 z=>?_) (fun i ys H4 z=>?_) (fun i x ys H4 hx z=>?_) (fun ys H4 z=>?_)
            . obtain⟨_,rfl⟩:=z
              exact SqT.of (by rw[zX (zi hl hD)];exact hl)
            . obtain⟨rfl,_⟩:=z
              rw[zB,zB,zr,zB,LO.1]
              exact zq (by omega)
            . obtain⟨rfl,rfl⟩:=z
              obtain⟨a',ha,rfl⟩:∃a',bs[i]? = some a'/\V.ref a'=x:=by
               rw[zJ] at hx
               cases e:bs[i]? with
               | none=>rw[e] at hx;cases hx
               | some a'=>rw[e] at hx;exact⟨a',rfl,zP hx⟩
              obtain⟨zs,e1,e2⟩:=hk i a' ha
              refine⟨⟨rfl,rfl⟩,?_⟩
              refine zEZ ?_
              refine⟨_,rfl,a',zs,rfl,.inr (SqT.of (by rw[zX (zi e1 hD)];exact e1)),zH,?_,zBX⟩
              rw[zy,e2,zN,zN];rfl
            . obtain⟨rfl,rfl⟩:=z
              rw[zB,hbl,zY (zI _)]
              refine⟨D,_,rfl,SqL.of zH,_,rfl,rfl,_,rfl,ifF (by rw[zFU G SR tgB.pm RK LO,eB];simp) ?_⟩
              have s20:=zL (o:=.lst (((ess.map List.length).map fun k:Nat=>(k:Int)).map V.int)) hD
              exact⟨_,_,rfl,(smC.trans sm19).trans (SmP.of s20),B19.same s20⟩
         . obtain⟨v10,v11,rfl,sm',B'⟩:=z
           exact⟨_,_,_,_,_,_,_,_,_,_,rfl,(T15.smT sm'.smT).mono (by omega),B',sm'.tab ne.symm C15⟩
   . obtain⟨v2,v3,v4,v5,v6,v7,v8,v9,v10,v11,rfl,_⟩:=z
     exact k H2
end
end K37
namespace K37
open PySem L2 WM
noncomputable abbrev sT:String->Str:=Str.ofString
noncomputable abbrev kH:=PyData.keyHash
noncomputable abbrev dE:=DictEntry.mk
noncomputable abbrev vS:=Value.str
noncomputable abbrev vI:=Value.int
noncomputable abbrev vR:=Value.ref
noncomputable abbrev vB:=Value.bool
noncomputable abbrev vN:Value:=Value.none
noncomputable abbrev vT:=Value.type
noncomputable abbrev oM:=Obj.mk
noncomputable abbrev cQ (x:Array Value):Obj:=oM (vT "code") .none (.fields x) #[]
noncomputable abbrev fQ (x:FuncData):Obj:=oM (vT "function") .none (.func x) #[]
noncomputable abbrev fT (x:String)(i:Nat)(m:Value)(c:Nat):Obj:=fQ (.mk (sT x) (sT x) (L2.defArgs (top i)) (FuncBody.stmts (L2.defBody (top i))) (L2.defScope (top i)) 3 [] vN vN vN m .none (vR c) vN 0)
noncomputable abbrev qS (x:String)(n:Nat):Value:=vS (sT x) n
noncomputable abbrev kE (P:Params)(x:String)(n:Nat):Value->DictEntry:=dE (kH P (sT x)) (qS x n)
noncomputable def Kf:Params->PySem.W.Frag:=fun P=>[
(2,oM vN .none (Data.dict #[]) #[]),
(3,oM (vT "dict") .none (Data.dict #[kE P "__name__" 165 (qS "law_labelways_k37_whole_let_by_is_least" 513),kE P "__doc__" 166 vN,kE P "__package__" 167 vN,kE P "__loader__" 168 (Value.builtin "__main__.__loader__#opaque"),kE P "__spec__" 169 vN,kE P "__annotations__" 170 (vR 6),kE P "__builtins__" 171 (vR 4),kE P "__file__" 173 (qS "/claim/cut.py" 172),kE P "__cached__" 174 vN,kE P "WayError" 206 (vR 24),kE P "NoLeast" 233 (vR 44),kE P "NoOrder" 249 (vR 56),kE P "TooMany" 265 (vR 68),kE P "is_number" 274 (vR 77),kE P "is_within" 283 (vR 84),kE P "is_tuple_of" 291 (vR 91),kE P "is_place" 299 (vR 98),kE P "ties_at" 313 (vR 105),kE P "lengths" 321 (vR 110),kE P "lengths_from" 335 (vR 117),kE P "nearest" 343 (vR 124),kE P "between_rows" 349 (vR 129),kE P "next_by_row" 355 (vR 134),kE P "is_order" 363 (vR 139),kE P "by_order" 369 (vR 144),kE P "label_by_ranks" 375 (vR 149),kE P "is_hub" 381 (vR 154),kE P "entry_by_rows" 393 (vR 161),kE P "total" 399 (vR 166),kE P "MOST_PLACES_OF_LEASTS" 403 (vI 8 402),kE P "count_free" 409 (vR 171),kE P "sets_from" 415 (vR 176),kE P "set_number" 421 (vR 181),kE P "lets_least" 430 (vR 188),kE P "refuse_too_many" 437 (vR 195),kE P "is_order_with_numbers" 443 (vR 200),kE P "step_fault" 455 (vR 207),kE P "all_sets" 461 (vR 212),kE P "left_places" 467 (vR 217),kE P "by_way_of" 477 (vR 224),kE P "least_order" 488 (vR 231),kE P "least_numbers" 499 (vR 238),kE P "best_next" 512 (vR 245),kE P "_law_tape" 521 (vR 252),kE P "_law_draw" 533 (vR 259),kE P "_law_web" 539 (vR 264),kE P "_law_added" 547 (vR 271),kE P "_law_lesser" 555 (vR 278),kE P "_law_far" 561 (vR 283),kE P "_law_on" 572 (vR 290),kE P "_law_order" 583 (vR 297),kE P "_law_masks" 589 (vR 302),kE P "_law_brought" 595 (vR 307),kE P "_law_in_all" 606 (vR 314),kE P "_law_least" 612 (vR 319),kE P "_law_least_order" 618 (vR 324),kE P "_law_all_orders" 624 (vR 329),kE P "_law_let" 633 (vR 336),kE P "_law_numbers" 645 (vR 343),kE P "law" 651 (vR 348)] 60) #[]),
(23,oM (vT "dict") .none (Data.dict #[kE P "__module__" 196 (qS "labelways.errors" 187),kE P "__firstlineno__" 200 (vI 2 199),kE P "__static_attributes__" 201 (vR 22),kE P "__weakref__" 203 (vR 25),kE P "__doc__" 204 vN] 3) #[]),
(24,oM (vT "type") .none (Data.cls (ClassData.mk (sT "WayError") [vT "ValueError"] [vR 24,vT "ValueError",vT "Exception",vT "BaseException",vT "object"] 23 (sT "WayError") true [] [vR 44,vR 56,vR 68] false .none false)) #[.some (vR 15),.none,.some (qS "WayError" 189),.some (qS "WayError" 197),.some (Value.builtin "ValueError.__new__"),.some (vB true)]),
(25,oM (vT "getset_descriptor") .none (Data.fields #[qS "__weakref__" 202,vR 24,Value.builtin "ExceptionGroup.__weakref__",vN]) #[]),
(40,cQ #[qS "__init__" 219,qS "NoLeast.__init__" 220,qS "/claim/cut.py" 221,vI 6 0,vI 3 0,vI 0 0,vI 0 0,vI 3 0,vR 35,vB true,vI 181 0,vR 36,vN,vR 37,vR 38,vR 39,vI 225 0,vI 6 0,qS "/claim/cut.py" 226]),
(41,fQ (.mk (sT "__init__") (sT "NoLeast.__init__") (L2.defArgs (mth 2 0)) (FuncBody.stmts (L2.defBody (mth 2 0))) (L2.defScope (mth 2 0)) 3 [] vN vN vN (qS "labelways.errors" 187) .none (vR 40) vN 0)),
(43,oM (vT "dict") .none (Data.dict #[kE P "__module__" 214 (qS "labelways.errors" 187),kE P "__firstlineno__" 218 (vI 4 217),kE P "__init__" 227 (vR 41),kE P "__static_attributes__" 230 (vR 42),kE P "__doc__" 231 vN] 2) #[]),
(44,oM (vT "type") .none (Data.cls (ClassData.mk (sT "NoLeast") [vR 24] [vR 44,vR 24,vT "ValueError",vT "Exception",vT "BaseException",vT "object"] 43 (sT "NoLeast") true [] [] false .none false)) #[.some (vR 28),.none,.some (qS "NoLeast" 207),.some (qS "NoLeast" 215),.some (Value.builtin "ValueError.__new__"),.some (vB true)]),
(55,oM (vT "dict") .none (Data.dict #[kE P "__module__" 241 (qS "labelways.errors" 187),kE P "__firstlineno__" 245 (vI 9 244),kE P "__static_attributes__" 246 (vR 54),kE P "__doc__" 247 vN] 2) #[]),
(56,oM (vT "type") .none (Data.cls (ClassData.mk (sT "NoOrder") [vR 24] [vR 56,vR 24,vT "ValueError",vT "Exception",vT "BaseException",vT "object"] 55 (sT "NoOrder") true [] [] false .none false)) #[.some (vR 47),.none,.some (qS "NoOrder" 234),.some (qS "NoOrder" 242),.some (Value.builtin "ValueError.__new__"),.some (vB true)]),
(67,oM (vT "dict") .none (Data.dict #[kE P "__module__" 257 (qS "labelways.errors" 187),kE P "__firstlineno__" 261 (vI 11 260),kE P "__static_attributes__" 262 (vR 66),kE P "__doc__" 263 vN] 2) #[]),
(68,oM (vT "type") .none (Data.cls (ClassData.mk (sT "TooMany") [vR 24] [vR 68,vR 24,vT "ValueError",vT "Exception",vT "BaseException",vT "object"] 67 (sT "TooMany") true [] [] false .none false)) #[.some (vR 59),.none,.some (qS "TooMany" 250),.some (qS "TooMany" 258),.some (Value.builtin "ValueError.__new__"),.some (vB true)]),
(76,cQ #[qS "is_number" 268,qS "is_number" 269,qS "/claim/cut.py" 270,vI 14 0,vI 1 0,vI 0 0,vI 0 0,vI 3 0,vR 71,vB true,vI 181 0,vR 72,vN,vR 73,vR 74,vR 75,vI 272 0,vI 14 0,qS "/claim/cut.py" 273]),
(77,fQ (.mk (sT "is_number") (sT "is_number") (L2.defArgs (top 6)) (FuncBody.stmts (L2.defBody (top 6))) (L2.defScope (top 6)) 3 [] vN vN vN (qS "labelways.kinds" 266) .none (vR 76) vN 0)),
(83,cQ #[qS "is_within" 275,qS "is_within" 276,qS "/claim/cut.py" 277,vI 16 0,vI 3 0,vI 0 0,vI 0 0,vI 3 0,vR 78,vB true,vI 181 0,vR 79,vN,vR 80,vR 81,vR 82,vI 281 0,vI 16 0,qS "/claim/cut.py" 282]),
(84,fQ (.mk (sT "is_within") (sT "is_within") (L2.defArgs (top 7)) (FuncBody.stmts (L2.defBody (top 7))) (L2.defScope (top 7)) 3 [] vN vN vN (qS "labelways.kinds" 266) .none (vR 83) vN 0)),
(90,cQ #[qS "is_tuple_of" 284,qS "is_tuple_of" 285,qS "/claim/cut.py" 286,vI 18 0,vI 2 0,vI 0 0,vI 0 0,vI 3 0,vR 85,vB true,vI 181 0,vR 86,vN,vR 87,vR 88,vR 89,vI 289 0,vI 18 0,qS "/claim/cut.py" 290]),
(91,fQ (.mk (sT "is_tuple_of") (sT "is_tuple_of") (L2.defArgs (top 8)) (FuncBody.stmts (L2.defBody (top 8))) (L2.defScope (top 8)) 3 [] vN vN vN (qS "labelways.kinds" 266) .none (vR 90) vN 0)),
(97,cQ #[qS "is_place" 292,qS "is_place" 293,qS "/claim/cut.py" 294,vI 20 0,vI 2 0,vI 0 0,vI 0 0,vI 3 0,vR 92,vB true,vI 181 0,vR 93,vN,vR 94,vR 95,vR 96,vI 297 0,vI 20 0,qS "/claim/cut.py" 298]),
(98,fQ (.mk (sT "is_place") (sT "is_place") (L2.defArgs (top 9)) (FuncBody.stmts (L2.defBody (top 9))) (L2.defScope (top 9)) 3 [] vN vN vN (qS "labelways.kinds" 266) .none (vR 97) vN 0)),
(104,cQ #[qS "ties_at" 302,qS "ties_at" 303,qS "/claim/cut.py" 304,vI 23 0,vI 2 0,vI 0 0,vI 0 0,vI 3 0,vR 99,vB true,vI 181 0,vR 100,vN,vR 101,vR 102,vR 103,vI 311 0,vI 23 0,qS "/claim/cut.py" 312]),
(105,fQ (.mk (sT "ties_at") (sT "ties_at") (L2.defArgs (top 11)) (FuncBody.stmts (L2.defBody (top 11))) (L2.defScope (top 11)) 3 [] vN vN vN (qS "labelways.webs" 300) .none (vR 104) vN 0)),
(109,cQ #[qS "lengths" 316,qS "lengths" 317,qS "/claim/cut.py" 318,vI 32 0,vI 1 0,vI 0 0,vI 0 0,vI 3 0,vR 106,vB true,vI 181 0,vR 107,vN,vN,vN,vR 108,vI 319 0,vI 32 0,qS "/claim/cut.py" 320]),
(110,fQ (.mk (sT "lengths") (sT "lengths") (L2.defArgs (top 13)) (FuncBody.stmts (L2.defBody (top 13))) (L2.defScope (top 13)) 3 [] vN vN vN (qS "labelways.lengths" 314) .none (vR 109) vN 0)),
(116,cQ #[qS "lengths_from" 322,qS "lengths_from" 323,qS "/claim/cut.py" 324,vI 34 0,vI 2 0,vI 0 0,vI 0 0,vI 3 0,vR 111,vB true,vI 181 0,vR 112,vN,vR 113,vR 114,vR 115,vI 333 0,vI 34 0,qS "/claim/cut.py" 334]),
(117,fQ (.mk (sT "lengths_from") (sT "lengths_from") (L2.defArgs (top 14)) (FuncBody.stmts (L2.defBody (top 14))) (L2.defScope (top 14)) 3 [] vN vN vN (qS "labelways.lengths" 314) .none (vR 116) vN 0)),
(123,cQ #[qS "nearest" 336,qS "nearest" 337,qS "/claim/cut.py" 338,vI 45 0,vI 1 0,vI 0 0,vI 0 0,vI 3 0,vR 118,vB true,vI 181 0,vR 119,vN,vR 120,vR 121,vR 122,vI 341 0,vI 45 0,qS "/claim/cut.py" 342]),
(124,fQ (.mk (sT "nearest") (sT "nearest") (L2.defArgs (top 15)) (FuncBody.stmts (L2.defBody (top 15))) (L2.defScope (top 15)) 3 [] vN vN vN (qS "labelways.lengths" 314) .none (vR 123) vN 0)),
(128,cQ #[qS "between_rows" 344,qS "between_rows" 345,qS "/claim/cut.py" 346,vI 47 0,vI 3 0,vI 0 0,vI 0 0,vI 3 0,vR 125,vB true,vI 181 0,vR 126,vN,vN,vN,vR 127,vI 347 0,vI 47 0,qS "/claim/cut.py" 348]),
(129,fQ (.mk (sT "between_rows") (sT "between_rows") (L2.defArgs (top 16)) (FuncBody.stmts (L2.defBody (top 16))) (L2.defScope (top 16)) 3 [] vN vN vN (qS "labelways.lengths" 314) .none (vR 128) vN 0)),
(133,cQ #[qS "next_by_row" 350,qS "next_by_row" 351,qS "/claim/cut.py" 352,vI 52 0,vI 3 0,vI 0 0,vI 0 0,vI 3 0,vR 130,vB true,vI 181 0,vR 131,vN,vN,vN,vR 132,vI 353 0,vI 52 0,qS "/claim/cut.py" 354]),
(134,fQ (.mk (sT "next_by_row") (sT "next_by_row") (L2.defArgs (top 17)) (FuncBody.stmts (L2.defBody (top 17))) (L2.defScope (top 17)) 3 [] vN vN vN (qS "labelways.lengths" 314) .none (vR 133) vN 0)),
(138,cQ #[qS "is_order" 358,qS "is_order" 359,qS "/claim/cut.py" 360,vI 57 0,vI 2 0,vI 0 0,vI 0 0,vI 3 0,vR 135,vB true,vI 181 0,vR 136,vN,vN,vN,vR 137,vI 361 0,vI 57 0,qS "/claim/cut.py" 362]),
(139,fQ (.mk (sT "is_order") (sT "is_order") (L2.defArgs (top 19)) (FuncBody.stmts (L2.defBody (top 19))) (L2.defScope (top 19)) 3 [] vN vN vN (qS "labelways.orders" 356) .none (vR 138) vN 0)),
(143,cQ #[qS "by_order" 364,qS "by_order" 365,qS "/claim/cut.py" 366,vI 62 0,vI 2 0,vI 0 0,vI 0 0,vI 3 0,vR 140,vB true,vI 181 0,vR 141,vN,vN,vN,vR 142,vI 367 0,vI 62 0,qS "/claim/cut.py" 368]),
(144,fQ (.mk (sT "by_order") (sT "by_order") (L2.defArgs (top 20)) (FuncBody.stmts (L2.defBody (top 20))) (L2.defScope (top 20)) 3 [] vN vN vN (qS "labelways.orders" 356) .none (vR 143) vN 0)),
(148,cQ #[qS "label_by_ranks" 370,qS "label_by_ranks" 371,qS "/claim/cut.py" 372,vI 68 0,vI 4 0,vI 0 0,vI 0 0,vI 3 0,vR 145,vB true,vI 181 0,vR 146,vN,vN,vN,vR 147,vI 373 0,vI 68 0,qS "/claim/cut.py" 374]),
(149,fQ (.mk (sT "label_by_ranks") (sT "label_by_ranks") (L2.defArgs (top 21)) (FuncBody.stmts (L2.defBody (top 21))) (L2.defScope (top 21)) 3 [] vN vN vN (qS "labelways.orders" 356) .none (vR 148) vN 0)),
(153,cQ #[qS "is_hub" 376,qS "is_hub" 377,qS "/claim/cut.py" 378,vI 71 0,vI 4 0,vI 0 0,vI 0 0,vI 3 0,vR 150,vB true,vI 181 0,vR 151,vN,vN,vN,vR 152,vI 379 0,vI 71 0,qS "/claim/cut.py" 380]),
(154,fQ (.mk (sT "is_hub") (sT "is_hub") (L2.defArgs (top 22)) (FuncBody.stmts (L2.defBody (top 22))) (L2.defScope (top 22)) 3 [] vN vN vN (qS "labelways.orders" 356) .none (vR 153) vN 0)),
(160,cQ #[qS "entry_by_rows" 382,qS "entry_by_rows" 383,qS "/claim/cut.py" 384,vI 75 0,vI 4 0,vI 0 0,vI 0 0,vI 3 0,vR 155,vB true,vI 181 0,vR 156,vN,vR 157,vR 158,vR 159,vI 391 0,vI 75 0,qS "/claim/cut.py" 392]),
(161,fQ (.mk (sT "entry_by_rows") (sT "entry_by_rows") (L2.defArgs (top 23)) (FuncBody.stmts (L2.defBody (top 23))) (L2.defScope (top 23)) 3 [] vN vN vN (qS "labelways.orders" 356) .none (vR 160) vN 0)),
(165,cQ #[qS "total" 394,qS "total" 395,qS "/claim/cut.py" 396,vI 79 0,vI 1 0,vI 0 0,vI 0 0,vI 3 0,vR 162,vB true,vI 181 0,vR 163,vN,vN,vN,vR 164,vI 397 0,vI 79 0,qS "/claim/cut.py" 398]),
(166,fQ (.mk (sT "total") (sT "total") (L2.defArgs (top 24)) (FuncBody.stmts (L2.defBody (top 24))) (L2.defScope (top 24)) 3 [] vN vN vN (qS "labelways.orders" 356) .none (vR 165) vN 0)),
(170,cQ #[qS "count_free" 404,qS "count_free" 405,qS "/claim/cut.py" 406,vI 83 0,vI 2 0,vI 0 0,vI 0 0,vI 3 0,vR 167,vB true,vI 181 0,vR 168,vN,vN,vN,vR 169,vI 407 0,vI 83 0,qS "/claim/cut.py" 408]),
(171,fQ (.mk (sT "count_free") (sT "count_free") (L2.defArgs (top 27)) (FuncBody.stmts (L2.defBody (top 27))) (L2.defScope (top 27)) 3 [] vN vN vN (qS "labelways.leasts" 400) .none (vR 170) vN 0)),
(175,cQ #[qS "sets_from" 410,qS "sets_from" 411,qS "/claim/cut.py" 412,vI 85 0,vI 2 0,vI 0 0,vI 0 0,vI 3 0,vR 172,vB true,vI 181 0,vR 173,vN,vN,vN,vR 174,vI 413 0,vI 85 0,qS "/claim/cut.py" 414]),
(176,fQ (.mk (sT "sets_from") (sT "sets_from") (L2.defArgs (top 28)) (FuncBody.stmts (L2.defBody (top 28))) (L2.defScope (top 28)) 3 [] vN vN vN (qS "labelways.leasts" 400) .none (vR 175) vN 0)),
(180,cQ #[qS "set_number" 416,qS "set_number" 417,qS "/claim/cut.py" 418,vI 87 0,vI 1 0,vI 0 0,vI 0 0,vI 3 0,vR 177,vB true,vI 181 0,vR 178,vN,vN,vN,vR 179,vI 419 0,vI 87 0,qS "/claim/cut.py" 420]),
(181,fQ (.mk (sT "set_number") (sT "set_number") (L2.defArgs (top 29)) (FuncBody.stmts (L2.defBody (top 29))) (L2.defScope (top 29)) 3 [] vN vN vN (qS "labelways.leasts" 400) .none (vR 180) vN 0)),
(187,cQ #[qS "lets_least" 422,qS "lets_least" 423,qS "/claim/cut.py" 424,vI 89 0,vI 2 0,vI 0 0,vI 0 0,vI 3 0,vR 182,vB true,vI 181 0,vR 183,vN,vR 184,vR 185,vR 186,vI 428 0,vI 89 0,qS "/claim/cut.py" 429]),
(188,fQ (.mk (sT "lets_least") (sT "lets_least") (L2.defArgs (top 30)) (FuncBody.stmts (L2.defBody (top 30))) (L2.defScope (top 30)) 3 [] vN vN vN (qS "labelways.leasts" 400) .none (vR 187) vN 0)),
(194,cQ #[qS "refuse_too_many" 431,qS "refuse_too_many" 432,qS "/claim/cut.py" 433,vI 101 0,vI 1 0,vI 0 0,vI 0 0,vI 3 0,vR 189,vB true,vI 181 0,vR 190,vN,vR 191,vR 192,vR 193,vI 435 0,vI 101 0,qS "/claim/cut.py" 436]),
(195,fQ (.mk (sT "refuse_too_many") (sT "refuse_too_many") (L2.defArgs (top 31)) (FuncBody.stmts (L2.defBody (top 31))) (L2.defScope (top 31)) 3 [] vN vN vN (qS "labelways.leasts" 400) .none (vR 194) vN 0)),
(199,cQ #[qS "is_order_with_numbers" 438,qS "is_order_with_numbers" 439,qS "/claim/cut.py" 440,vI 104 0,vI 2 0,vI 0 0,vI 0 0,vI 3 0,vR 196,vB true,vI 181 0,vR 197,vN,vN,vN,vR 198,vI 441 0,vI 104 0,qS "/claim/cut.py" 442]),
(200,fQ (.mk (sT "is_order_with_numbers") (sT "is_order_with_numbers") (L2.defArgs (top 32)) (FuncBody.stmts (L2.defBody (top 32))) (L2.defScope (top 32)) 3 [] vN vN vN (qS "labelways.leasts" 400) .none (vR 199) vN 0)),
(206,cQ #[qS "step_fault" 444,qS "step_fault" 445,qS "/claim/cut.py" 446,vI 108 0,vI 2 0,vI 0 0,vI 0 0,vI 3 0,vR 201,vB true,vI 181 0,vR 202,vN,vR 203,vR 204,vR 205,vI 453 0,vI 108 0,qS "/claim/cut.py" 454]),
(207,fQ (.mk (sT "step_fault") (sT "step_fault") (L2.defArgs (top 33)) (FuncBody.stmts (L2.defBody (top 33))) (L2.defScope (top 33)) 3 [] vN vN vN (qS "labelways.leasts" 400) .none (vR 206) vN 0)),
(211,cQ #[qS "all_sets" 456,qS "all_sets" 457,qS "/claim/cut.py" 458,vI 115 0,vI 1 0,vI 0 0,vI 0 0,vI 3 0,vR 208,vB true,vI 181 0,vR 209,vN,vN,vN,vR 210,vI 459 0,vI 115 0,qS "/claim/cut.py" 460]),
(212,fQ (.mk (sT "all_sets") (sT "all_sets") (L2.defArgs (top 34)) (FuncBody.stmts (L2.defBody (top 34))) (L2.defScope (top 34)) 3 [] vN vN vN (qS "labelways.leasts" 400) .none (vR 211) vN 0)),
(216,cQ #[qS "left_places" 462,qS "left_places" 463,qS "/claim/cut.py" 464,vI 118 0,vI 2 0,vI 0 0,vI 0 0,vI 3 0,vR 213,vB true,vI 181 0,vR 214,vN,vN,vN,vR 215,vI 465 0,vI 118 0,qS "/claim/cut.py" 466]),
(217,fQ (.mk (sT "left_places") (sT "left_places") (L2.defArgs (top 35)) (FuncBody.stmts (L2.defBody (top 35))) (L2.defScope (top 35)) 3 [] vN vN vN (qS "labelways.leasts" 400) .none (vR 216) vN 0)),
(223,cQ #[qS "by_way_of" 468,qS "by_way_of" 469,qS "/claim/cut.py" 470,vI 120 0,vI 4 0,vI 0 0,vI 0 0,vI 3 0,vR 218,vB true,vI 181 0,vR 219,vN,vR 220,vR 221,vR 222,vI 475 0,vI 120 0,qS "/claim/cut.py" 476]),
(224,fQ (.mk (sT "by_way_of") (sT "by_way_of") (L2.defArgs (top 36)) (FuncBody.stmts (L2.defBody (top 36))) (L2.defScope (top 36)) 3 [] vN vN vN (qS "labelways.leasts" 400) .none (vR 223) vN 0)),
(230,cQ #[qS "least_order" 478,qS "least_order" 479,qS "/claim/cut.py" 480,vI 122 0,vI 1 0,vI 0 0,vI 0 0,vI 3 0,vR 225,vB true,vI 181 0,vR 226,vN,vR 227,vR 228,vR 229,vI 486 0,vI 122 0,qS "/claim/cut.py" 487]),
(231,fQ (.mk (sT "least_order") (sT "least_order") (L2.defArgs (top 37)) (FuncBody.stmts (L2.defBody (top 37))) (L2.defScope (top 37)) 3 [] vN vN vN (qS "labelways.leasts" 400) .none (vR 230) vN 0)),
(237,cQ #[qS "least_numbers" 489,qS "least_numbers" 490,qS "/claim/cut.py" 491,vI 131 0,vI 2 0,vI 0 0,vI 0 0,vI 3 0,vR 232,vB true,vI 181 0,vR 233,vN,vR 234,vR 235,vR 236,vI 497 0,vI 131 0,qS "/claim/cut.py" 498]),
(238,fQ (.mk (sT "least_numbers") (sT "least_numbers") (L2.defArgs (top 38)) (FuncBody.stmts (L2.defBody (top 38))) (L2.defScope (top 38)) 3 [] vN vN vN (qS "labelways.leasts" 400) .none (vR 237) vN 0)),
(244,cQ #[qS "best_next" 500,qS "best_next" 501,qS "/claim/cut.py" 502,vI 137 0,vI 4 0,vI 0 0,vI 0 0,vI 3 0,vR 239,vB true,vI 181 0,vR 240,vN,vR 241,vR 242,vR 243,vI 510 0,vI 137 0,qS "/claim/cut.py" 511]),
(245,fQ (.mk (sT "best_next") (sT "best_next") (L2.defArgs (top 39)) (FuncBody.stmts (L2.defBody (top 39))) (L2.defScope (top 39)) 3 [] vN vN vN (qS "labelways.leasts" 400) .none (vR 244) vN 0)),
(251,cQ #[qS "_law_tape" 515,qS "_law_tape" 516,qS "/claim/cut.py" 517,vI 140 0,vI 1 0,vI 0 0,vI 0 0,vI 3 0,vR 246,vB true,vI 181 0,vR 247,vN,vR 248,vR 249,vR 250,vI 519 0,vI 140 0,qS "/claim/cut.py" 520]),
(252,fT "_law_tape" 41 (qS "law_labelways_k37_whole_let_by_is_least" 513) 251),
(258,cQ #[qS "_law_draw" 522,qS "_law_draw" 523,qS "/claim/cut.py" 524,vI 142 0,vI 2 0,vI 0 0,vI 0 0,vI 3 0,vR 253,vB true,vI 181 0,vR 254,vN,vR 255,vR 256,vR 257,vI 531 0,vI 142 0,qS "/claim/cut.py" 532]),
(259,fT "_law_draw" 42 (qS "law_labelways_k37_whole_let_by_is_least" 513) 258),
(263,cQ #[qS "_law_web" 534,qS "_law_web" 535,qS "/claim/cut.py" 536,vI 155 0,vI 2 0,vI 0 0,vI 0 0,vI 3 0,vR 260,vB true,vI 181 0,vR 261,vN,vN,vN,vR 262,vI 537 0,vI 155 0,qS "/claim/cut.py" 538]),
(264,fT "_law_web" 43 (qS "law_labelways_k37_whole_let_by_is_least" 513) 263),
(270,cQ #[qS "_law_added" 540,qS "_law_added" 541,qS "/claim/cut.py" 542,vI 167 0,vI 2 0,vI 0 0,vI 0 0,vI 3 0,vR 265,vB true,vI 181 0,vR 266,vN,vR 267,vR 268,vR 269,vI 545 0,vI 167 0,qS "/claim/cut.py" 546]),
(271,fT "_law_added" 44 (qS "law_labelways_k37_whole_let_by_is_least" 513) 270),
(277,cQ #[qS "_law_lesser" 548,qS "_law_lesser" 549,qS "/claim/cut.py" 550,vI 169 0,vI 2 0,vI 0 0,vI 0 0,vI 3 0,vR 272,vB true,vI 181 0,vR 273,vN,vR 274,vR 275,vR 276,vI 553 0,vI 169 0,qS "/claim/cut.py" 554]),
(278,fT "_law_lesser" 45 (qS "law_labelways_k37_whole_let_by_is_least" 513) 277),
(282,cQ #[qS "_law_far" 556,qS "_law_far" 557,qS "/claim/cut.py" 558,vI 173 0,vI 1 0,vI 0 0,vI 0 0,vI 3 0,vR 279,vB true,vI 181 0,vR 280,vN,vN,vN,vR 281,vI 559 0,vI 173 0,qS "/claim/cut.py" 560]),
(283,fT "_law_far" 46 (qS "law_labelways_k37_whole_let_by_is_least" 513) 282),
(289,cQ #[qS "_law_on" 562,qS "_law_on" 563,qS "/claim/cut.py" 564,vI 185 0,vI 4 0,vI 0 0,vI 0 0,vI 3 0,vR 284,vB true,vI 181 0,vR 285,vN,vR 286,vR 287,vR 288,vI 570 0,vI 185 0,qS "/claim/cut.py" 571]),
(290,fT "_law_on" 47 (qS "law_labelways_k37_whole_let_by_is_least" 513) 289),
(296,cQ #[qS "_law_order" 573,qS "_law_order" 574,qS "/claim/cut.py" 575,vI 188 0,vI 2 0,vI 0 0,vI 0 0,vI 3 0,vR 291,vB true,vI 181 0,vR 292,vN,vR 293,vR 294,vR 295,vI 581 0,vI 188 0,qS "/claim/cut.py" 582]),
(297,fT "_law_order" 48 (qS "law_labelways_k37_whole_let_by_is_least" 513) 296),
(301,cQ #[qS "_law_masks" 584,qS "_law_masks" 585,qS "/claim/cut.py" 586,vI 194 0,vI 1 0,vI 0 0,vI 0 0,vI 3 0,vR 298,vB true,vI 181 0,vR 299,vN,vN,vN,vR 300,vI 587 0,vI 194 0,qS "/claim/cut.py" 588]),
(302,fT "_law_masks" 49 (qS "law_labelways_k37_whole_let_by_is_least" 513) 301),
(306,cQ #[qS "_law_brought" 590,qS "_law_brought" 591,qS "/claim/cut.py" 592,vI 203 0,vI 3 0,vI 0 0,vI 0 0,vI 3 0,vR 303,vB true,vI 181 0,vR 304,vN,vN,vN,vR 305,vI 593 0,vI 203 0,qS "/claim/cut.py" 594]),
(307,fT "_law_brought" 50 (qS "law_labelways_k37_whole_let_by_is_least" 513) 306),
(313,cQ #[qS "_law_in_all" 596,qS "_law_in_all" 597,qS "/claim/cut.py" 598,vI 205 0,vI 2 0,vI 0 0,vI 0 0,vI 3 0,vR 308,vB true,vI 181 0,vR 309,vN,vR 310,vR 311,vR 312,vI 604 0,vI 205 0,qS "/claim/cut.py" 605]),
(314,fT "_law_in_all" 51 (qS "law_labelways_k37_whole_let_by_is_least" 513) 313),
(318,cQ #[qS "_law_least" 607,qS "_law_least" 608,qS "/claim/cut.py" 609,vI 212 0,vI 1 0,vI 0 0,vI 0 0,vI 3 0,vR 315,vB true,vI 181 0,vR 316,vN,vN,vN,vR 317,vI 610 0,vI 212 0,qS "/claim/cut.py" 611]),
(319,fT "_law_least" 52 (qS "law_labelways_k37_whole_let_by_is_least" 513) 318),
(323,cQ #[qS "_law_least_order" 613,qS "_law_least_order" 614,qS "/claim/cut.py" 615,vI 219 0,vI 3 0,vI 0 0,vI 0 0,vI 3 0,vR 320,vB true,vI 181 0,vR 321,vN,vN,vN,vR 322,vI 616 0,vI 219 0,qS "/claim/cut.py" 617]),
(324,fT "_law_least_order" 53 (qS "law_labelways_k37_whole_let_by_is_least" 513) 323),
(328,cQ #[qS "_law_all_orders" 619,qS "_law_all_orders" 620,qS "/claim/cut.py" 621,vI 228 0,vI 1 0,vI 0 0,vI 0 0,vI 3 0,vR 325,vB true,vI 181 0,vR 326,vN,vN,vN,vR 327,vI 622 0,vI 228 0,qS "/claim/cut.py" 623]),
(329,fT "_law_all_orders" 54 (qS "law_labelways_k37_whole_let_by_is_least" 513) 328),
(335,cQ #[qS "_law_let" 625,qS "_law_let" 626,qS "/claim/cut.py" 627,vI 236 0,vI 2 0,vI 0 0,vI 0 0,vI 3 0,vR 330,vB true,vI 181 0,vR 331,vN,vR 332,vR 333,vR 334,vI 631 0,vI 236 0,qS "/claim/cut.py" 632]),
(336,fT "_law_let" 55 (qS "law_labelways_k37_whole_let_by_is_least" 513) 335),
(342,cQ #[qS "_law_numbers" 634,qS "_law_numbers" 635,qS "/claim/cut.py" 636,vI 243 0,vI 3 0,vI 0 0,vI 0 0,vI 3 0,vR 337,vB true,vI 181 0,vR 338,vN,vR 339,vR 340,vR 341,vI 643 0,vI 243 0,qS "/claim/cut.py" 644]),
(343,fT "_law_numbers" 56 (qS "law_labelways_k37_whole_let_by_is_least" 513) 342),
(347,cQ #[qS "law" 646,qS "law" 647,qS "/claim/cut.py" 648,vI 255 0,vI 1 0,vI 0 0,vI 0 0,vI 3 0,vR 344,vB true,vI 181 0,vR 345,vN,vN,vN,vR 346,vI 649 0,vI 255 0,qS "/claim/cut.py" 650]),
(348,fT "law" 57 (qS "law_labelways_k37_whole_let_by_is_least" 513) 347)]
noncomputable def Ka:List Addr:=[2,3,23,24,25,40,41,43,44,55,56,67,68,76,77,83,84,90,91,97,98,104,105,109,110,116,117,123,124,128,129,133,134,138,139,143,144,148,149,153,154,160,161,165,166,170,171,175,176,180,181,187,188,194,195,199,200,206,207,211,212,216,217,223,224,230,231,237,238,244,245,251,252,258,259,263,264,270,271,277,278,282,283,289,290,296,297,301,302,306,307,313,314,318,319,323,324,328,329,335,336,342,343,347,348]
theorem fkM {K:PySem.W.Frag}(x q:Str)(st:Stmt)(f:Addr)(pm cd:Value)(l:K.lookup f=some ⟨.type "function",.none,.func (PySem.W.fnOf x q (defArgs st) (defBody st) (defScope st) .none .none .none pm .none cd .none),#[]⟩:=by kernel_rfl) (c:PySem.W.codeIn K cd q=true:=by kernel_rfl)(k:PySem.W.keepIn K (.ref f)=true:=by kernel_rfl):Fun K x q st f (PySem.W.fnOf x q (defArgs st) (defBody st) (defScope st) .none .none .none pm .none cd .none):=zK9 l c k
theorem zG9:∀{us:List Value},us.length=1->∃u0,us=[u0]
 | [u0],_=>⟨u0,rfl⟩
theorem zED:∀{us:List Value},us.length=2->∃u0 u1,us=[u0,u1]
 | [u0,u1],_=>⟨u0,u1,rfl⟩
theorem zLE:∀{us:List Value},us.length=3->∃u0 u1 u2,us=[u0,u1,u2]
 | [u0,u1,u2],_=>⟨u0,u1,u2,rfl⟩
theorem usl4:∀{us:List Value},us.length=4->∃u0 u1 u2 u3,us=[u0,u1,u2,u3]
 | [u0,u1,u2,u3],_=>⟨u0,u1,u2,u3,rfl⟩
theorem walk {l:PySem.W.OpenLaw}{q:Program}{loose:List Str}{XP:(Str->Option Value)->Heap->Prop}{YP:World->Heap->Prop}{d:DefRec}{K:Params->PySem.W.Frag}(hn:l.most=some 63)(hdf:d.params.defaults=[])(hrec:∃dn,(PyProof.Rows.recsOf q).find? (fun e=>e.name==("nearest" : Str))=some dn) (hrec2:∃dn,(PyProof.Rows.recsOf q).find? (fun e=>e.name==("best_next" : Str))=some dn)
 (hY:∀(w:World)(h:Heap),YP w h->(K w.params).In h)
 (F:∀(w:World)(mg:Str->Option Value)(fa:Addr)(h:Heap),(K w.params).In h->h.Ns mainGlobals mg->mg d.name=some (.ref fa) ->
  ∃(fd:FuncData)(c P c2 P2:Addr),PySem.W.tabIn (K w.params) "nearest" = some (c,P)/\PySem.W.tabIn (K w.params) "best_next" = some (c2,P2)/\PySem.W.noTabs (K w.params)=true/\(∀(s:Shared)(u:Value),BindsTo s fd ⟨[u],[]⟩ [("_law_script",u)])/\∀base:Heap,(K w.params).In base->base.Ns mainGlobals mg->zG7 mg base->zAb l.prog w (K w.params) mg base CX0 10 fa fd ["_law_script"] (zJn (K w.params) P P2)) :
 PySem.W.WalkO q loose XP YP l.row.toRowW d [] (fun f vs=>PySem.call f vs):=
 L2.walk_T2 (n:=63) (k:=10) (x := "_law_script") (tn := "nearest") (t2 := "best_next") (CX:=CX0) (sp:=zJn) hn (by decide) hdf ⟨rfl,by decide,by decide,rfl⟩ hrec hrec2 hY F (fun _ _ _ _ a ns hl hP hP2 hS=>⟨a,ns,rfl,hS,hl,hP,hP2,fun _=>rfl⟩) fun _ _ _ _ z=>z
theorem fk {K:PySem.W.Frag}(x:Str)(st:Stmt)(f:Addr)(pm cd:Value)(l:K.lookup f=some ⟨.type "function",.none,.func (PySem.W.fnOf x x (defArgs st) (defBody st) (defScope st) .none .none .none pm .none cd .none),#[]⟩:=by kernel_rfl) (c:PySem.W.codeIn K cd x=true:=by kernel_rfl)(k:PySem.W.keepIn K (.ref f)=true:=by kernel_rfl):Fun K x x st f (PySem.W.fnOf x x (defArgs st) (defBody st) (defScope st) .none .none .none pm .none cd .none):=zK9 l c k
theorem fkC {K:PySem.W.Frag}(x:Str)(st:Stmt)(f:Addr)(pm:Value)(cc:Addr)(l:K.lookup f=some ⟨.type "function",.none,.func (PySem.W.fnOf x x (defArgs st) (defBody st) (defScope st) .none .none .none pm .none (.ref cc) .none),#[]⟩:=by kernel_rfl) (c:PySem.W.codeIn K (.ref cc) x=true:=by kernel_rfl)(k:PySem.W.keepIn K (.ref f)=true:=by kernel_rfl):zJY K x x st f (PySem.W.fnOf x x (defArgs st) (defBody st) (defScope st) .none .none .none pm .none (.ref cc) .none) cc:=zMS l c k
noncomputable abbrev pw:Program:=PySem.Challenge.pw_labelways_k37_whole_let_by_is_least
noncomputable def V:Program:={ pw with main:={ pw.main with body:=[top 1,top 2,top 3,top 4,top 6,top 7,top 8,top 9,top 11,top 13,top 14,top 15,top 16,top 17,top 19,top 20,top 21,top 22,top 23,top 24,top 26,top 27,top 28,top 29,top 30,top 31,top 32,top 33,top 34,top 35,top 36,top 37,top 38,top 39,top 41,top 42,top 43,top 44,top 45,top 46,top 47,top 48,top 49,top 50,top 51,top 52,top 53,top 54,top 55,top 56,top 57] } }
noncomputable abbrev RR:PySem.W.RowW:=PySem.W.OpenRow.toRowW (PySem.Challenge.rw_labelways_k37_whole_let_by_is_least).row
theorem Ke:∀P,Ka=(Kf P).map (·.1):=fun P=>by kernel_rfl
noncomputable abbrev HK:PySem.W.Hook:=PySem.W.kHook Kf Ka Ke
theorem left:PySem.W.LeftO pw V [] (fun s=>PySem.W.xlAt V [] s && PySem.W.recOk (PySem.W.RowW.records RR) s) (PySem.W.Hook.obs HK) (PySem.W.Hook.val HK) 4668:=L2.left_of (by kernel_rfl) (by decide) (fun _=>rfl) fun w os=>by kernel_rfl
noncomputable def dL:DefRec:={ name := "law",params:=defArgs sLaw,body:=defBody sLaw,scope:=defScope sLaw,pos:=⟨255,0,275,15⟩ }
theorem facts (w:World)(mg:Str->Option Value)(fa:Addr)(h:Heap)(KX:(Kf w.params).In h)(G:h.Ns mainGlobals mg)(hmg:mg "law" = some (.ref fa)):∃(fd:FuncData)(c P c2 P2:Addr),PySem.W.tabIn (Kf w.params) "nearest" = some (c,P)/\PySem.W.tabIn (Kf w.params) "best_next" = some (c2,P2)/\PySem.W.noTabs (Kf w.params)=true/\(∀(s:Shared)(u:Value),BindsTo s fd ⟨[u],[]⟩ [("_law_script",u)])/\∀base:Heap,(Kf w.params).In base->base.Ns mainGlobals mg->zG7 mg base->zAb (PySem.Challenge.rw_labelways_k37_whole_let_by_is_least).prog w (Kf w.params) mg base CX0 10 fa fd ["_law_script"] (zJn (Kf w.params) P P2):=by
 have mk:∀(x:Str)(f:Addr),PySem.W.nsIn (Kf w.params) mainGlobals x=some (some (.ref f))->mg x=some (.ref f):=fun x f e=>PySem.W.mg_of KX G e
 have mn:∀x:Str,PySem.W.nsIn (Kf w.params) mainGlobals x=some none->mg x=none:=fun x e=>PySem.W.mg_none_of KX G e
 have FTa:=fk (K:=Kf w.params) "_law_tape" zJw 252 (qS "law_labelways_k37_whole_let_by_is_least" 513) (vR 251)
 have bTa:=FTa.binds (ps:=["_law_script"]) fun _ _ _ _ _ _ us hl=>by obtain⟨u0,rfl⟩:=zG9 hl;rfl
 have mTa:=mk "_law_tape" 252 (by kernel_rfl)
 have FD:=fk (K:=Kf w.params) "_law_draw" zEh 259 (qS "law_labelways_k37_whole_let_by_is_least" 513) (vR 258)
 have bD:=FD.binds (ps:=["_law_tape_here", "_law_many"]) fun _ _ _ _ _ _ us hl=>by obtain⟨u0,u1,rfl⟩:=zED hl;rfl
 have mD:=mk "_law_draw" 259 (by kernel_rfl)
 have FW:=fk (K:=Kf w.params) "_law_web" sWeb 264 (qS "law_labelways_k37_whole_let_by_is_least" 513) (vR 263)
 have bW:=FW.binds (ps:=["_law_tape_here", "_law_n"]) fun _ _ _ _ _ _ us hl=>by obtain⟨u0,u1,rfl⟩:=zED hl;rfl
 have mW:=mk "_law_web" 264 (by kernel_rfl)
 have FT:=fk (K:=Kf w.params) "ties_at" zF0 105 (qS "labelways.webs" 300) (vR 104)
 have bT:=FT.binds (ps:=["web", "place"]) fun _ _ _ _ _ _ us hl=>by obtain⟨u0,u1,rfl⟩:=zED hl;rfl
 have mT:=mk "ties_at" 105 (by kernel_rfl)
 have FNe:=fkC (K:=Kf w.params) "nearest" zIA 124 (qS "labelways.lengths" 314) 123
 have bNe:=FNe.fn.binds (ps:=["waiting"]) fun _ _ _ _ _ _ us hl=>by obtain⟨u0,rfl⟩:=zG9 hl;rfl
 have mNe:=mk "nearest" 124 (by kernel_rfl)
 have FF:=fk (K:=Kf w.params) "lengths_from" zIE 117 (qS "labelways.lengths" 314) (vR 116)
 have bF:=FF.binds (ps:=["web", "start"]) fun _ _ _ _ _ _ us hl=>by obtain⟨u0,u1,rfl⟩:=zED hl;rfl
 have mF:=mk "lengths_from" 117 (by kernel_rfl)
 have FLe:=fk (K:=Kf w.params) "lengths" zHG 110 (qS "labelways.lengths" 314) (vR 109)
 have bLe:=FLe.binds (ps:=["web"]) fun _ _ _ _ _ _ us hl=>by obtain⟨u0,rfl⟩:=zG9 hl;rfl
 have mLe:=mk "lengths" 110 (by kernel_rfl)
 have FBw:=fk (K:=Kf w.params) "between_rows" sBwr 129 (qS "labelways.lengths" 314) (vR 128)
 have bBw:=FBw.binds (ps:=["here", "there", "other"]) fun _ _ _ _ _ _ us hl=>by obtain⟨u0,u1,u2,rfl⟩:=zLE hl;rfl
 have mBw:=mk "between_rows" 129 (by kernel_rfl)
 have FNb:=fk (K:=Kf w.params) "next_by_row" sNbr 134 (qS "labelways.lengths" 314) (vR 133)
 have bNb:=FNb.binds (ps:=["web", "one", "there"]) fun _ _ _ _ _ _ us hl=>by obtain⟨u0,u1,u2,rfl⟩:=zLE hl;rfl
 have mNb:=mk "next_by_row" 134 (by kernel_rfl)
 have FNu:=fk (K:=Kf w.params) "is_number" zKw 77 (qS "labelways.kinds" 266) (vR 76)
 have bNu:=FNu.binds (ps:=["thing"]) fun _ _ _ _ _ _ us hl=>by obtain⟨u0,rfl⟩:=zG9 hl;rfl
 have mNu:=mk "is_number" 77 (by kernel_rfl)
 have FWi:=fk (K:=Kf w.params) "is_within" sWi 84 (qS "labelways.kinds" 266) (vR 83)
 have bWi:=FWi.binds (ps:=["thing", "least", "most"]) fun _ _ _ _ _ _ us hl=>by obtain⟨u0,u1,u2,rfl⟩:=zLE hl;rfl
 have mWi:=mk "is_within" 84 (by kernel_rfl)
 have FPl:=fk (K:=Kf w.params) "is_place" sPl 98 (qS "labelways.kinds" 266) (vR 97)
 have bPl:=FPl.binds (ps:=["n", "thing"]) fun _ _ _ _ _ _ us hl=>by obtain⟨u0,u1,rfl⟩:=zED hl;rfl
 have mPl:=mk "is_place" 98 (by kernel_rfl)
 have FTo:=fk (K:=Kf w.params) "is_tuple_of" sTof 91 (qS "labelways.kinds" 266) (vR 90)
 have bTo:=FTo.binds (ps:=["thing", "count"]) fun _ _ _ _ _ _ us hl=>by obtain⟨u0,u1,rfl⟩:=zED hl;rfl
 have mTo:=mk "is_tuple_of" 91 (by kernel_rfl)
 have FIo:=fk (K:=Kf w.params) "is_order" sOrd 139 (qS "labelways.orders" 356) (vR 138)
 have bIo:=FIo.binds (ps:=["web", "thing"]) fun _ _ _ _ _ _ us hl=>by obtain⟨u0,u1,rfl⟩:=zED hl;rfl
 have mIo:=mk "is_order" 139 (by kernel_rfl)
 have FBy:=fk (K:=Kf w.params) "by_order" sByo 144 (qS "labelways.orders" 356) (vR 143)
 have bBy:=FBy.binds (ps:=["web", "order"]) fun _ _ _ _ _ _ us hl=>by obtain⟨u0,u1,rfl⟩:=zED hl;rfl
 have mBy:=mk "by_order" 144 (by kernel_rfl)
 have FLb:=fk (K:=Kf w.params) "label_by_ranks" sLbr 149 (qS "labelways.orders" 356) (vR 148)
 have bLb:=FLb.binds (ps:=["web", "rows", "ranks", "place"]) fun _ _ _ _ _ _ us hl=>by obtain⟨u0,u1,u2,u3,rfl⟩:=usl4 hl;rfl
 have mLb:=mk "label_by_ranks" 149 (by kernel_rfl)
 have FIh:=fk (K:=Kf w.params) "is_hub" sIsh 154 (qS "labelways.orders" 356) (vR 153)
 have bIh:=FIh.binds (ps:=["rows", "ranks", "hub", "place"]) fun _ _ _ _ _ _ us hl=>by obtain⟨u0,u1,u2,u3,rfl⟩:=usl4 hl;rfl
 have mIh:=mk "is_hub" 154 (by kernel_rfl)
 have FEb:=fk (K:=Kf w.params) "entry_by_rows" sEbr 161 (qS "labelways.orders" 356) (vR 160)
 have bEb:=FEb.binds (ps:=["web", "rows", "place", "hub"]) fun _ _ _ _ _ _ us hl=>by obtain⟨u0,u1,u2,u3,rfl⟩:=usl4 hl;rfl
 have mEb:=mk "entry_by_rows" 161 (by kernel_rfl)
 have FTt:=fk (K:=Kf w.params) "total" sTot 166 (qS "labelways.orders" 356) (vR 165)
 have bTt:=FTt.binds (ps:=["labels"]) fun _ _ _ _ _ _ us hl=>by obtain⟨u0,rfl⟩:=zG9 hl;rfl
 have mTt:=mk "total" 166 (by kernel_rfl)
 have FCf:=fk (K:=Kf w.params) "count_free" sCf 171 (qS "labelways.leasts" 400) (vR 170)
 have bCf:=FCf.binds (ps:=["sets", "taken"]) fun _ _ _ _ _ _ us hl=>by obtain⟨u0,u1,rfl⟩:=zED hl;rfl
 have mCf:=mk "count_free" 171 (by kernel_rfl)
 have FSf:=fk (K:=Kf w.params) "sets_from" sSf 176 (qS "labelways.leasts" 400) (vR 175)
 have bSf:=FSf.binds (ps:=["rows", "hub"]) fun _ _ _ _ _ _ us hl=>by obtain⟨u0,u1,rfl⟩:=zED hl;rfl
 have mSf:=mk "sets_from" 176 (by kernel_rfl)
 have FSn:=fk (K:=Kf w.params) "set_number" sSn 181 (qS "labelways.leasts" 400) (vR 180)
 have bSn:=FSn.binds (ps:=["places"]) fun _ _ _ _ _ _ us hl=>by obtain⟨u0,rfl⟩:=zG9 hl;rfl
 have mSn:=mk "set_number" 181 (by kernel_rfl)
 have FLt:=fk (K:=Kf w.params) "lets_least" zIC 188 (qS "labelways.leasts" 400) (vR 187)
 have bLt:=FLt.binds (ps:=["web", "thing"]) fun _ _ _ _ _ _ us hl=>by obtain⟨u0,u1,rfl⟩:=zED hl;rfl
 have mLt:=mk "lets_least" 188 (by kernel_rfl)
 have FRt:=fk (K:=Kf w.params) "refuse_too_many" sRtm 195 (qS "labelways.leasts" 400) (vR 194)
 have bRt:=FRt.binds (ps:=["web"]) fun _ _ _ _ _ _ us hl=>by obtain⟨u0,rfl⟩:=zG9 hl;rfl
 have mRt:=mk "refuse_too_many" 195 (by kernel_rfl)
 have FOw:=fk (K:=Kf w.params) "is_order_with_numbers" zID 200 (qS "labelways.leasts" 400) (vR 199)
 have bOw:=FOw.binds (ps:=["web", "thing"]) fun _ _ _ _ _ _ us hl=>by obtain⟨u0,u1,rfl⟩:=zED hl;rfl
 have mOw:=mk "is_order_with_numbers" 200 (by kernel_rfl)
 have FSx:=fk (K:=Kf w.params) "step_fault" zH9 207 (qS "labelways.leasts" 400) (vR 206)
 have bSx:=FSx.binds (ps:=["web", "numbers"]) fun _ _ _ _ _ _ us hl=>by obtain⟨u0,u1,rfl⟩:=zED hl;rfl
 have mSx:=mk "step_fault" 207 (by kernel_rfl)
 have FAs:=fk (K:=Kf w.params) "all_sets" zHI 212 (qS "labelways.leasts" 400) (vR 211)
 have bAs:=FAs.binds (ps:=["web"]) fun _ _ _ _ _ _ us hl=>by obtain⟨u0,rfl⟩:=zG9 hl;rfl
 have mAs:=mk "all_sets" 212 (by kernel_rfl)
 have FLp:=fk (K:=Kf w.params) "left_places" sLpl 217 (qS "labelways.leasts" 400) (vR 216)
 have bLp:=FLp.binds (ps:=["web", "taken"]) fun _ _ _ _ _ _ us hl=>by obtain⟨u0,u1,rfl⟩:=zED hl;rfl
 have mLp:=mk "left_places" 217 (by kernel_rfl)
 have FBo:=fk (K:=Kf w.params) "by_way_of" zKx 224 (qS "labelways.leasts" 400) (vR 223)
 have bBo:=FBo.binds (ps:=["sets", "numbers", "taken", "hub"]) fun _ _ _ _ _ _ us hl=>by obtain⟨u0,u1,u2,u3,rfl⟩:=usl4 hl;rfl
 have mBo:=mk "by_way_of" 224 (by kernel_rfl)
 have FLo:=fk (K:=Kf w.params) "least_order" zJz 231 (qS "labelways.leasts" 400) (vR 230)
 have bLo:=FLo.binds (ps:=["web"]) fun _ _ _ _ _ _ us hl=>by obtain⟨u0,rfl⟩:=zG9 hl;rfl
 have mLo:=mk "least_order" 231 (by kernel_rfl)
 have FLn:=fk (K:=Kf w.params) "least_numbers" zIB 238 (qS "labelways.leasts" 400) (vR 237)
 have bLn:=FLn.binds (ps:=["web", "sets"]) fun _ _ _ _ _ _ us hl=>by obtain⟨u0,u1,rfl⟩:=zED hl;rfl
 have mLn:=mk "least_numbers" 238 (by kernel_rfl)
 have FBn:=fkC (K:=Kf w.params) "best_next" zHH 245 (qS "labelways.leasts" 400) 244
 have bBn:=FBn.fn.binds (ps:=["web", "sets", "numbers", "taken"]) fun _ _ _ _ _ _ us hl=>by obtain⟨u0,u1,u2,u3,rfl⟩:=usl4 hl;rfl
 have mBn:=mk "best_next" 245 (by kernel_rfl)
 have FA:=fk (K:=Kf w.params) "_law_added" sAdd 271 (qS "law_labelways_k37_whole_let_by_is_least" 513) (vR 270)
 have bA:=FA.binds (ps:=["_law_one", "_law_other"]) fun _ _ _ _ _ _ us hl=>by obtain⟨u0,u1,rfl⟩:=zED hl;rfl
 have mA:=mk "_law_added" 271 (by kernel_rfl)
 have FLs:=fk (K:=Kf w.params) "_law_lesser" sLes 278 (qS "law_labelways_k37_whole_let_by_is_least" 513) (vR 277)
 have bLs:=FLs.binds (ps:=["_law_one", "_law_other"]) fun _ _ _ _ _ _ us hl=>by obtain⟨u0,u1,rfl⟩:=zED hl;rfl
 have mLs:=mk "_law_lesser" 278 (by kernel_rfl)
 have FFr:=fk (K:=Kf w.params) "_law_far" sFar 283 (qS "law_labelways_k37_whole_let_by_is_least" 513) (vR 282)
 have bFr:=FFr.binds (ps:=["_law_web_here"]) fun _ _ _ _ _ _ us hl=>by obtain⟨u0,rfl⟩:=zG9 hl;rfl
 have mFr:=mk "_law_far" 283 (by kernel_rfl)
 have FO:=fk (K:=Kf w.params) "_law_on" sOn 290 (qS "law_labelways_k37_whole_let_by_is_least" 513) (vR 289)
 have bO:=FO.binds (ps:=["_law_far_here", "_law_place", "_law_one", "_law_other"]) fun _ _ _ _ _ _ us hl=>by obtain⟨u0,u1,u2,u3,rfl⟩:=usl4 hl;rfl
 have mO:=mk "_law_on" 290 (by kernel_rfl)
 have FOr:=fk (K:=Kf w.params) "_law_order" zGc 297 (qS "law_labelways_k37_whole_let_by_is_least" 513) (vR 296)
 have bOr:=FOr.binds (ps:=["_law_tape_here", "_law_n"]) fun _ _ _ _ _ _ us hl=>by obtain⟨u0,u1,rfl⟩:=zED hl;rfl
 have mOr:=mk "_law_order" 297 (by kernel_rfl)
 have FMa:=fk (K:=Kf w.params) "_law_masks" zJy 302 (qS "law_labelways_k37_whole_let_by_is_least" 513) (vR 301)
 have bMa:=FMa.binds (ps:=["_law_web_here"]) fun _ _ _ _ _ _ us hl=>by obtain⟨u0,rfl⟩:=zG9 hl;rfl
 have mMa:=mk "_law_masks" 302 (by kernel_rfl)
 have FBr:=fk (K:=Kf w.params) "_law_brought" zLb 307 (qS "law_labelways_k37_whole_let_by_is_least" 513) (vR 306)
 have bBr:=FBr.binds (ps:=["_law_masks_here", "_law_some", "_law_hub"]) fun _ _ _ _ _ _ us hl=>by obtain⟨u0,u1,u2,rfl⟩:=zLE hl;rfl
 have mBr:=mk "_law_brought" 307 (by kernel_rfl)
 have FIn:=fk (K:=Kf w.params) "_law_in_all" zJ1 314 (qS "law_labelways_k37_whole_let_by_is_least" 513) (vR 313)
 have bIn:=FIn.binds (ps:=["_law_masks_here", "_law_order_here"]) fun _ _ _ _ _ _ us hl=>by obtain⟨u0,u1,rfl⟩:=zED hl;rfl
 have mIn:=mk "_law_in_all" 314 (by kernel_rfl)
 have FLl:=fk (K:=Kf w.params) "_law_least" zJ0 319 (qS "law_labelways_k37_whole_let_by_is_least" 513) (vR 318)
 have bLl:=FLl.binds (ps:=["_law_masks_here"]) fun _ _ _ _ _ _ us hl=>by obtain⟨u0,rfl⟩:=zG9 hl;rfl
 have mLl:=mk "_law_least" 319 (by kernel_rfl)
 have FLz:=fk (K:=Kf w.params) "_law_least_order" sLeo 324 (qS "law_labelways_k37_whole_let_by_is_least" 513) (vR 323)
 have bLz:=FLz.binds (ps:=["_law_tape_here", "_law_masks_here", "_law_least_here"]) fun _ _ _ _ _ _ us hl=>by obtain⟨u0,u1,u2,rfl⟩:=zLE hl;rfl
 have mLz:=mk "_law_least_order" 324 (by kernel_rfl)
 have FAo:=fk (K:=Kf w.params) "_law_all_orders" zJ2 329 (qS "law_labelways_k37_whole_let_by_is_least" 513) (vR 328)
 have bAo:=FAo.binds (ps:=["_law_n"]) fun _ _ _ _ _ _ us hl=>by obtain⟨u0,rfl⟩:=zG9 hl;rfl
 have mAo:=mk "_law_all_orders" 329 (by kernel_rfl)
 have FLv:=fk (K:=Kf w.params) "_law_let" sLet 336 (qS "law_labelways_k37_whole_let_by_is_least" 513) (vR 335)
 have bLv:=FLv.binds (ps:=["_law_web_here", "_law_thing"]) fun _ _ _ _ _ _ us hl=>by obtain⟨u0,u1,rfl⟩:=zED hl;rfl
 have mLv:=mk "_law_let" 336 (by kernel_rfl)
 have FNm:=fk (K:=Kf w.params) "_law_numbers" zJx 343 (qS "law_labelways_k37_whole_let_by_is_least" 513) (vR 342)
 have bNm:=FNm.binds (ps:=["_law_tape_here", "_law_least_here", "_law_first"]) fun _ _ _ _ _ _ us hl=>by obtain⟨u0,u1,u2,rfl⟩:=zLE hl;rfl
 have mNm:=mk "_law_numbers" 343 (by kernel_rfl)
 have FZ:=fk (K:=Kf w.params) "law" sLaw 348 (qS "law_labelways_k37_whole_let_by_is_least" 513) (vR 347)
 have mb0:=mn "len" (by kernel_rfl)
 have mb1:=mn "range" (by kernel_rfl)
 have mb2:=mn "tuple" (by kernel_rfl)
 have mb3:=mn "sorted" (by kernel_rfl)
 have mb4:=mn "min" (by kernel_rfl)
 have mb5:=mn "list" (by kernel_rfl)
 have mb6:=mn "isinstance" (by kernel_rfl)
 have mb7:=mn "int" (by kernel_rfl)
 have mb8:=mn "bool" (by kernel_rfl)
 have mb9:=mn "all" (by kernel_rfl)
 have mb10:=mn "set" (by kernel_rfl)
 have mb11:=mn "sum" (by kernel_rfl)
 have mb12:=mn "enumerate" (by kernel_rfl)
 have e:=hmg.symm.trans (mk "law" 348 (by kernel_rfl))
 cases e
 have FI:=fkM (K:=Kf w.params) "__init__" "NoLeast.__init__" sI1 41 (qS "labelways.errors" 187) (vR 40)
 have bI:=FI.binds (ps:=["self", "word", "at"]) fun _ _ _ _ _ _ us hl=>by obtain⟨u0,u1,u2,rfl⟩:=zLE hl;rfl
 have mC:mg "NoLeast" = some (.ref 44):=mk "NoLeast" 44 (by kernel_rfl)
 have EI:zG5 (Kf w.params) 44 41:=⟨by kernel_rfl,by kernel_rfl,by kernel_rfl,by kernel_rfl,by kernel_rfl⟩
 have sb:L2.subIn (Kf w.params) 44 44=true:=by kernel_rfl
 have mo:PySem.W.mroIn (Kf w.params) 44 (.type "object")=some true:=by kernel_rfl
 have i1:PySem.W.findIn (Kf w.params) (.ref 44) "word" = some none:=by kernel_rfl
 have i2:PySem.W.findIn (Kf w.params) (.ref 44) "at" = some none:=by kernel_rfl
 have mMT:mg "MOST_PLACES_OF_LEASTS" = some (.int 8 402):=PySem.W.mg_of KX G (by kernel_rfl)
 exact⟨_,123,119,244,240,by kernel_rfl,by kernel_rfl,by kernel_rfl,fun s v=>.of_eq rfl,fun base hb _ hbm=>ok_law FZ (PySem.W.codeHd_of_K hb (show PySem.W.codeHdIn (Kf w.params) 123 119=true by kernel_rfl)) (PySem.W.codeHd_of_K hb (show PySem.W.codeHdIn (Kf w.params) 244 240=true by kernel_rfl)) hbm (by decide) mC EI sb FI bI mo i1 i2 mMT FTa bTa mTa FD bD mD FW bW mW FT bT mT FNe bNe mNe FF bF mF FLe bLe mLe FBw bBw mBw FNb bNb mNb FNu bNu mNu FWi bWi mWi FPl bPl mPl FTo bTo mTo FIo bIo mIo FBy bBy mBy FLb bLb mLb FIh bIh mIh FEb bEb mEb FTt bTt mTt FCf bCf mCf FSf bSf mSf FSn bSn mSn FLt bLt mLt FRt bRt mRt FOw bOw mOw FSx bSx mSx FAs bAs mAs FLp bLp mLp FBo bBo mBo FLo bLo mLo FLn bLn mLn FBn bBn mBn FA bA mA FLs bLs mLs FFr bFr mFr FO bO mO FOr bOr mOr FMa bMa mMa FBr bBr mBr FIn bIn mIn FLl bLl mLl FLz bLz mLz FAo bAo mAo FLv bLv mLv FNm bNm mNm mb0 mb1 mb2 mb3 mb4 mb5 mb6 mb7 mb8 mb9 mb10 mb11 mb12⟩
end K37
open PySem PySem.W PyProof.Rows
set_option maxRecDepth 100000 in
set_option maxHeartbeats 0 in
theorem PySem.Challenge.cw_labelways_k37_whole_let_by_is_least_holds : PySem.Challenge.rw_labelways_k37_whole_let_by_is_least.Holds := by
 refine holds_law (by decide +kernel) fun said=>?_
 refine holds_open (q:=K37.V) (loose:=[]) (Xt:=fun s=>xlAt K37.V [] s && recOk (RowW.records K37.RR) s) (XP:=XL K37.V []) (Yf:=Hook.obs K37.HK) (Ya:=Hook.val K37.HK) (YP:=Hook.says K37.HK) (d:=K37.dL) (kwd:=[]) (N:=4668) K37.left (Hook.of K37.HK) (Hook.keeps K37.HK) (fun s e=>xl_of s (Bool.and_eq_true_iff.mp e).1) XL.keeps (by kernel_rfl) (by kernel_rfl) (by kernel_rfl) (fun s e=>recFacts_of (Bool.and_eq_true_iff.mp e).2) (by kernel_rfl) said (by decide +kernel) ⟨rfl,rfl,rfl,rfl,rfl,by decide +kernel⟩ ?hw ?hc
 case hw=>w_witness2
 case hc=>
  exact K37.walk (l:=PySem.Challenge.rw_labelways_k37_whole_let_by_is_least) (K:=K37.Kf) rfl rfl ⟨((PyProof.Rows.recsOf K37.V).find? (fun e=>e.name==("nearest" : Str))).get (by decide +kernel),by simp⟩ ⟨((PyProof.Rows.recsOf K37.V).find? (fun e=>e.name==("best_next" : Str))).get (by decide +kernel),by simp⟩ (fun w h Y=>PySem.W.kIn_of Y) K37.facts
